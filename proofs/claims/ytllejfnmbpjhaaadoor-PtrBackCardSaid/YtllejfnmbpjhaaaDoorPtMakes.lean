/- PtrMakes: the law's walk. -/
import Derived.Test.YtllejfnmbpjhaaaDoorPtAlive
namespace Go.Proofs.YtllejfnmbpjhaaaDoor
set_option maxRecDepth 20000
namespace Pt
open Go.RowKit Dk Eqb Byt

attribute [local go_sem] zvP
theorem eq_pt_same (p : Pn) (w : World) : (Op.equalIn 10000 65 (.agg (pV p).toArray) (.agg (pV p).toArray)).run Tryd.prog w = .ok true w := by rw [eq_pt, eqP_same]
theorem new_pt (w : World) (p : Pn) : ∃ W, W = w.alloc (.cells (pV p).toArray 65) ∧ Below w.heap.size w W ∧ W.heap[w.heap.size]? = some (.cells (pV p).toArray 65 (0, 0)) ∧ W.heap.size = w.heap.size + 1 :=
  ⟨_, rfl, (Below.refl _ _).alloc (Nat.le_refl _) _, heap_alloc_new _ _, by simp⟩
theorem new_bl (w : World) (D : Nat → Int) : ∃ W, W = w.alloc (.cells (bl D).toArray 22) ∧ Below w.heap.size w W ∧ Row W w.heap.size 0 128 D ∧ W.heap.size = w.heap.size + 1 :=
  ⟨_, rfl, (Below.refl _ _).alloc (Nat.le_refl _) _, row_of (t := 22) (heap_alloc_new _ _), by simp⟩

end Pt
end Go.Proofs.YtllejfnmbpjhaaaDoor
