/- PtrNodes: the law's walk. -/
import Derived.Test.YtllejfnmbpjhaaaDoorPtNodeC
import Derived.Test.YtllejfnmbpjhaaaDoorPtRefNode
import Derived.Test.YtllejfnmbpjhaaaDoorPtParts
namespace Go.Proofs.YtllejfnmbpjhaaaDoor
set_option maxRecDepth 20000
namespace Pt
open Go.RowKit Dk Eqb Byt

theorem part_pt (Q : Nat → Pn) (i : Nat) (hi : i < 3) (w : World) : (part 65 (f3 Q).toArray (i * 34)).run Tryd.prog w = .ok (.agg (pV (Q i)).toArray) w := by
  match i, hi with
  | 0, _ =>
    show (part 65 (f3 Q).toArray 0).run Tryd.prog w = .ok (.agg (pV (Q 0)).toArray) w
    kernel_rfl
  | 1, _ =>
    show (part 65 (f3 Q).toArray 34).run Tryd.prog w = .ok (.agg (pV (Q 1)).toArray) w
    kernel_rfl
  | 2, _ =>
    show (part 65 (f3 Q).toArray 68).run Tryd.prog w = .ok (.agg (pV (Q 2)).toArray) w
    kernel_rfl
  | n + 3, h => omega
theorem eqItems_pt (Q : Nat → Pn) (d : Nat) (w : World) : ∀ is : List Nat, (∀ i ∈ is, i < 3) → (Op.eqItems (d + 3) 65 34 (f3 Q).toArray (f3 Q).toArray is).run Tryd.prog w = .ok true w
  | [], _ => by simp [Op.eqItems]
  | i :: is, h => by
    have ih := eqItems_pt Q d w is fun j hj => h j (by simp [hj])
    simp only [Op.eqItems, Sem.run_bind, part_pt Q i (h i (by simp)) w, Result.andThen_ok, eq_pt1 d (Q i) w]
    simpa using ih
theorem eq_3 (Q : Nat → Pn) (w : World) : (Op.equalIn 10000 66 (.agg (f3 Q).toArray) (.agg (f3 Q).toArray)).run Tryd.prog w = .ok true w := by
  obtain ⟨i, hi⟩ : ∃ i, Tryd.prog.info? 65 = some i := ⟨_, rfl⟩
  rw [run_equalIn_array w 9999 (n := 3) (e := 65) _ _ (by kernel_rfl) hi, show Tryd.prog.cellsOf 65 = 34 by kernel_rfl]
  exact eqItems_pt Q 9996 w _ fun i hi => by simpa using hi
theorem new_f3 (w : World) (Q : Nat → Pn) : ∃ W, W = w.alloc (.cells (f3 Q).toArray 66) ∧ Below w.heap.size w W ∧ W.heap[w.heap.size]? = some (.cells (f3 Q).toArray 66 (0, 0)) ∧ W.heap.size = w.heap.size + 1 :=
  ⟨_, rfl, (Below.refl _ _).alloc (Nat.le_refl _) _, heap_alloc_new _ _, by simp⟩
attribute [local go_sem] zvB zv3
attribute [local go_sem] zcB zc3
end Pt
end Go.Proofs.YtllejfnmbpjhaaaDoor
