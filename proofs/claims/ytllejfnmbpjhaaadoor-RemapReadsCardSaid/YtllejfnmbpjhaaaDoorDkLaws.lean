/- disk: the laws of Flush and Crash, walked. -/
import Derived.Test.YtllejfnmbpjhaaaDoorDkAlive
namespace Go.Proofs.YtllejfnmbpjhaaaDoor
set_option maxRecDepth 20000
namespace Dk
open Go.RowKit

theorem Lay.far {w w' : World} {B g : Nat} {ao : Option Addr} {n cap k : Nat} {T : Nat → List Value} (h : Lay w B g ao n cap k T) (hk : ∀ i, i < n → (T i).length = k) (hk4 : 4 < k) {q : Nat} {cs : Array Value} {t : TypeId} {fr : Nat × Nat} (hq : w.heap[q]? = some (.cells cs t fr)) (hs : cs.size = 4) (hg : w.grownBy w' (some q)) (hB : B ≤ w.heap.size) : Lay w' B g ao n cap k T := by
  refine ⟨h.room, h.nil, ?_⟩
  rcases h.rows with h0 | ⟨b, off, e, hb, hne, hr⟩
  · exact .inl h0
  · rcases Nat.eq_zero_or_pos n with h0 | h0
    · exact .inl h0
    · have hbq : b ≠ q := by
        rintro rfl
        have hl := hk 0 h0
        have h4 : 4 < (T 0).length := by omega
        have := hr 0 h0 4 _ (List.getElem?_eq_getElem h4)
        rw [cell_of_row w b _ cs t fr hq, Array.getElem?_eq_none (by omega)] at this
        cases this
      exact .inr ⟨b, off, e, hb, hne, fun i hi j v hv => (World.cell?_of_block (w := w) (hg.block b (by omega) (by simpa using hbq))).trans (hr i hi j v hv)⟩
/-- a disk, behind what turned another one -/
theorem Has.apart {w w' : World} {g q : Nat} {sa ca : Option Addr} {n sc m cc : Nat} {S : Nat → Sec} {C : Nat → Wr} {f : Int} {d : Bool} {cs : Array Value} {t : TypeId} {fr : Nat × Nat} (h : Has w g sa ca n sc m cc S C f d) (hq : w.heap[q]? = some (.cells cs t fr)) (hs : cs.size = 4) (hne : g ≠ q) (hg : w.grownBy w' (some q)) : Has w' g sa ca n sc m cc S C f d :=
  ⟨h.bx.block (hg.block g h.bx.lt (by simpa using hne)), (h.ss.far (fun i _ => secV_length _) (by omega) hq hs hg (Nat.le_refl _)).more hg.size, (h.cs.far (fun i _ => wrV_length _) (by omega) hq hs hg (Nat.le_refl _)).more hg.size, h.nb, h.mb⟩
theorem two_boxes (w : World) (va vb : Array Value) : ∀ W, W = (((w.alloc (.cells #[.slice none 0 0, .slice none 0 0, .int .i64 0, .bool false] 35)).alloc (.cells #[.slice none 0 0, .slice none 0 0, .int .i64 0, .bool false] 35)).setRow w.heap.size va).setRow (w.heap.size + 1) vb →
    W.heap[w.heap.size]? = some (.cells va 35 (0, 0)) ∧ W.heap[w.heap.size + 1]? = some (.cells vb 35 (0, 0)) ∧ Below w.heap.size w W ∧ W.heap.size = w.heap.size + 2 := by
  rintro W rfl
  have h0 : ((w.alloc (.cells #[.slice none 0 0, .slice none 0 0, .int .i64 0, .bool false] 35)).alloc (.cells #[.slice none 0 0, .slice none 0 0, .int .i64 0, .bool false] 35)).heap[w.heap.size]? = some (.cells #[.slice none 0 0, .slice none 0 0, .int .i64 0, .bool false] 35 (0, 0)) := (Below.heap_alloc _ _ _ (by simp)).trans (heap_alloc_new w _)
  have h1 : ((w.alloc (.cells #[.slice none 0 0, .slice none 0 0, .int .i64 0, .bool false] 35)).alloc (.cells #[.slice none 0 0, .slice none 0 0, .int .i64 0, .bool false] 35)).heap[w.heap.size + 1]? = some (.cells #[.slice none 0 0, .slice none 0 0, .int .i64 0, .bool false] 35 (0, 0)) := by
    have := heap_alloc_new (w.alloc (.cells #[.slice none 0 0, .slice none 0 0, .int .i64 0, .bool false] 35)) (.cells #[.slice none 0 0, .slice none 0 0, .int .i64 0, .bool false] 35)
    simpa using this
  have hA := setRow_heap _ w.heap.size _ va 35 (0, 0) h0
  refine ⟨(setRow_other _ _ _ _ (by omega)).trans hA, setRow_heap _ _ _ vb 35 (0, 0) ((setRow_other _ _ _ _ (by omega)).trans h1), ?_, by simp⟩
  refine ⟨rfl, rfl, rfl, by simp; omega, fun k hk => ?_⟩
  rw [setRow_other _ _ _ _ (by omega), setRow_other _ _ _ _ (by omega), Below.heap_alloc _ _ _ (by simp; omega), Below.heap_alloc _ _ _ hk]
theorem two_mid (w : World) (va : Array Value) : (((w.alloc (.cells #[.slice none 0 0, .slice none 0 0, .int .i64 0, .bool false] 35)).alloc (.cells #[.slice none 0 0, .slice none 0 0, .int .i64 0, .bool false] 35)).setRow w.heap.size va).heap[w.heap.size + 1]? = some (.cells #[.slice none 0 0, .slice none 0 0, .int .i64 0, .bool false] 35 (0, 0)) := by
  refine (setRow_other _ _ _ _ (by omega)).trans ?_
  have := heap_alloc_new (w.alloc (.cells #[.slice none 0 0, .slice none 0 0, .int .i64 0, .bool false] 35)) (.cells #[.slice none 0 0, .slice none 0 0, .int .i64 0, .bool false] 35)
  simpa using this
theorem Copied.has {w w2 W : World} {n m : Nat} {S : Nat → Sec} {C : Nat → Wr} {f : Int} {d : Bool} {sa ca : Option Addr} {sc cc : Nat} (p : w2.ownsRow w.heap.size 56 130 (.slice sa n sc) n (flat (fun i => secV (S i)) n)) (q : w2.ownsRow w.heap.size 104 129 (.slice ca m cc) m (flat (fun i => wrV (C i)) m))
    (hb : Below w2.heap.size w2 W) {A : Nat} (hA : w2.heap.size ≤ A) (hx : W.heap[A]? = some (.cells #[.slice sa n sc, .slice ca m cc, .int .i64 f, .bool d] 35 (0, 0))) (nb : n * 130 ≤ 140737488355328) (mb : m * 136 ≤ 140737488355328) : Has W A sa ca n sc m cc S C f d :=
  ⟨hx, ((lay_own (fun _i _ => secV_length _) p (.inr hA)).below hb).more hb.size, ((lay_own (fun _i _ => wrV_length _) q (.inr hA)).below hb).more hb.size, nb, mb⟩

theorem two_boxes2 (w : World) (va vb : Array Value) : ∃ W, W = (((w.alloc (.cells #[.slice none 0 0, .slice none 0 0, .int .i64 0, .bool false] 35)).alloc (.cells #[.slice none 0 0, .slice none 0 0, .int .i64 0, .bool false] 35)).setRow w.heap.size va).setRow (w.heap.size + 1) vb ∧
    W.heap[w.heap.size]? = some (.cells va 35 (0, 0)) ∧ W.heap[w.heap.size + 1]? = some (.cells vb 35 (0, 0)) ∧ Below w.heap.size w W ∧ W.heap.size = w.heap.size + 2 := ⟨_, rfl, two_boxes w va vb _ rfl⟩

end Dk
end Go.Proofs.YtllejfnmbpjhaaaDoor
