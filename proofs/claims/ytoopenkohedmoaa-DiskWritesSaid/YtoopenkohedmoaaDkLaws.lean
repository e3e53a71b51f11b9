/- disk: the laws of Flush and Crash, walked. -/
import Derived.Test.YtoopenkohedmoaaDkAlive
namespace Go.Proofs.Ytoopenkohedmoaa
namespace Dk
open Go.RowKit

theorem Lay.far {w w' : World} {B g : Nat} {ao : Option Addr} {n cap k : Nat} {T : Nat → List Value} (h : Lay w B g ao n cap k T) (hk : ∀ i, i < n → (T i).length = k) (hk4 : 4 < k) {q : Nat} {cs : Array Value} {t : TypeId} {fr : Nat × Nat} (hq : w.heap[q]? = some (.cells cs t fr)) (hs : cs.size = 4) (hg : w.grownBy w' (some q)) (hB : B ≤ w.heap.size) : Lay w' B g ao n cap k T := by
  refine ⟨h.room, h.nil, ?_⟩
  rcases h.rows with h0 | ⟨b, off, e, hb, hne, hr⟩
  · exact .inl h0
  · rcases Nat.eq_zero_or_pos n with h0 | h0
    · exact .inl h0
    · have hbq : b ≠ q := by
        rintro rfl
        have hl := hk 0 h0
        have h4 : 4 < (T 0).length := by omega
        have := hr 0 h0 4 _ (List.getElem?_eq_getElem h4)
        rw [cell_of_row w b _ cs t fr hq, Array.getElem?_eq_none (by omega)] at this
        cases this
      exact .inr ⟨b, off, e, hb, hne, fun i hi j v hv => (World.cell?_of_block (w := w) (hg.block b (by omega) (by simpa using hbq))).trans (hr i hi j v hv)⟩
/-- a disk, behind what turned another one -/
theorem Has.apart {w w' : World} {g q : Nat} {sa ca : Option Addr} {n sc m cc : Nat} {S : Nat → Sec} {C : Nat → Wr} {f : Int} {d : Bool} {cs : Array Value} {t : TypeId} {fr : Nat × Nat} (h : Has w g sa ca n sc m cc S C f d) (hq : w.heap[q]? = some (.cells cs t fr)) (hs : cs.size = 4) (hne : g ≠ q) (hg : w.grownBy w' (some q)) : Has w' g sa ca n sc m cc S C f d :=
  ⟨h.bx.block (hg.block g h.bx.lt (by simpa using hne)), (h.ss.far (fun i _ => secV_length _) (by omega) hq hs hg (Nat.le_refl _)).more hg.size, (h.cs.far (fun i _ => wrV_length _) (by omega) hq hs hg (Nat.le_refl _)).more hg.size, h.nb, h.mb⟩
theorem two_boxes (w : World) (va vb : Array Value) : ∀ W, W = (((w.alloc (.cells #[.slice none 0 0, .slice none 0 0, .int .i64 0, .bool false] 25)).alloc (.cells #[.slice none 0 0, .slice none 0 0, .int .i64 0, .bool false] 25)).setRow w.heap.size va).setRow (w.heap.size + 1) vb →
    W.heap[w.heap.size]? = some (.cells va 25 (0, 0)) ∧ W.heap[w.heap.size + 1]? = some (.cells vb 25 (0, 0)) ∧ Below w.heap.size w W ∧ W.heap.size = w.heap.size + 2 := by
  rintro W rfl
  have h0 : ((w.alloc (.cells #[.slice none 0 0, .slice none 0 0, .int .i64 0, .bool false] 25)).alloc (.cells #[.slice none 0 0, .slice none 0 0, .int .i64 0, .bool false] 25)).heap[w.heap.size]? = some (.cells #[.slice none 0 0, .slice none 0 0, .int .i64 0, .bool false] 25 (0, 0)) := (Below.heap_alloc _ _ _ (by simp)).trans (heap_alloc_new w _)
  have h1 : ((w.alloc (.cells #[.slice none 0 0, .slice none 0 0, .int .i64 0, .bool false] 25)).alloc (.cells #[.slice none 0 0, .slice none 0 0, .int .i64 0, .bool false] 25)).heap[w.heap.size + 1]? = some (.cells #[.slice none 0 0, .slice none 0 0, .int .i64 0, .bool false] 25 (0, 0)) := by
    have := heap_alloc_new (w.alloc (.cells #[.slice none 0 0, .slice none 0 0, .int .i64 0, .bool false] 25)) (.cells #[.slice none 0 0, .slice none 0 0, .int .i64 0, .bool false] 25)
    simpa using this
  have hA := setRow_heap _ w.heap.size _ va 25 (0, 0) h0
  refine ⟨(setRow_other _ _ _ _ (by omega)).trans hA, setRow_heap _ _ _ vb 25 (0, 0) ((setRow_other _ _ _ _ (by omega)).trans h1), ?_, by simp⟩
  refine ⟨rfl, rfl, rfl, by simp; omega, fun k hk => ?_⟩
  rw [setRow_other _ _ _ _ (by omega), setRow_other _ _ _ _ (by omega), Below.heap_alloc _ _ _ (by simp; omega), Below.heap_alloc _ _ _ hk]
theorem two_mid (w : World) (va : Array Value) : (((w.alloc (.cells #[.slice none 0 0, .slice none 0 0, .int .i64 0, .bool false] 25)).alloc (.cells #[.slice none 0 0, .slice none 0 0, .int .i64 0, .bool false] 25)).setRow w.heap.size va).heap[w.heap.size + 1]? = some (.cells #[.slice none 0 0, .slice none 0 0, .int .i64 0, .bool false] 25 (0, 0)) := by
  refine (setRow_other _ _ _ _ (by omega)).trans ?_
  have := heap_alloc_new (w.alloc (.cells #[.slice none 0 0, .slice none 0 0, .int .i64 0, .bool false] 25)) (.cells #[.slice none 0 0, .slice none 0 0, .int .i64 0, .bool false] 25)
  simpa using this
theorem Copied.has {w w2 W : World} {n m : Nat} {S : Nat → Sec} {C : Nat → Wr} {f : Int} {d : Bool} {sa ca : Option Addr} {sc cc : Nat} (p : w2.ownsRow w.heap.size 67 130 (.slice sa n sc) n (flat (fun i => secV (S i)) n)) (q : w2.ownsRow w.heap.size 65 129 (.slice ca m cc) m (flat (fun i => wrV (C i)) m))
    (hb : Below w2.heap.size w2 W) {A : Nat} (hA : w2.heap.size ≤ A) (hx : W.heap[A]? = some (.cells #[.slice sa n sc, .slice ca m cc, .int .i64 f, .bool d] 25 (0, 0))) (nb : n * 130 ≤ 140737488355328) (mb : m * 136 ≤ 140737488355328) : Has W A sa ca n sc m cc S C f d :=
  ⟨hx, ((lay_own (fun i _ => secV_length _) p (.inr hA)).below hb).more hb.size, ((lay_own (fun i _ => wrV_length _) q (.inr hA)).below hb).more hb.size, nb, mb⟩

theorem two_boxes2 (w : World) (va vb : Array Value) : ∃ W, W = (((w.alloc (.cells #[.slice none 0 0, .slice none 0 0, .int .i64 0, .bool false] 25)).alloc (.cells #[.slice none 0 0, .slice none 0 0, .int .i64 0, .bool false] 25)).setRow w.heap.size va).setRow (w.heap.size + 1) vb ∧
    W.heap[w.heap.size]? = some (.cells va 25 (0, 0)) ∧ W.heap[w.heap.size + 1]? = some (.cells vb 25 (0, 0)) ∧ Below w.heap.size w W ∧ W.heap.size = w.heap.size + 2 := ⟨_, rfl, two_boxes w va vb _ rfl⟩

set_option maxRecDepth 100000 in
set_option maxHeartbeats 1000000 in
theorem crashes_any (sa ca : Option Addr) (n sc m cc : Nat) (S : Nat → Sec) (C : Nat → Wr) (f : Int) (d : Bool) (ka : Option Addr) (kn kc : Nat) (kf : Nat → Bool) (w : World) (nb : n * 130 ≤ 140737488355328) (mb : m * 136 ≤ 140737488355328)
    (hs : Lay w w.heap.size w.heap.size sa n sc 130 (fun i => secV (S i))) (hc : Lay w w.heap.size w.heap.size ca m cc 129 (fun i => wrV (C i))) (hkp : Keeps w w.heap.size w.heap.size ka kn kf) (hkn : kn ≤ 140737488355328) :
    Calls Try.prog 6 #[.agg #[.slice sa n sc, .slice ca m cc, .int .i64 f, .bool d], .slice ka kn kc] w fun e w' => e = .returned (.bool true) ∧ Below w.heap.size w w' := by
  have HS := Lib.hid hs
  have HC := Lib.hid hc
  have HK := Lib.hid hkp
  clear hs hc hkp
  go_enter Try.func6, Try.ntmps6
  go_wp2_with fail
  generalize hW : w.alloc (.cells #[.slice sa n sc, .slice ca m cc, .int .i64 f, .bool d] 25) = W
  have hb0 : Below w.heap.size w W := by rw [← hW]; exact (Below.refl _ _).alloc (Nat.le_refl _) _
  have bx0 : Bx W w.heap.size (.slice sa n sc) (.slice ca m cc) (.int .i64 f) (.bool d) := by rw [← hW]; exact heap_alloc_new _ _
  clear hW
  refine (alive_any W).mono ?_
  rintro _ w1 ⟨rfl, hb1⟩
  have bx1 := bx0.below hb1
  have hB1 : Below w.heap.size w w1 := hb0.trans (hb1.mono hb0.size)
  have d0 := bx1.c0
  have d1 := bx1.c1
  have d2 := bx1.c2
  have d3 := bx1.c3
  dsimp only
  go_wp2_with fail
  refine (twins_any sa ca n sc m cc w.heap.size S C f d w1 nb mb ((HS.out.below hB1).more hB1.size) ((HC.out.below hB1).more hB1.size)).mono ?_
  rintro _ w2 ⟨v1, v2, rfl, ⟨sa1, sc1, ca1, cc1, rfl, p1, q1⟩, ⟨sa2, sc2, ca2, cc2, rfl, p2, q2⟩, hb2⟩
  have hB2 : Below w.heap.size w w2 := hB1.trans (hb2.mono hB1.size)
  have hs2 := hB2.size
  clear d0 d1 d2 d3 bx0 bx1 hb0 hb1
  dsimp only
  obtain ⟨W3, hW3, r1, r2, hb3, hs3⟩ := two_boxes2 w2 #[.slice sa1 n sc1, .slice ca1 m cc1, .int .i64 f, .bool d] #[.slice sa2 n sc2, .slice ca2 m cc2, .int .i64 f, .bool d]
  have HW3 := Lib.hid hW3
  have hX := Copied.has p1 q1 hb3 (Nat.le_refl _) r1 nb mb
  have hY := Copied.has p2 q2 hb3 (by omega) r2 nb mb
  have hB3 : Below w.heap.size w W3 := hB2.trans (hb3.mono hB2.size)
  clear hW3 p1 q1 p2 q2
  go_wp2_with (first
    | (refine wpList_store_row rfl 25 (.tmp 5) (.tmp 14) rfl w2.heap.size #[.slice sa1 n sc1, .slice ca1 m cc1, .int .i64 f, .bool d] rfl rfl 25 _ ((Below.heap_alloc _ _ _ (by simp)).trans (heap_alloc_new w2 _)) (by kernel_rfl) rfl (disk_one _ _ _ _ _ _ _ _) ?_; simp only [Act.put])
    | (refine wpList_store_row rfl 25 (.tmp 6) (.tmp 15) rfl (w2.heap.size + 1) #[.slice sa2 n sc2, .slice ca2 m cc2, .int .i64 f, .bool d] rfl rfl 25 #[.slice none 0 0, .slice none 0 0, .int .i64 0, .bool false] (two_mid w2 _) (by kernel_rfl) rfl (disk_one _ _ _ _ _ _ _ _) ?_; simp only [Act.put]; rw [← HW3.out]))
  have hK : ∀ (w' : World) (g : Nat), w.heap.size ≤ g → Below w.heap.size w w' → Keeps w' w'.heap.size g ka kn kf := fun w' g hg hb => HK.out.imp id fun ⟨q, o, e, h1, h2, h3⟩ => ⟨q, o, e, Nat.lt_of_lt_of_le h1 hb.size, by omega, fun i hi => (hb.cell (p := ⟨q, o + i, none⟩) h1).trans (h3 i hi)⟩
  refine (crash_any w2.heap.size sa1 ca1 n sc1 m cc1 S C f d ka kn kc kf W3 hX (hK _ _ hs2 hB3) hkn).mono ?_
  rintro _ w4 ⟨rfl, hg4, sa4, sc4, ca4, cc4, hX4⟩
  have hY4 := hY.apart r1 rfl (by omega) hg4
  have hB4 : Below w.heap.size w w4 := hB3.grown hg4 hB3.size (fun k hk => by injection hk with hk; omega)
  dsimp only
  go_wp2_with fail
  refine (refcrash_any (w2.heap.size + 1) sa2 ca2 n sc2 m cc2 S C f d ka kn kc kf w4 hY4 (hK _ _ (by omega) hB4) hkn).mono ?_
  rintro _ w5 ⟨rfl, hg5, sa5, sc5, ca5, cc5, hY5⟩
  have hX5 := hX4.apart hY4.bx rfl (by omega) hg5
  have hB5 : Below w.heap.size w w5 := hB4.grown hg5 hB4.size (fun k hk => by injection hk with hk; omega)
  clear hK hX4 hY4 hX hY hg4 hg5 hB3 hB4
  have x0 := hX5.bx.c0
  have x1 := hX5.bx.c1
  have x2 := hX5.bx.c2
  have x3 := hX5.bx.c3
  have y0 := hY5.bx.c0
  have y1 := hY5.bx.c1
  have y2 := hY5.bx.c2
  have y3 := hY5.bx.c3
  have hsame := same_any sa4 ca4 sa5 ca5 n sc4 _ cc4 sc5 cc5 _ _ _ C (crF n m C f) (crD n m C d) w5 hX5.n47.1 hX5.n47.2 hX5.ss hX5.cs hY5.ss hY5.cs
  clear hX5 hY5
  generalize crE n m C = E
  dsimp only
  go_wp2_with fail
  refine hsame.mono ?_
  rintro _ w6 ⟨rfl, hb6⟩
  dsimp only
  go_wp2_with fail
  go_ret
  exact ⟨rfl, hB5.trans (hb6.mono hB5.size)⟩

set_option maxRecDepth 100000 in
set_option maxHeartbeats 1000000 in
theorem flushes_any (sa ca : Option Addr) (n sc m cc : Nat) (S : Nat → Sec) (C : Nat → Wr) (f : Int) (d : Bool) (k : Int) (w : World) (nb : n * 130 ≤ 140737488355328) (mb : m * 136 ≤ 140737488355328)
    (hs : Lay w w.heap.size w.heap.size sa n sc 130 (fun i => secV (S i))) (hc : Lay w w.heap.size w.heap.size ca m cc 129 (fun i => wrV (C i))) (hf : -9223372036854775808 ≤ f ∧ f ≤ 9223372036854775807) (hk : -9223372036854775808 ≤ k ∧ k ≤ 9223372036854775807) :
    Calls Try.prog 5 #[.agg #[.slice sa n sc, .slice ca m cc, .int .i64 f, .bool d], .int .i64 k] w fun e w' => e = .returned (.bool true) ∧ Below w.heap.size w w' := by
  have HS := Lib.hid hs
  have HC := Lib.hid hc
  have HF := Lib.hid (show -9223372036854775808 ≤ armF n m C k f ∧ armF n m C k f ≤ 9223372036854775807 by unfold armF; split <;> assumption)
  clear hs hc hf hk
  go_enter Try.func5, Try.ntmps5
  go_wp2_with fail
  generalize hW : w.alloc (.cells #[.slice sa n sc, .slice ca m cc, .int .i64 f, .bool d] 25) = W
  have hb0 : Below w.heap.size w W := by rw [← hW]; exact (Below.refl _ _).alloc (Nat.le_refl _) _
  have bx0 : Bx W w.heap.size (.slice sa n sc) (.slice ca m cc) (.int .i64 f) (.bool d) := by rw [← hW]; exact heap_alloc_new _ _
  clear hW
  refine (alive_any W).mono ?_
  rintro _ w1 ⟨rfl, hb1⟩
  have bx1 := bx0.below hb1
  have hB1 : Below w.heap.size w w1 := hb0.trans (hb1.mono hb0.size)
  have d0 := bx1.c0
  have d1 := bx1.c1
  have d2 := bx1.c2
  have d3 := bx1.c3
  dsimp only
  go_wp2_with fail
  refine (twins_any sa ca n sc m cc w.heap.size S C f d w1 nb mb ((HS.out.below hB1).more hB1.size) ((HC.out.below hB1).more hB1.size)).mono ?_
  rintro _ w2 ⟨v1, v2, rfl, ⟨sa1, sc1, ca1, cc1, rfl, p1, q1⟩, ⟨sa2, sc2, ca2, cc2, rfl, p2, q2⟩, hb2⟩
  have hB2 : Below w.heap.size w w2 := hB1.trans (hb2.mono hB1.size)
  have hs2 := hB2.size
  clear d0 d1 d2 d3 bx0 bx1 hb0 hb1
  dsimp only
  obtain ⟨W3, hW3, r1, r2, hb3, hs3⟩ := two_boxes2 w2 #[.slice sa1 n sc1, .slice ca1 m cc1, .int .i64 f, .bool d] #[.slice sa2 n sc2, .slice ca2 m cc2, .int .i64 f, .bool d]
  have HW3 := Lib.hid hW3
  have hX := Copied.has p1 q1 hb3 (Nat.le_refl _) r1 nb mb
  have hY := Copied.has p2 q2 hb3 (by omega) r2 nb mb
  have hB3 : Below w.heap.size w W3 := hB2.trans (hb3.mono hB2.size)
  clear hW3 p1 q1 p2 q2
  go_wp2_with (first
    | (refine wpList_store_row rfl 25 (.tmp 5) (.tmp 16) rfl w2.heap.size #[.slice sa1 n sc1, .slice ca1 m cc1, .int .i64 f, .bool d] rfl rfl 25 _ ((Below.heap_alloc _ _ _ (by simp)).trans (heap_alloc_new w2 _)) (by kernel_rfl) rfl (disk_one _ _ _ _ _ _ _ _) ?_; simp only [Act.put])
    | (refine wpList_store_row rfl 25 (.tmp 6) (.tmp 17) rfl (w2.heap.size + 1) #[.slice sa2 n sc2, .slice ca2 m cc2, .int .i64 f, .bool d] rfl rfl 25 #[.slice none 0 0, .slice none 0 0, .int .i64 0, .bool false] (two_mid w2 _) (by kernel_rfl) rfl (disk_one _ _ _ _ _ _ _ _) ?_; simp only [Act.put]; rw [← HW3.out]))
  refine (arm_any w2.heap.size sa1 ca1 n sc1 m cc1 S C f d k W3 hX).mono ?_
  rintro _ w4 ⟨rfl, hg4, sa4, sc4, ca4, cc4, hX4⟩
  have hY4 := hY.apart r1 rfl (by omega) hg4
  have hB4 : Below w.heap.size w w4 := hB3.grown hg4 hB3.size (fun k hk => by injection hk with hk; omega)
  dsimp only
  go_wp2_with fail
  refine (refarm_any (w2.heap.size + 1) sa2 ca2 n sc2 m cc2 S C f d k w4 hY4).mono ?_
  rintro _ w5 ⟨rfl, hg5, sa5, sc5, ca5, cc5, hY5⟩
  have hX5 := hX4.apart hY4.bx rfl (by omega) hg5
  have hB5 : Below w.heap.size w w5 := hB4.grown hg5 hB4.size (fun k hk => by injection hk with hk; omega)
  clear hX4 hY4 hX hY hg4 hg5 hB3 hB4
  have hF5 := HF.out
  generalize armF n m C k f = f5 at hX5 hY5 hF5
  have x0 := hX5.bx.c0
  have x1 := hX5.bx.c1
  have x2 := hX5.bx.c2
  have x3 := hX5.bx.c3
  have y0 := hY5.bx.c0
  have y1 := hY5.bx.c1
  have y2 := hY5.bx.c2
  have y3 := hY5.bx.c3
  have hsame := same_any sa4 ca4 sa5 ca5 n sc4 _ cc4 sc5 cc5 _ _ _ C f5 d w5 hX5.n47.1 hX5.n47.2 hX5.ss hX5.cs hY5.ss hY5.cs
  have HX5 := Lib.hid hX5
  have HY5 := Lib.hid hY5
  clear hX5 hY5
  generalize armE n m C k = E5
  dsimp only
  go_wp2_with fail
  refine hsame.mono ?_
  rintro _ w6 ⟨rfl, hb6⟩
  have hX6 := HX5.out.below hb6
  have hY6 := HY5.out.below hb6
  have hB6 := hB5.trans (hb6.mono hB5.size)
  clear hsame x0 x1 x2 x3 y0 y1 y2 y3
  dsimp only
  go_wp2_with fail
  refine (flush_any w2.heap.size _ _ n _ m _ S C f5 d w6 hX6 hF5).mono ?_
  rintro _ w7 ⟨rfl, hg7, sa7, sc7, ca7, cc7, hX7⟩
  have hY7 := hY6.apart hX6.bx rfl (by omega) hg7
  have hB7 : Below w.heap.size w w7 := hB6.grown hg7 hB6.size (fun k hk => by injection hk with hk; omega)
  dsimp only
  go_wp2_with fail
  refine (refflush_any (w2.heap.size + 1) _ _ n _ m _ S C f5 d w7 hY7 hF5).mono ?_
  rintro _ w8 ⟨rfl, hg8, sa8, sc8, ca8, cc8, hY8⟩
  have hX8 := hX7.apart hY7.bx rfl (by omega) hg8
  have hB8 : Below w.heap.size w w8 := hB7.grown hg8 hB7.size (fun k hk => by injection hk with hk; omega)
  clear hX6 hY6 hX7 hY7 hg7 hg8 hB6 hB7
  have x0 := hX8.bx.c0
  have x1 := hX8.bx.c1
  have x2 := hX8.bx.c2
  have x3 := hX8.bx.c3
  have y0 := hY8.bx.c0
  have y1 := hY8.bx.c1
  have y2 := hY8.bx.c2
  have y3 := hY8.bx.c3
  have hsame := same_any sa7 ca7 sa8 ca8 n sc7 _ cc7 sc8 cc8 _ _ _ C (flF n m C f5 d) (flD n m C f5 d) w8 hX8.n47.1 hX8.n47.2 hX8.ss hX8.cs hY8.ss hY8.cs
  clear hX8 hY8
  generalize flE n m C f5 d = E8
  dsimp only
  go_wp2_with fail
  refine hsame.mono ?_
  rintro _ w9 ⟨rfl, hb9⟩
  dsimp only
  go_wp2_with fail
  go_ret
  exact ⟨rfl, hB8.trans (hb9.mono hB8.size)⟩

end Dk
end Go.Proofs.Ytoopenkohedmoaa
