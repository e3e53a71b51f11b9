/- disk: the law of Read and New, walked. -/
import Derived.Test.YtoopenkohedmoaaDkRefRead
import Derived.Test.YtoopenkohedmoaaDkLaws
namespace Go.Proofs.Ytoopenkohedmoaa
namespace Dk
open Go.RowKit

attribute [local go_sem] zv65 zv29

def nwN (k : Int) : Nat := if newOk k = true then k.toNat else 0
def nwF (k : Int) : Int := if newOk k = true then -1 else 0
def nwE (k : Int) : Int := if newOk k = true then 0 else 1
theorem nwN_le (k : Int) : nwN k ≤ 4096 := by
  unfold nwN
  split
  · rename_i h
    simp only [newOk, Bool.and_eq_true, decide_eq_true_eq] at h
    omega
  · omega
theorem News.form {w w' : World} {k : Int} {e : Ending} (h : News w k e w') : ∃ ao, e = .returned (.tuple #[.agg #[.slice ao (nwN k) (nwN k), .slice none 0 0, .int .i64 (nwF k), .bool false], .int .i64 (nwE k)]) ∧ Below w.heap.size w w' ∧
    Lay w' w'.heap.size w'.heap.size ao (nwN k) (nwN k) 130 (fun _ => secV sec0) := by
  obtain ⟨hb, h⟩ := h
  unfold nwN nwF nwE
  by_cases hk : newOk k = true
  · simp only [hk, if_true] at h ⊢
    obtain ⟨b, rfl, hl⟩ := h
    exact ⟨_, rfl, hb, hl⟩
  · simp only [hk] at h ⊢
    subst h
    exact ⟨none, rfl, hb, Nat.le_refl _, fun _ => rfl, .inl rfl⟩
theorem lay_nothing (w : World) (B g k : Nat) (T : Nat → List Value) : Lay w B g none 0 0 k T := ⟨Nat.le_refl _, fun _ => rfl, .inl rfl⟩

theorem q_eql {P : Program} {ops : Array Oper} {C : World → Prop} {a : Act} {o : Oper} {rest : List Oper} {Q : Act → Prop} (t t' : TypeId) (x y : Operand) (ho : o.op = .binOp .eql t x y t') (hw : Region.wanted o (yielded ops a.tmps) = true) (X : Array Value) (hx : a.eval x = .agg X) (hy : a.eval y = .agg X)
    (hm : P.eqGuardType P.depth t = false) (heq : ∀ w, C w → (Op.equalIn 10000 t (.agg X) (.agg X)).run P w = .ok true w) (h : wpQuiet P ops C Q rest (a.put o.dst (.bool true))) : wpQuiet P ops C Q (o :: rest) a :=
  q_val (.bool true) hw (fun w hw => by
    unfold execOp
    simp only [ho, hx, hy, Sem.run_bind, run_eqGuard_agg w _ _ _ _ _ _ hm, run_eql_struct, heq w hw, Result.andThen_ok]
    rfl) h
theorem row_range {w : World} {b : Nat} {l : List Value} {t : TypeId} {fr : Nat × Nat} (h : w.heap[b]? = some (.cells l.toArray t fr)) : w.rangeAt b 0 l := fun j v hv => by
  rw [cell_of_row w b _ _ _ _ h]
  simpa using hv

set_option maxRecDepth 100000 in
set_option maxHeartbeats 1000000 in
theorem reads_any (sa ca : Option Addr) (n sc m cc : Nat) (S : Nat → Sec) (C : Nat → Wr) (f : Int) (d : Bool) (a k : Int) (w : World) (nb : n * 130 ≤ 140737488355328) (mb : m * 136 ≤ 140737488355328)
    (hs : Lay w w.heap.size w.heap.size sa n sc 130 (fun i => secV (S i))) (hc : Lay w w.heap.size w.heap.size ca m cc 129 (fun i => wrV (C i))) :
    Calls Try.prog 3 #[.agg #[.slice sa n sc, .slice ca m cc, .int .i64 f, .bool d], .int .i64 a, .int .i64 k] w fun e w' => e = .returned (.bool true) ∧ Below w.heap.size w w' := by
  have HS := Lib.hid hs
  have HC := Lib.hid hc
  clear hs hc
  have hn47 : n ≤ 140737488355328 := by omega
  have hm47 : m ≤ 140737488355328 := by omega
  go_enter Try.func3, Try.ntmps3
  go_wp2_with fail
  generalize hW : w.alloc (.cells #[.slice sa n sc, .slice ca m cc, .int .i64 f, .bool d] 25) = W
  have hb0 : Below w.heap.size w W := by rw [← hW]; exact (Below.refl _ _).alloc (Nat.le_refl _) _
  have hsW : W.heap.size = w.heap.size + 1 := by rw [← hW]; simp
  have bx0 : Bx W w.heap.size (.slice sa n sc) (.slice ca m cc) (.int .i64 f) (.bool d) := by rw [← hW]; exact heap_alloc_new _ _
  clear hW
  refine (alive_any W).mono ?_
  rintro _ w1 ⟨rfl, hb1⟩
  have bx1 := bx0.below hb1
  have hs1 := hb1.size
  have hB1 : Below w.heap.size w w1 := hb0.trans (hb1.mono hb0.size)
  have d0 := bx1.c0
  have d1 := bx1.c1
  have d2 := bx1.c2
  have d3 := bx1.c3
  dsimp only
  go_wp2_with fail
  refine (twins_any sa ca n sc m cc w.heap.size S C f d w1 nb mb ((HS.out.below hB1).more hB1.size) ((HC.out.below hB1).more hB1.size)).mono ?_
  rintro _ w2 ⟨v1, v2, rfl, ⟨sa1, sc1, ca1, cc1, rfl, p1, q1⟩, ⟨sa2, sc2, ca2, cc2, rfl, p2, q2⟩, hb2⟩
  have hB2 : Below w.heap.size w w2 := hB1.trans (hb2.mono hB1.size)
  have hs2 := hB2.size
  have bx2 := bx1.below hb2
  have hs2' := hb2.size
  clear d0 d1 d2 d3 bx0 bx1 hb0 hb1
  dsimp only
  obtain ⟨W3, hW3, r1, r2, hb3, hs3⟩ := two_boxes2 w2 #[.slice sa1 n sc1, .slice ca1 m cc1, .int .i64 f, .bool d] #[.slice sa2 n sc2, .slice ca2 m cc2, .int .i64 f, .bool d]
  have HW3 := Lib.hid hW3
  have hX := Copied.has p1 q1 hb3 (Nat.le_refl _) r1 nb mb
  have hY := Copied.has p2 q2 hb3 (by omega) r2 nb mb
  have hB3 : Below w.heap.size w W3 := hB2.trans (hb3.mono hB2.size)
  have bx3 := bx2.below hb3
  clear hW3 p1 q1 p2 q2 bx2
  go_wp2_with (first
    | (refine wpList_store_row rfl 25 (.tmp 7) (.tmp 22) rfl w2.heap.size #[.slice sa1 n sc1, .slice ca1 m cc1, .int .i64 f, .bool d] rfl rfl 25 _ ((Below.heap_alloc _ _ _ (by simp)).trans (heap_alloc_new w2 _)) (by kernel_rfl) rfl (disk_one _ _ _ _ _ _ _ _) ?_; simp only [Act.put])
    | (refine wpList_store_row rfl 25 (.tmp 8) (.tmp 23) rfl (w2.heap.size + 1) #[.slice sa2 n sc2, .slice ca2 m cc2, .int .i64 f, .bool d] rfl rfl 25 #[.slice none 0 0, .slice none 0 0, .int .i64 0, .bool false] (two_mid w2 _) (by kernel_rfl) rfl (disk_one _ _ _ _ _ _ _ _) ?_; simp only [Act.put]; rw [← HW3.out]))
  clear r1 r2 HW3
  refine (read_any w2.heap.size sa1 ca1 n sc1 m cc1 S C f d a W3 hX).mono ?_
  rintro _ w4 ⟨rfl, hb4⟩
  have hs4 := hb4.size
  dsimp only
  go_wp2_with (refine wpList_store_row rfl 29 (.tmp 9) (.tmp 27) rfl w4.heap.size (bl (rdV n m S C d a)).toArray rfl rfl 29 _ (heap_alloc_new _ _) (size_bl' _) rfl (bl_all _) ?_; rw [World.setRow_alloc_new]; simp only [Act.put])
  generalize hW4 : w4.alloc (.cells (bl (rdV n m S C d a)).toArray 29) = W4
  have hc4 : Below W3.heap.size W3 W4 := by rw [← hW4]; exact hb4.alloc hb4.size _
  have k9 : W4.heap[w4.heap.size]? = some (.cells (bl (rdV n m S C d a)).toArray 29 (0, 0)) := by rw [← hW4]; exact heap_alloc_new _ _
  have hs4' : W4.heap.size = w4.heap.size + 1 := by rw [← hW4]; simp
  clear hW4 hb4
  have hB4 : Below w.heap.size w W4 := hB3.trans (hc4.mono hB3.size)
  have hX4 := hX.below hc4
  have hY4 := hY.below hc4
  have bx4 := bx3.below hc4
  clear hX hY bx3 hc4
  refine (refread_any (w2.heap.size + 1) sa2 ca2 n sc2 m cc2 S C f d a W4 hY4).mono ?_
  rintro _ w5 ⟨rfl, hb5⟩
  have hs5 := hb5.size
  dsimp only
  go_wp2_with (refine wpList_store_row rfl 29 (.tmp 11) (.tmp 32) rfl w5.heap.size (bl (rdV n m S C d a)).toArray rfl rfl 29 _ (heap_alloc_new _ _) (size_bl' _) rfl (bl_all _) ?_; rw [World.setRow_alloc_new]; simp only [Act.put])
  generalize hW5 : w5.alloc (.cells (bl (rdV n m S C d a)).toArray 29) = W5
  have hc5 : Below W4.heap.size W4 W5 := by rw [← hW5]; exact hb5.alloc hb5.size _
  have k11 : W5.heap[w5.heap.size]? = some (.cells (bl (rdV n m S C d a)).toArray 29 (0, 0)) := by rw [← hW5]; exact heap_alloc_new _ _
  have hs5' : W5.heap.size = w5.heap.size + 1 := by rw [← hW5]; simp
  clear hW5 hb5
  have hB5 : Below w.heap.size w W5 := hB4.trans (hc5.mono hB4.size)
  have hX5 := hX4.below hc5
  have bx5 := bx4.below hc5
  have k9' := (hc5.block w4.heap.size (by omega)).trans k9
  clear hX4 hY4 bx4 hc5 k9
  refine (new_any k W5).mono ?_
  intro e w6 h6
  obtain ⟨ao6, rfl, hb6, hl6⟩ := h6.form
  clear h6
  have hs6 := hb6.size
  dsimp only
  go_wp2_with (refine wpList_store_row rfl 25 (.tmp 13) (.tmp 37) rfl w6.heap.size #[.slice ao6 (nwN k) (nwN k), .slice none 0 0, .int .i64 (nwF k), .bool false] rfl rfl 25 _ (heap_alloc_new _ _) (by kernel_rfl) rfl (disk_one _ _ _ _ _ _ _ _) ?_; rw [World.setRow_alloc_new]; simp only [Act.put])
  generalize hW6 : w6.alloc (.cells #[.slice ao6 (nwN k) (nwN k), .slice none 0 0, .int .i64 (nwF k), .bool false] 25) = W6
  have hc6 : Below W5.heap.size W5 W6 := by rw [← hW6]; exact hb6.alloc hb6.size _
  have hd6 : Below w6.heap.size w6 W6 := by rw [← hW6]; exact (Below.refl _ _).alloc (Nat.le_refl _) _
  have bu6 : Bx W6 w6.heap.size (.slice ao6 (nwN k) (nwN k)) (.slice none 0 0) (.int .i64 (nwF k)) (.bool false) := by rw [← hW6]; exact heap_alloc_new _ _
  have hs6' : W6.heap.size = w6.heap.size + 1 := by rw [← hW6]; simp
  clear hW6 hb6
  have hB6 : Below w.heap.size w W6 := hB5.trans (hc6.mono hB5.size)
  have hX6 := hX5.below hc6
  have bx6 := bx5.below hc6
  have k9'' := (hc6.block w4.heap.size (by omega)).trans k9'
  have k11' := (hc6.block w5.heap.size (by omega)).trans k11
  have lu6 := (hl6.below hd6).more hd6.size
  clear hX5 bx5 hc6 k9' k11 hl6 hd6
  refine (refnew_any k W6).mono ?_
  intro e w7 h7
  obtain ⟨ao7, rfl, hb7, hl7⟩ := h7.form
  clear h7
  have hs7 := hb7.size
  dsimp only
  go_wp2_with (refine wpList_store_row rfl 25 (.tmp 15) (.tmp 42) rfl w7.heap.size #[.slice ao7 (nwN k) (nwN k), .slice none 0 0, .int .i64 (nwF k), .bool false] rfl rfl 25 _ (heap_alloc_new _ _) (by kernel_rfl) rfl (disk_one _ _ _ _ _ _ _ _) ?_; rw [World.setRow_alloc_new]; simp only [Act.put])
  generalize hW7 : w7.alloc (.cells #[.slice ao7 (nwN k) (nwN k), .slice none 0 0, .int .i64 (nwF k), .bool false] 25) = W7
  have hc7 : Below W6.heap.size W6 W7 := by rw [← hW7]; exact hb7.alloc hb7.size _
  have hd7 : Below w7.heap.size w7 W7 := by rw [← hW7]; exact (Below.refl _ _).alloc (Nat.le_refl _) _
  have bv7 : Bx W7 w7.heap.size (.slice ao7 (nwN k) (nwN k)) (.slice none 0 0) (.int .i64 (nwF k)) (.bool false) := by rw [← hW7]; exact heap_alloc_new _ _
  have hs7' : W7.heap.size = w7.heap.size + 1 := by rw [← hW7]; simp
  clear hW7 hb7
  have hB7 : Below w.heap.size w W7 := hB6.trans (hc7.mono hB6.size)
  have hX7 := hX6.below hc7
  have bx7 := bx6.below hc7
  have bu7 := bu6.below hc7
  have k9 := (hc7.block w4.heap.size (by omega)).trans k9''
  have k11 := (hc7.block w5.heap.size (by omega)).trans k11'
  have lu7 := (lu6.below hc7).more hc7.size
  have lv7 := (hl7.below hd7).more hd7.size
  have ls7 := (HS.out.below hB7).more hB7.size
  have lc7 := (HC.out.below hB7).more hB7.size
  clear hX6 bx6 bu6 hc7 k9'' k11' lu6 hl7 hd7 HS HC hB3 hB4 hB5 hB6
  have hnw := nwN_le k
  go_wp2_with fail
  refine wp_region_quiet (C := fun w' => Below W7.heap.size W7 w') (by kernel_rfl) (by kernel_rfl) ⟨rfl, rfl, rfl, Nat.le_refl _, fun _ _ => rfl⟩ ?_
  refine q_load_mid2 29 (.tmp 9) rfl rfl w4.heap.size 0 rfl (bl (rdV n m S C d a)) _ (fun w' hw' => row_range ((hw'.block _ (by omega)).trans k9)) und29 rfl (size_bl _) ?_
  simp only [Act.put, List.setIfInBounds_toArray, List.set_cons_succ, List.set_cons_zero]
  refine q_load_mid2 29 (.tmp 11) rfl rfl w5.heap.size 0 rfl (bl (rdV n m S C d a)) _ (fun w' hw' => row_range ((hw'.block _ (by omega)).trans k11)) und29 rfl (size_bl _) ?_
  simp only [Act.put, List.setIfInBounds_toArray, List.set_cons_succ, List.set_cons_zero]
  refine q_eql 29 29 (.tmp 44) (.tmp 45) rfl rfl (bl (rdV n m S C d a)).toArray rfl rfl (by kernel_rfl) (fun w' _ => eq_bl (rdV n m S C d a) w') ?_
  simp only [Act.put, List.setIfInBounds_toArray, List.set_cons_succ, List.set_cons_zero]
  refine q_val (.bool true) rfl (fun w' hw' => by go_simp) ?_
  simp only [Act.put, List.setIfInBounds_toArray, List.set_cons_succ, List.set_cons_zero]
  refine q_val (.int .i64 (rdE n m S C d a)) rfl (fun w' hw' => by go_simp) ?_
  simp only [Act.put, List.setIfInBounds_toArray, List.set_cons_succ, List.set_cons_zero]
  refine q_val (.int .i64 (rdE n m S C d a)) rfl (fun w' hw' => by go_simp) ?_
  simp only [Act.put, List.setIfInBounds_toArray, List.set_cons_succ, List.set_cons_zero]
  refine q_val (.bool true) rfl (fun w' hw' => by go_simp) ?_
  simp only [Act.put, List.setIfInBounds_toArray, List.set_cons_succ, List.set_cons_zero]
  refine q_val (.bool true) rfl (fun w' hw' => by go_simp) ?_
  simp only [Act.put, List.setIfInBounds_toArray, List.set_cons_succ, List.set_cons_zero]
  refine q_val (.bool true) rfl (fun w' hw' => by go_simp) ?_
  simp only [Act.put, List.setIfInBounds_toArray, List.set_cons_succ, List.set_cons_zero]
  refine q_val (.agg #[.slice ao6 (nwN k) (nwN k), .slice none 0 0, .int .i64 (nwF k), .bool false]) rfl (fun w' hw' => by have hH := bu7.below hw'; have k0 := hH.c0; have k1 := hH.c1; have k2 := hH.c2; have k3 := hH.c3; go_simp) ?_
  simp only [Act.put, List.setIfInBounds_toArray, List.set_cons_succ, List.set_cons_zero]
  refine q_val (.agg #[.slice ao7 (nwN k) (nwN k), .slice none 0 0, .int .i64 (nwF k), .bool false]) rfl (fun w' hw' => by have hH := bv7.below hw'; have k0 := hH.c0; have k1 := hH.c1; have k2 := hH.c2; have k3 := hH.c3; go_simp) ?_
  simp only [Act.put, List.setIfInBounds_toArray, List.set_cons_succ, List.set_cons_zero]
  refine q_call 15 _ (.bool true) rfl (fun w' => by go_simp) (fun w' hw' => (same_any ao6 none ao7 none (nwN k) (nwN k) 0 0 (nwN k) 0 _ _ (fun _ => sec0) (fun _ => ⟨0, fun _ => 0⟩) (nwF k) false w' (by omega) (by omega) ((lu7.below hw').more hw'.size) (lay_nothing _ _ _ _ _) ((lv7.below hw').more hw'.size) (lay_nothing _ _ _ _ _)).mono fun e w'' ⟨he, hb⟩ => ⟨he, hw'.trans (hb.mono hw'.size)⟩) ?_
  simp only [Act.put, List.setIfInBounds_toArray, List.set_cons_succ, List.set_cons_zero]
  refine q_val (.bool true) rfl (fun w' hw' => by go_simp) ?_
  simp only [Act.put, List.setIfInBounds_toArray, List.set_cons_succ, List.set_cons_zero]
  refine q_val (.bool true) rfl (fun w' hw' => by go_simp) ?_
  simp only [Act.put, List.setIfInBounds_toArray, List.set_cons_succ, List.set_cons_zero]
  refine q_val (.int .i64 (nwE k)) rfl (fun w' hw' => by go_simp) ?_
  simp only [Act.put, List.setIfInBounds_toArray, List.set_cons_succ, List.set_cons_zero]
  refine q_val (.int .i64 (nwE k)) rfl (fun w' hw' => by go_simp) ?_
  simp only [Act.put, List.setIfInBounds_toArray, List.set_cons_succ, List.set_cons_zero]
  refine q_val (.bool true) rfl (fun w' hw' => by go_simp) ?_
  simp only [Act.put, List.setIfInBounds_toArray, List.set_cons_succ, List.set_cons_zero]
  refine q_val (.bool true) rfl (fun w' hw' => by go_simp) ?_
  simp only [Act.put, List.setIfInBounds_toArray, List.set_cons_succ, List.set_cons_zero]
  refine q_val (.bool true) rfl (fun w' hw' => by go_simp) ?_
  simp only [Act.put, List.setIfInBounds_toArray, List.set_cons_succ, List.set_cons_zero]
  refine q_val (.agg #[.slice sa n sc, .slice ca m cc, .int .i64 f, .bool d]) rfl (fun w' hw' => by have hH := bx7.below hw'; have k0 := hH.c0; have k1 := hH.c1; have k2 := hH.c2; have k3 := hH.c3; go_simp) ?_
  simp only [Act.put, List.setIfInBounds_toArray, List.set_cons_succ, List.set_cons_zero]
  refine q_call 16 _ (.bool (formedB n m C)) rfl (fun w' => by go_simp) (fun w' hw' => (Formed_any sa ca n sc m cc _ C f d w' hn47 hm47 ((lc7.below hw').more hw'.size)).mono fun e w'' ⟨he, hb⟩ => ⟨he, hw'.trans (hb.mono hw'.size)⟩) ?_
  simp only [Act.put, List.setIfInBounds_toArray, List.set_cons_succ, List.set_cons_zero]
  refine q_val (.agg #[.slice sa n sc, .slice ca m cc, .int .i64 f, .bool d]) rfl (fun w' hw' => by have hH := bx7.below hw'; have k0 := hH.c0; have k1 := hH.c1; have k2 := hH.c2; have k3 := hH.c3; go_simp) ?_
  simp only [Act.put, List.setIfInBounds_toArray, List.set_cons_succ, List.set_cons_zero]
  refine q_call 17 _ (.bool (formedB n m C)) rfl (fun w' => by go_simp) (fun w' hw' => (refFormed_any sa ca n sc m cc _ C f d w' hn47 hm47 ((lc7.below hw').more hw'.size)).mono fun e w'' ⟨he, hb⟩ => ⟨he, hw'.trans (hb.mono hw'.size)⟩) ?_
  simp only [Act.put, List.setIfInBounds_toArray, List.set_cons_succ, List.set_cons_zero]
  refine q_val (.bool true) rfl (fun w' hw' => by go_simp) ?_
  simp only [Act.put, List.setIfInBounds_toArray, List.set_cons_succ, List.set_cons_zero]
  refine q_val (.bool true) rfl (fun w' hw' => by go_simp) ?_
  simp only [Act.put, List.setIfInBounds_toArray, List.set_cons_succ, List.set_cons_zero]
  refine q_val (.bool true) rfl (fun w' hw' => by go_simp) ?_
  simp only [Act.put, List.setIfInBounds_toArray, List.set_cons_succ, List.set_cons_zero]
  refine q_val (.agg #[.slice sa1 n sc1, .slice ca1 m cc1, .int .i64 f, .bool d]) rfl (fun w' hw' => by have hH := hX7.bx.below hw'; have k0 := hH.c0; have k1 := hH.c1; have k2 := hH.c2; have k3 := hH.c3; go_simp) ?_
  simp only [Act.put, List.setIfInBounds_toArray, List.set_cons_succ, List.set_cons_zero]
  refine q_val (.agg #[.slice sa n sc, .slice ca m cc, .int .i64 f, .bool d]) rfl (fun w' hw' => by have hH := bx7.below hw'; have k0 := hH.c0; have k1 := hH.c1; have k2 := hH.c2; have k3 := hH.c3; go_simp) ?_
  simp only [Act.put, List.setIfInBounds_toArray, List.set_cons_succ, List.set_cons_zero]
  refine q_call 15 _ (.bool true) rfl (fun w' => by go_simp) (fun w' hw' => (same_any sa1 ca1 sa ca n sc1 m cc1 sc cc _ _ S C f d w' hn47 hm47 (hX7.below hw').ss (hX7.below hw').cs ((ls7.below hw').more hw'.size) ((lc7.below hw').more hw'.size)).mono fun e w'' ⟨he, hb⟩ => ⟨he, hw'.trans (hb.mono hw'.size)⟩) ?_
  simp only [Act.put, List.setIfInBounds_toArray, List.set_cons_succ, List.set_cons_zero]
  refine q_val (.bool true) rfl (fun w' hw' => by go_simp) ?_
  simp only [Act.put, List.setIfInBounds_toArray, List.set_cons_succ, List.set_cons_zero]
  refine q_val (.bool true) rfl (fun w' hw' => by go_simp) ?_
  simp only [Act.put, List.setIfInBounds_toArray, List.set_cons_succ, List.set_cons_zero]
  refine wpQuiet_nil ?_
  intro w8 hw8
  go_wp2_with fail
  go_ret
  exact ⟨rfl, hB7.trans (hw8.mono hB7.size)⟩

end Dk
end Go.Proofs.Ytoopenkohedmoaa
