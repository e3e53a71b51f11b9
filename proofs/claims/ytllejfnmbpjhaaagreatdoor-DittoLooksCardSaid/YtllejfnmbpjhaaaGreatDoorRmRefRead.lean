/- remap: the reference's halves, asked, Read. -/
import Derived.Test.YtllejfnmbpjhaaaGreatDoorJRd
import Derived.Test.YtllejfnmbpjhaaaGreatDoorJRr
import Derived.Test.YtllejfnmbpjhaaaGreatDoorDkRefRead
namespace Go.Proofs.YtllejfnmbpjhaaaGreatDoor
set_option maxRecDepth 20000
namespace Rm
open Go.RowKit Dk Byt

attribute [local go_sem] zv29
attribute [local go_sem] zc29
set_option maxRecDepth 100000 in
set_option maxHeartbeats 1000000 in
theorem halves_v (sa ca : Option Addr) (n sc cc g : Nat) (X : Dst) (w : World) (hn : n ≤ 140737488355328) (hm : X.m ≤ 140737488355328) (hc : Lay w w.heap.size g ca X.m cc 129 (fun i => wrV (X.C i))) :
    Calls Tryz.prog 79 #[.agg #[.slice sa n sc, .slice ca X.m cc, .int .i64 X.f, .bool X.d]] w fun e w' => e = .returned (.int .i64 (hfN n X)) ∧ Below w.heap.size w w' := by
  have HF := Lib.hid (fun W (hb : Below w.heap.size w W) => refFormed_any sa ca n sc X.m cc g X.C X.f X.d W hn hm ((hc.below hb).more hb.size))
  have HV : Hid (hfN n X = if formedB n X.m X.C then halfN n else 0) := Lib.hid rfl
  clear hc
  obtain ⟨m, S, C, f, d⟩ := X
  dsimp only at HF HV hm ⊢
  generalize hfN n ⟨m, S, C, f, d⟩ = V at HV ⊢
  generalize formedB n m C = b at HF HV
  obtain ⟨W, hW, hb0, bx0, hs0⟩ : ∃ W, W = w.alloc (.cells #[.slice sa n sc, .slice ca m cc, .int .i64 f, .bool d] 25) ∧ Below w.heap.size w W ∧ Bx W w.heap.size (.slice sa n sc) (.slice ca m cc) (.int .i64 f) (.bool d) ∧ W.heap.size = w.heap.size + 1 :=
    ⟨_, rfl, (Below.refl _ _).alloc (Nat.le_refl _) _, heap_alloc_new _ _, by simp⟩
  have c0 := bx0.c0
  have c1 := bx0.c1
  have c2 := bx0.c2
  have c3 := bx0.c3
  cases b with
  | false =>
    go_enter Tryz.func79, Tryz.ntmps79
    go_wp2_with (rw [← hW])
    refine (HF.out W hb0).mono ?_
    rintro _ w1 ⟨rfl, hb1⟩
    dsimp only
    go_wp2_with fail
    go_ret
    exact ⟨by rw [HV.out]; rfl, hb0.trans (hb1.mono hb0.size)⟩
  | true =>
    go_enter Tryz.func79, Tryz.ntmps79
    go_wp2_with (rw [← hW])
    refine (HF.out W hb0).mono ?_
    rintro _ w1 ⟨rfl, hb1⟩
    have k0 := (hb1.cell (p := ⟨w.heap.size, 0, none⟩) (by show w.heap.size < _; omega)).trans c0
    have hB1 := hb0.trans (hb1.mono hb0.size)
    clear c0 c1 c2 c3 bx0 hW HF
    dsimp only
    go_wp2_with fail
    refine (refhalf_any n w1).mono ?_
    rintro _ w2 ⟨rfl, hb2⟩
    dsimp only
    go_wp2_with fail
    go_ret
    exact ⟨by rw [HV.out]; rfl, hB1.trans (hb2.mono hB1.size)⟩

set_option maxRecDepth 100000 in
set_option maxHeartbeats 2000000 in
theorem asked_v (sa ca : Option Addr) (n sc cc g : Nat) (X : Dst) (gen : Int) (k : Nat) (F T : Nat → Int) (pa : Option Addr) (cap q : Nat) (x : Int) (w : World) (hn : n ≤ 140737488355328) (hm : X.m ≤ 140737488355328) (hc : Lay w w.heap.size g ca X.m cc 129 (fun i => wrV (X.C i)))
    (hl : Lay w w.heap.size q pa k cap 2 (prV F T)) (hk : k ≤ 140737488355328) :
    Calls Tryz.prog 74 #[.agg #[.slice sa n sc, .slice ca X.m cc, .int .i64 X.f, .bool X.d], .agg #[.int .i64 gen, .slice pa k cap], .int .i64 x] w fun e w' => e = .returned (.bool (homeB n X gen k F T x)) ∧ Below w.heap.size w w' := by
  have HH := Lib.hid (fun W (hb : Below w.heap.size w W) => halves_v sa ca n sc cc g X W hn hm ((hc.below hb).more hb.size))
  have HR := Lib.hid (fun W (hb : Below w.heap.size w W) => refright_any n gen k F T pa cap q W ((hl.below hb).more hb.size) hk)
  have HV : Hid (homeB n X gen k F T x = (decide (hfN n X ≠ 0) && rightB n gen k F T && lentB (hfN n X) x)) := Lib.hid rfl
  have hbd := hfN_bd n X
  clear hc hl
  obtain ⟨m, S, C, f, d⟩ := X
  dsimp only at HH HV hm ⊢
  generalize homeB n ⟨m, S, C, f, d⟩ gen k F T x = V at HV ⊢
  generalize hfN n ⟨m, S, C, f, d⟩ = h at HH HV hbd
  generalize rightB n gen k F T = R at HR HV
  obtain ⟨W, hW, hb0, bx0, tx0, hs0⟩ : ∃ W, W = (w.alloc (.cells #[.slice sa n sc, .slice ca m cc, .int .i64 f, .bool d] 25)).alloc (.cells #[.int .i64 gen, .slice pa k cap] 28) ∧ Below w.heap.size w W ∧ Bx W w.heap.size (.slice sa n sc) (.slice ca m cc) (.int .i64 f) (.bool d) ∧
      W.heap[w.heap.size + 1]? = some (.cells #[.int .i64 gen, .slice pa k cap] 28 (0, 0)) ∧ W.heap.size = w.heap.size + 2 := by
    refine ⟨_, rfl, ((Below.refl _ _).alloc (Nat.le_refl _) _).alloc (by simp) _, (Below.heap_alloc _ _ _ (by simp)).trans (heap_alloc_new _ _), ?_, by simp⟩
    have := heap_alloc_new (w.alloc (.cells #[.slice sa n sc, .slice ca m cc, .int .i64 f, .bool d] 25)) (.cells #[.int .i64 gen, .slice pa k cap] 28)
    rwa [World.size_alloc] at this
  have c0 := bx0.c0
  have c1 := bx0.c1
  have c2 := bx0.c2
  have c3 := bx0.c3
  go_enter Tryz.func74, Tryz.ntmps74
  go_wp2_with (rw [← hW])
  refine (HH.out W hb0).mono ?_
  rintro _ w1 ⟨rfl, hb1⟩
  have hB1 := hb0.trans (hb1.mono hb0.size)
  have k0 := (hb1.cell (p := ⟨w.heap.size, 0, none⟩) (by show w.heap.size < _; omega)).trans c0
  have t1 := (hb1.block (w.heap.size + 1) (by omega)).trans tx0
  have m0 : w1.cell? ⟨w.heap.size + 1, 0, none⟩ = some (.int .i64 gen) := by rw [cell_of_row _ _ _ _ _ _ t1]; rfl
  have m1 : w1.cell? ⟨w.heap.size + 1, 1, none⟩ = some (.slice pa k cap) := by rw [cell_of_row _ _ _ _ _ _ t1]; rfl
  clear c0 c1 c2 c3 bx0 tx0 hW HH t1 hb1 hs0 hb0
  dsimp only
  by_cases e0 : h = 0
  · subst e0
    go_wp2_with fail
    go_ret
    exact ⟨by rw [HV.out]; rfl, hB1⟩
  · have hp : 0 < h := by omega
    go_wp2_with fail
    refine (HR.out w1 hB1).mono ?_
    rintro _ w2 ⟨rfl, hb2⟩
    have hB2 := hB1.trans (hb2.mono hB1.size)
    have HV1 : Hid (V = (R && lentB h x)) := Lib.hid (by rw [HV.out, decide_eq_true e0]; simp)
    clear HV HR m0 m1 k0 hb2
    dsimp only
    cases R with
    | false =>
      go_wp2_with fail
      go_ret
      exact ⟨by rw [HV1.out]; rfl, hB2⟩
    | true =>
      go_wp2_with fail
      refine (usable_any h x w2 hbd.1 (by omega)).mono ?_
      rintro _ w3 ⟨rfl, hb3⟩
      dsimp only
      go_wp2_with fail
      go_ret
      exact ⟨by rw [HV1.out]; rfl, hB2.trans (hb3.mono hB2.size)⟩

theorem refread_x {w : World} {g n : Nat} {X : Dst} (h : HasD w g n X) (x : Int) : Calls Tryz.prog 75 #[.pointer (some ⟨g, 0, none⟩), .int .i64 x] w fun e w' => e = .returned (.tuple #[.agg (bl (rdV n X.m X.S X.C X.d x)).toArray, .int .i64 (rdE n X.m X.S X.C X.d x)]) ∧ Below w.heap.size w w' := by
  obtain ⟨sa, sc, ca, cc, hh⟩ := h
  exact refread_any g sa ca n sc X.m cc X.S X.C X.f X.d x w hh
theorem asked_d {w : World} {g n : Nat} {X : Dst} (h : HasD w g n X) (gen : Int) (k : Nat) (F T : Nat → Int) (pa : Option Addr) (cap q : Nat) (x : Int) (hl : Lay w w.heap.size q pa k cap 2 (prV F T)) (hk : k ≤ 140737488355328) :
    ∃ sa sc ca cc, Bx w g (.slice sa n sc) (.slice ca X.m cc) (.int .i64 X.f) (.bool X.d) ∧ ∀ W, Below w.heap.size w W → Calls Tryz.prog 74 #[.agg #[.slice sa n sc, .slice ca X.m cc, .int .i64 X.f, .bool X.d], .agg #[.int .i64 gen, .slice pa k cap], .int .i64 x] W fun e w' => e = .returned (.bool (homeB n X gen k F T x)) ∧ Below W.heap.size W w' := by
  obtain ⟨sa, sc, ca, cc, hh⟩ := h
  have h47 := hh.n47
  exact ⟨sa, sc, ca, cc, hh.bx, fun W hb => asked_v sa ca n sc cc g X gen k F T pa cap q x W h47.1 h47.2 ((hh.cs.below hb).more hb.size) ((hl.below hb).more hb.size) hk⟩

set_option maxRecDepth 100000 in
set_option maxHeartbeats 2000000 in
theorem refread_d {w : World} {g n : Nat} {X : Dst} (h : HasD w g n X) (gen : Int) (k : Nat) (F T : Nat → Int) (pa : Option Addr) (cap q : Nat) (x : Int) (hl : Lay w w.heap.size q pa k cap 2 (prV F T)) (hk : k ≤ 140737488355328) :
    Calls Tryz.prog 51 #[.pointer (some ⟨g, 0, none⟩), .agg #[.int .i64 gen, .slice pa k cap], .int .i64 x] w fun e w' => e = .returned (.tuple #[.agg (bl (rV n X gen k F T x)).toArray, .int .i64 (rE n X gen k F T x)]) ∧ Below w.heap.size w w' := by
  obtain ⟨sa, sc, ca, cc, bx, HA⟩ := asked_d h gen k F T pa cap q x hl hk
  have HAS := Lib.hid HA
  have HD := Lib.hid (fun W (hb : Below w.heap.size w W) => h.below hb)
  have HL := Lib.hid (fun W (hb : Below w.heap.size w W) => (hl.below hb).more hb.size)
  have hgl := h.lt
  have HVV : Hid (rV n X gen k F T x = if homeB n X gen k F T x then rdV n X.m X.S X.C X.d (atT F T k x) else fun _ => 0) := Lib.hid rfl
  have HEE : Hid (rE n X gen k F T x = if homeB n X gen k F T x then rdE n X.m X.S X.C X.d (atT F T k x) else 1) := Lib.hid rfl
  have HRX := Lib.hid (fun W (hb : Below w.heap.size w W) => refread_x (h.below hb) (atT F T k x))
  clear h hl HA
  generalize rV n X gen k F T x = V at HVV ⊢
  generalize rE n X gen k F T x = E at HEE ⊢
  generalize homeB n X gen k F T x = b at HVV HEE HAS
  obtain ⟨W, hW, hb0, tx0, hr0, hs0⟩ : ∃ W, W = (w.alloc (.cells #[.int .i64 gen, .slice pa k cap] 28)).alloc (.cells (bl fun _ => 0).toArray 36) ∧ Below w.heap.size w W ∧
      W.heap[w.heap.size]? = some (.cells #[.int .i64 gen, .slice pa k cap] 28 (0, 0)) ∧ W.heap[w.heap.size + 1]? = some (.cells (bl fun _ => 0).toArray 36 (0, 0)) ∧ W.heap.size = w.heap.size + 2 := by
    refine ⟨_, rfl, ((Below.refl _ _).alloc (Nat.le_refl _) _).alloc (by simp) _, (Below.heap_alloc _ _ _ (by simp)).trans (heap_alloc_new _ _), ?_, by simp⟩
    have := heap_alloc_new (w.alloc (.cells #[.int .i64 gen, .slice pa k cap] 28)) (.cells (bl fun _ => 0).toArray 36)
    rwa [World.size_alloc] at this
  have bx0 := bx.below hb0
  have HBX := Lib.hid (fun w' (hw' : Below W.heap.size W w') => bx0.below hw')
  have HM := Lib.hid (fun w' (hw' : Below W.heap.size W w') => show w'.cell? ⟨w.heap.size, 0, none⟩ = some (.int .i64 gen) ∧ w'.cell? ⟨w.heap.size, 1, none⟩ = some (.slice pa k cap) from
    ⟨(hw'.cell (p := ⟨w.heap.size, 0, none⟩) (by show w.heap.size < _; omega)).trans (by rw [cell_of_row _ _ _ _ _ _ tx0]; rfl), (hw'.cell (p := ⟨w.heap.size, 1, none⟩) (by show w.heap.size < _; omega)).trans (by rw [cell_of_row _ _ _ _ _ _ tx0]; rfl)⟩)
  clear bx bx0 tx0
  go_enter Tryz.func51, Tryz.ntmps51
  go_wp2_with fail
  rw [← hW]
  clear hW
  refine wp_region_quiet (C := fun w' => Below W.heap.size W w') (by kernel_rfl) (by kernel_rfl) ⟨rfl, rfl, rfl, Nat.le_refl _, fun _ _ => rfl⟩ ?_
  refine q_move _ rfl rfl ?_
  simp only [Act.put, List.setIfInBounds_toArray, List.set_cons_succ, List.set_cons_zero]
  refine q_val (.pointer (some ⟨g, 0, none⟩)) rfl (fun w' hw' => by go_simp) ?_
  simp only [Act.put, List.setIfInBounds_toArray, List.set_cons_succ, List.set_cons_zero]
  refine q_val (.agg #[.slice sa n sc, .slice ca X.m cc, .int .i64 X.f, .bool X.d]) rfl (fun w' hw' => by have hH := HBX.out w' hw'; have k0 := hH.c0; have k1 := hH.c1; have k2 := hH.c2; have k3 := hH.c3; go_simp) ?_
  simp only [Act.put, List.setIfInBounds_toArray, List.set_cons_succ, List.set_cons_zero]
  refine q_val (.agg #[.int .i64 gen, .slice pa k cap]) rfl (fun w' hw' => by obtain ⟨k0, k1⟩ := HM.out w' hw'; go_simp) ?_
  simp only [Act.put, List.setIfInBounds_toArray, List.set_cons_succ, List.set_cons_zero]
  refine q_move _ rfl rfl ?_
  simp only [Act.put, List.setIfInBounds_toArray, List.set_cons_succ, List.set_cons_zero]
  refine q_call 74 _ (.bool b) rfl (fun w' => by go_simp) (fun w' hw' => (HAS.out w' (hb0.trans (hw'.mono hb0.size))).mono fun e w'' ⟨he, hb⟩ => ⟨he, hw'.trans (hb.mono hw'.size)⟩) ?_
  simp only [Act.put, List.setIfInBounds_toArray, List.set_cons_succ, List.set_cons_zero]
  refine q_val (.bool (!b)) rfl (fun w' hw' => by go_simp) ?_
  simp only [Act.put, List.setIfInBounds_toArray, List.set_cons_succ, List.set_cons_zero]
  refine wpQuiet_nil ?_
  intro w1 hw1
  have hB1 := hb0.trans (hw1.mono hb0.size)
  have hr1 := (hw1.block (w.heap.size + 1) (by omega)).trans hr0
  obtain ⟨c0, c1⟩ := HM.out w1 hw1
  clear hr0 HAS HBX HM
  cases b with
  | false =>
    go_wp2_with (first
      | (refine wpList_buildTo rfl 36 #[] rfl _ rfl (bl fun _ => 0).toArray built29 ?_; simp only [Act.put, List.setIfInBounds_toArray, List.set_cons_succ, List.set_cons_zero])
      | (refine wpList_store_row rfl 36 (.tmp 6) (.tmp 15) rfl (w.heap.size + 1) (bl fun _ => 0).toArray rfl rfl 36 _ hr1 (size_bl' _) rfl (bl_all _) ?_; simp only [Act.put]))
    have hr2 := setRow_heap w1 (w.heap.size + 1) _ (bl fun _ => 0).toArray 36 (0, 0) hr1
    refine bodyPost_ret (results_rm rfl rfl rfl hr2) rfl ?_
    exact ⟨by rw [HVV.out, HEE.out]; rfl, hB1.trans ⟨rfl, rfl, rfl, by simp, fun k hk => setRow_other w1 _ k _ (by omega)⟩⟩
  | true =>
    go_wp2_with fail
    refine (refat_any gen k F T pa cap q x w1 (HL.out w1 hB1) hk).mono ?_
    rintro _ w2 ⟨rfl, hb2⟩
    have hB2 := hB1.trans (hb2.mono hB1.size)
    have hs1 := hw1.size
    have hr2 := (hb2.block (w.heap.size + 1) (by omega)).trans hr1
    have hs2 := hb2.size
    clear c0 c1 hr1 hb2 HL
    dsimp only
    go_wp2_with fail
    refine (HRX.out w2 hB2).mono ?_
    rintro _ w3 ⟨rfl, hb3⟩
    have HV1 : Hid (V = rdV n X.m X.S X.C X.d (atT F T k x)) := Lib.hid (by rw [HVV.out]; rfl)
    have HE1 : Hid (E = rdE n X.m X.S X.C X.d (atT F T k x)) := Lib.hid (by rw [HEE.out]; rfl)
    clear HVV HEE HRX
    generalize rdV n X.m X.S X.C X.d (atT F T k x) = V' at HV1
    generalize rdE n X.m X.S X.C X.d (atT F T k x) = E' at HE1
    have hB3 := hB2.trans (hb3.mono hB2.size)
    have hr3 := (hb3.block (w.heap.size + 1) (by omega)).trans hr2
    clear hr2 hb3
    dsimp only
    go_wp2_with (refine wpList_store_row rfl 36 (.tmp 6) (.tmp 21) rfl (w.heap.size + 1) (bl V').toArray rfl rfl 36 _ hr3 (size_bl' _) rfl (bl_all _) ?_; simp only [Act.put])
    have hr4 := setRow_heap w3 (w.heap.size + 1) _ (bl V').toArray 36 (0, 0) hr3
    refine bodyPost_ret (results_rm rfl rfl rfl hr4) rfl ?_
    exact ⟨by rw [HV1.out, HE1.out], hB3.trans ⟨rfl, rfl, rfl, by simp, fun k hk => setRow_other w3 _ k _ (by omega)⟩⟩
end Rm
end Go.Proofs.YtllejfnmbpjhaaaGreatDoor
