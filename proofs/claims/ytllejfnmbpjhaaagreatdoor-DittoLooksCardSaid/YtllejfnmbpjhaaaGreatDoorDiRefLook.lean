/- ditto: the reference's Look (made by tools/gen_drlook.py). -/
import Derived.Test.YtllejfnmbpjhaaaGreatDoorJDr
import Derived.Test.YtllejfnmbpjhaaaGreatDoorDiLook
namespace Go.Proofs.YtllejfnmbpjhaaaGreatDoor
set_option maxRecDepth 20000
namespace Di
open Go.RowKit Dk Byt Eqb Rm

attribute [local irreducible] wpQuiet
attribute [local go_sem] zv29
attribute [local go_sem] Pt.zvP
attribute [local go_sem] zc29
theorem rl_at {w w' : World} {k : Nat} {o : Obj} (hb : Below w.heap.size w w') (h : w.heap[k]? = some o) : w'.heap[k]? = some o := (hb.block k (Array.getElem?_eq_some_iff.1 h).1).trans h
/-- the call's own blocks: the pointer, the report that is told, the report -/
structure RlW (w : World) (p : Pt.Pn) (s d : Int) (w' : World) : Prop where
  be : Below w.heap.size w w'
  p : w'.heap[w.heap.size]? = some (.cells (Pt.pV p).toArray 31 (0, 0))
  z : Rb w' (w.heap.size + 1) 0 0 0
  r : Rb w' (w.heap.size + 2) s d 0
section
variable {w w' w'' : World} {p : Pt.Pn} {s d : Int}
theorem RlW.below (h : RlW w p s d w') (hb : Below w'.heap.size w' w'') : RlW w p s d w'' := ⟨h.be.trans (hb.mono h.be.size), rl_at hb h.p, rl_at hb h.z, rl_at hb h.r⟩
theorem RlW.seen (h : RlW w p s d w') (z : Int) : RlW w p z d (w'.setCell ⟨w.heap.size + 2, 0, none⟩ (.int .i64 z)) :=
  ⟨below_only h.be (by omega) (only_put _ _ _ _), (Below.heap_setCell _ _ _ _ (by show _ ≠ w.heap.size + 2; omega)).trans h.p, (Below.heap_setCell _ _ _ _ (by show _ ≠ w.heap.size + 2; omega)).trans h.z, h.r.s0 z⟩
theorem RlW.bad (h : RlW w p s d w') (z : Int) : RlW w p s z (w'.setCell ⟨w.heap.size + 2, 1, none⟩ (.int .i64 z)) :=
  ⟨below_only h.be (by omega) (only_put _ _ _ _), (Below.heap_setCell _ _ _ _ (by show _ ≠ w.heap.size + 2; omega)).trans h.p, (Below.heap_setCell _ _ _ _ (by show _ ≠ w.heap.size + 2; omega)).trans h.z, h.r.s1 z⟩
end
theorem box_rl (w : World) (p : Pt.Pn) : ∃ W, W = ((w.alloc (.cells (Pt.pV p).toArray 31)).alloc (.cells #[.int .i64 0, .int .i64 0, .int .i64 0, .slice none 0 0] 47)).alloc (.cells #[.int .i64 0, .int .i64 0, .int .i64 0, .slice none 0 0] 47) ∧ RlW w p 0 0 W := by
  refine ⟨_, rfl, (((Below.refl _ _).alloc (Nat.le_refl _) _).alloc (by simp) _).alloc (by simp; omega) _, (Below.heap_alloc _ _ _ (by simp; omega)).trans ((Below.heap_alloc _ _ _ (by simp)).trans (heap_alloc_new _ _)), (Below.heap_alloc _ _ _ (by simp)).trans ?_, ?_⟩
  · have := heap_alloc_new (w.alloc (.cells (Pt.pV p).toArray 31)) (.cells #[.int .i64 0, .int .i64 0, .int .i64 0, .slice none 0 0] 47)
    rwa [World.size_alloc] at this
  · have := heap_alloc_new ((w.alloc (.cells (Pt.pV p).toArray 31)).alloc (.cells #[.int .i64 0, .int .i64 0, .int .i64 0, .slice none 0 0] 47)) (.cells #[.int .i64 0, .int .i64 0, .int .i64 0, .slice none 0 0] 47)
    rwa [World.size_alloc, World.size_alloc] at this
def RlA (x2 x3 x4 x6 x7 x8 x11 x12 x13 x14 x15 x16 x17 x18 x19 x20 x21 x22 x23 x24 x25 x26 x27 x28 x29 x30 x31 x32 x44 x45 x46 x47 x48 x49 x50 x51 x52 x53 x54 x55 x56 x57 x58 x59 x60 x61 x62 x63 x64 x65 x66 x67 x68 x69 x70 x71 x72 x73 x74 x75 x76 x77 x78 x79 x80 x81 x82 x83 x84 x85 x86 x87 x88 x89 x90 x91 x92 x93 x94 x95 x96 x97 x98 x99 x100 x101 x102 x103 x104 x105 : Value) (W0 : World) (g b bp : Nat) (p : Pt.Pn) (gen : Int) (pa : Option Addr) (k cap : Nat) (V : Nat → Int) (ok : Bool) (L : Nat → Bool) (a' : Act) (w' : World) : Prop :=
  ∃ u0 u1 u2 u3 u4 u5 u6 u7 u8 u9 u10 u11 u13, a' = { tmps := #[.pointer (some ⟨g, 0, none⟩), .pointer (some ⟨b, 0, none⟩), x2, x3, x4, .pointer (some ⟨bp, 0, none⟩), x6, x7, x8, u11, u13, x11, x12, x13, x14, x15, x16, x17, x18, x19, x20, x21, x22, x23, x24, x25, x26, x27, x28, x29, x30, x31, x32, u8, u0, u1, u2, u3, u4, u5, u6, u7, u9, u10, x44, x45, x46, x47, x48, x49, x50, x51, x52, x53, x54, x55, x56, x57, x58, x59, x60, x61, x62, x63, x64, x65, x66, x67, x68, x69, x70, x71, x72, x73, x74, x75, x76, x77, x78, x79, x80, x81, x82, x83, x84, x85, x86, x87, x88, x89, x90, x91, x92, x93, x94, x95, x96, x97, x98, x99, x100, x101, x102, x103, x104, x105], defers := [] } ∧ (L 0 = true → u0 = .pointer (some ⟨g, 0, none⟩)) ∧ (L 1 = true → u1 = .pointer (some ⟨b, 0, none⟩)) ∧ (L 2 = true → u2 = .pointer (some ⟨b, 0, none⟩)) ∧ (L 3 = true → u3 = .agg #[.int .i64 gen, .slice pa k cap]) ∧ (L 4 = true → u4 = .agg (Pt.pV p).toArray) ∧ (L 5 = true → u5 = .pointer (some ⟨bp, 0, none⟩)) ∧ (L 6 = true → u6 = .int .i64 p.A) ∧ (L 7 = true → u7 = .tuple #[.agg (bl V).toArray, .bool ok]) ∧ (L 8 = true → u8 = .tuple #[.agg (bl V).toArray, .bool ok]) ∧ (L 9 = true → u9 = .agg (bl V).toArray) ∧ (L 10 = true → u10 = .bool ok) ∧ (L 13 = true → u13 = .bool ok) ∧ BlW W0 V (L 11) (L 12) u11 w'
theorem RlA_kl {L : Nat → Bool} {i k : Nat} {Q : Prop} (h : L k = true → Q) (h1 : (k == i) = false) : (k == i || L k) = true → Q := by
  rw [h1, Bool.false_or]
  exact h
def RlB (x2 x3 x4 x6 x7 x8 x9 x10 x13 x14 x15 x16 x17 x18 x19 x20 x21 x22 x23 x24 x25 x26 x27 x28 x29 x30 x31 x32 x33 x34 x35 x36 x37 x38 x39 x40 x41 x42 x43 x44 x45 x46 x47 x48 x49 x50 x51 x52 x53 x54 x66 x67 x68 x69 x70 x71 x72 x73 x74 x75 x76 x77 x78 x79 x80 x81 x82 x83 x84 x85 x86 x87 x88 x89 x90 x91 x92 x93 x94 x95 x96 x97 x98 x99 x100 x101 x102 x103 x104 x105 : Value) (W0 : World) (g b bp : Nat) (p : Pt.Pn) (gen : Int) (pa : Option Addr) (k cap : Nat) (V : Nat → Int) (ok : Bool) (L : Nat → Bool) (a' : Act) (w' : World) : Prop :=
  ∃ u0 u1 u2 u3 u4 u5 u6 u7 u8 u9 u10 u11 u13, a' = { tmps := #[.pointer (some ⟨g, 0, none⟩), .pointer (some ⟨b, 0, none⟩), x2, x3, x4, .pointer (some ⟨bp, 0, none⟩), x6, x7, x8, x9, x10, u11, u13, x13, x14, x15, x16, x17, x18, x19, x20, x21, x22, x23, x24, x25, x26, x27, x28, x29, x30, x31, x32, x33, x34, x35, x36, x37, x38, x39, x40, x41, x42, x43, x44, x45, x46, x47, x48, x49, x50, x51, x52, x53, x54, u8, u0, u1, u2, u3, u4, u5, u6, u7, u9, u10, x66, x67, x68, x69, x70, x71, x72, x73, x74, x75, x76, x77, x78, x79, x80, x81, x82, x83, x84, x85, x86, x87, x88, x89, x90, x91, x92, x93, x94, x95, x96, x97, x98, x99, x100, x101, x102, x103, x104, x105], defers := [] } ∧ (L 0 = true → u0 = .pointer (some ⟨g, 0, none⟩)) ∧ (L 1 = true → u1 = .pointer (some ⟨b, 0, none⟩)) ∧ (L 2 = true → u2 = .pointer (some ⟨b, 0, none⟩)) ∧ (L 3 = true → u3 = .agg #[.int .i64 gen, .slice pa k cap]) ∧ (L 4 = true → u4 = .agg (Pt.pV p).toArray) ∧ (L 5 = true → u5 = .pointer (some ⟨bp, 1, none⟩)) ∧ (L 6 = true → u6 = .int .i64 p.B) ∧ (L 7 = true → u7 = .tuple #[.agg (bl V).toArray, .bool ok]) ∧ (L 8 = true → u8 = .tuple #[.agg (bl V).toArray, .bool ok]) ∧ (L 9 = true → u9 = .agg (bl V).toArray) ∧ (L 10 = true → u10 = .bool ok) ∧ (L 13 = true → u13 = .bool ok) ∧ BlW W0 V (L 11) (L 12) u11 w'
theorem RlB_kl {L : Nat → Bool} {i k : Nat} {Q : Prop} (h : L k = true → Q) (h1 : (k == i) = false) : (k == i || L k) = true → Q := by
  rw [h1, Bool.false_or]
  exact h
set_option maxRecDepth 100000 in
set_option maxHeartbeats 16000000 in
theorem reflook_d {w : World} {g b n : Nat} {X : Dst} (h : HasD w g n X) (hkp : Rm.Kp w) (hok : Ok 23 X) (gen : Int) (k : Nat) (F T : Nat → Int) (hT : HasT w b g ⟨gen, k, F, T⟩) (hm : TabOk ⟨gen, k, F, T⟩) (hgb : g ≠ b) (p : Pt.Pn) (hyA : byt (tV n X ⟨gen, k, F, T⟩ p.A)) (hyB : byt (tV n X ⟨gen, k, F, T⟩ p.B)) :
    Calls Tryz.prog 14 #[.pointer (some ⟨g, 0, none⟩), .pointer (some ⟨b, 0, none⟩), .agg (Pt.pV p).toArray] w (Saws w g b n (lRes n X ⟨gen, k, F, T⟩ p)) := by
  unfold Saws
  have hgl := h.lt
  obtain ⟨pa, cap, hb, hl⟩ := id hT
  have hbl := (Array.getElem?_eq_some_iff.1 hb).1
  dsimp only at hb hl
  obtain ⟨sa, sc, ca, cc, hh⟩ := id h
  have h47 := hh.n47
  have HBX := Lib.hid (fun w' (hw : Below w.heap.size w w') => hh.below hw)
  have HD := Lib.hid (fun w' (hw : Below w.heap.size w w') => h.below hw)
  have HTT := Lib.hid (fun w' (hw : Below w.heap.size w w') => hasT_below hT hw)
  have HTB := Lib.hid (fun w' (hw : Below w.heap.size w w') => tab_cells ((hw.block b hbl).trans hb))
  have HHM := Lib.hid (fun w' (hw : Below w.heap.size w w') => refhome_v sa ca n sc cc g X gen k F T pa cap p w' h47.1 h47.2 (hh.below hw).cs ((hl.below hw).more hw.size) hm.1)
  have HRA := Lib.hid (fun w' (hw : Below w.heap.size w w') => refgood_d (h.below hw) (Nat.lt_of_lt_of_le hkp.2 hw.size) gen k F T pa cap g p p.A ((hl.below hw).more hw.size) hm.1 hyA)
  have HRB := Lib.hid (fun w' (hw : Below w.heap.size w w') => refgood_d (h.below hw) (Nat.lt_of_lt_of_le hkp.2 hw.size) gen k F T pa cap g p p.B ((hl.below hw).more hw.size) hm.1 hyB)
  have HHL := Lib.hid (fun w' (hw : Below w.heap.size w w') x V => refheal_d (h.below hw) (hkp.below hw) hok gen k F T (hasT_below hT hw) hm hgb x V)
  have HHO := Lib.hid (@hom_parts n X ⟨gen, k, F, T⟩ p)
  have G1 := Lib.hid (@l_no n X ⟨gen, k, F, T⟩ p)
  have GH := Lib.hid (@l_hole n X ⟨gen, k, F, T⟩ p)
  have G3 := Lib.hid (@l_down n X ⟨gen, k, F, T⟩ p)
  have G4 := Lib.hid (@l_up n X ⟨gen, k, F, T⟩ p)
  have HWR := Lib.hid (fun x V hr => w_right (n := n) (X := X) (M := ⟨gen, k, F, T⟩) (x := x) (V := V) hr)
  clear h hkp hok hT hm hl hyA hyB hb hh h47
  generalize lRes n X ⟨gen, k, F, T⟩ p = R at G1 GH G3 G4 ⊢
  generalize homB n X ⟨gen, k, F, T⟩ p = hm at HHM HHO G1 GH G3 G4
  generalize tV n X ⟨gen, k, F, T⟩ p.A = TA at HRA G4
  generalize tV n X ⟨gen, k, F, T⟩ p.B = TB at HRB G4
  generalize gdB n X ⟨gen, k, F, T⟩ p p.A = ga at HRA G4
  generalize gdB n X ⟨gen, k, F, T⟩ p p.B = gb at HRB G4
  obtain ⟨W, hW, hG0⟩ := box_rl w p
  have hBW := hG0.be
  have hpW := hG0.p
  have HG0 := Lib.hid hG0
  clear hG0
  go_enter Tryz.func14, Tryz.ntmps14
  go_wp2_with fail
  rw [← hW]
  clear hW
  refine wp_region_quiet (C := fun w' => Below W.heap.size W w') (by kernel_rfl) (by kernel_rfl) ⟨rfl, rfl, rfl, Nat.le_refl _, fun _ _ => rfl⟩ ?_
  refine q_move _ rfl rfl ?_
  simp only [Act.put, List.setIfInBounds_toArray, List.set_cons_succ, List.set_cons_zero]
  refine q_val (.pointer (some ⟨g, 0, none⟩)) rfl (fun w' hw' => by go_simp) ?_
  simp only [Act.put, List.setIfInBounds_toArray, List.set_cons_succ, List.set_cons_zero]
  refine q_val (.agg #[.slice sa n sc, .slice ca X.m cc, .int .i64 X.f, .bool X.d]) rfl (fun w' hw' => by have hH := (HBX.out w' (hBW.trans (hw'.mono hBW.size))).bx; have k0 := hH.c0; have k1 := hH.c1; have k2 := hH.c2; have k3 := hH.c3; clear hH; go_simp) ?_
  simp only [Act.put, List.setIfInBounds_toArray, List.set_cons_succ, List.set_cons_zero]
  refine q_move _ rfl rfl ?_
  simp only [Act.put, List.setIfInBounds_toArray, List.set_cons_succ, List.set_cons_zero]
  refine q_val (.pointer (some ⟨b, 0, none⟩)) rfl (fun w' hw' => by go_simp) ?_
  simp only [Act.put, List.setIfInBounds_toArray, List.set_cons_succ, List.set_cons_zero]
  refine q_val (.agg #[.int .i64 gen, .slice pa k cap]) rfl (fun w' hw' => by obtain ⟨k0, k1⟩ := HTB.out w' (hBW.trans (hw'.mono hBW.size)); go_simp) ?_
  simp only [Act.put, List.setIfInBounds_toArray, List.set_cons_succ, List.set_cons_zero]
  refine q_loadB 31 (.tmp 5) rfl rfl w.heap.size 0 rfl (Pt.pV p) _ (fun w' hw' => Pt.row_pt (rl_at hw' hpW)) Pt.undP rfl (Pt.sizeP p) ?_
  simp only [Act.put, List.setIfInBounds_toArray, List.set_cons_succ, List.set_cons_zero]
  refine q_call 25 _ (.bool hm) rfl (fun w' => by go_simp) (fun w' hw' => (HHM.out w' (hBW.trans (hw'.mono hBW.size))).mono fun e w'' ⟨he, hb⟩ => ⟨he, hw'.trans (hb.mono hw'.size)⟩) ?_
  simp only [Act.put, List.setIfInBounds_toArray, List.set_cons_succ, List.set_cons_zero]
  refine q_val (.bool (!hm)) rfl (fun w' hw' => by go_simp) ?_
  simp only [Act.put, List.setIfInBounds_toArray, List.set_cons_succ, List.set_cons_zero]
  refine wpQuiet_nil ?_
  intro w1 hw1
  have HG1 := Lib.hid (HG0.out.below hw1)
  clear HHM HG0 hw1 hBW hpW HBX
  cases hm with
  | false =>
    have hR := Lib.hid (G1.out rfl)
    clear HHO G1 GH G3 G4
    obtain ⟨r0, r1, r2, r3, y0, y1, y2⟩ := HG1.out.r.cs
    have hz := HG1.out.z
    unfold Rb at hz
    go_wp2_with (refine @wpList_store_row _ _ _ _ _ _ _ rfl 47 (.tmp 6) (.tmp 23) rfl (w.heap.size + 1) #[.int .i64 0, .int .i64 0, .int .i64 0, .slice none 0 0] rfl rfl 47 _ hz (by kernel_rfl) rfl (rb_one _ _ _) ?_; simp only [Act.put])
    refine bodyPost_ret (results_lk rfl rfl rfl (setRow_heap _ _ _ _ _ _ hz)) rfl ?_
    have hB := below_only HG1.out.be (Nat.le_succ _) (grown_row (B := w.heap.size + 1) #[.int .i64 0, .int .i64 0, .int .i64 0, .slice none 0 0])
    exact ⟨by rw [hR.out]; try rfl, two_of_below hB, by rw [hR.out]; exact HD.out _ hB, by rw [hR.out]; exact HTT.out _ hB⟩
  | true =>
    obtain ⟨_, hri, hpr, _, _⟩ := HHO.out rfl
    have HRI := Lib.hid hri
    replace GH := Lib.hid (GH.out rfl)
    replace G3 := Lib.hid (G3.out rfl)
    replace G4 := Lib.hid (G4.out rfl)
    have cA := Pt.cA_pt HG1.out.p
    clear HHO G1 hri hpr
    by_cases eA : p.A = -1
    · have a' : (p.A == -1) = true := by simpa using eA
      have hR := Lib.hid (GH.out eA)
      clear eA GH G3 G4
      obtain ⟨r0, r1, r2, r3, y0, y1, y2⟩ := HG1.out.r.cs
      have hz := HG1.out.z
      unfold Rb at hz
      go_wp2_with (refine @wpList_store_row _ _ _ _ _ _ _ rfl 47 (.tmp 6) (.tmp 27) rfl (w.heap.size + 1) #[.int .i64 0, .int .i64 0, .int .i64 0, .slice none 0 0] rfl rfl 47 _ hz (by kernel_rfl) rfl (rb_one _ _ _) ?_; simp only [Act.put])
      refine bodyPost_ret (results_lk rfl rfl rfl (setRow_heap _ _ _ _ _ _ hz)) rfl ?_
      have hB := below_only HG1.out.be (Nat.le_succ _) (grown_row (B := w.heap.size + 1) #[.int .i64 0, .int .i64 0, .int .i64 0, .slice none 0 0])
      exact ⟨by rw [hR.out]; try rfl, two_of_below hB, by rw [hR.out]; exact HD.out _ hB, by rw [hR.out]; exact HTT.out _ hB⟩
    · have a' : (p.A == -1) = false := by simpa using eA
      replace G3 := Lib.hid (G3.out eA)
      replace G4 := Lib.hid (G4.out eA)
      obtain ⟨sa1, sc1, ca1, cc1, hh1⟩ := HD.out w1 HG1.out.be
      have c3 := hh1.bx.c3
      clear eA GH hh1
      cases hd : X.d with
      | true =>
        rw [hd] at c3
        have hR := Lib.hid (G3.out hd)
        clear hd G3 G4
        obtain ⟨r0, r1, r2, r3, y0, y1, y2⟩ := HG1.out.r.cs
        have hz := HG1.out.z
        unfold Rb at hz
        go_wp2_with (refine @wpList_store_row _ _ _ _ _ _ _ rfl 47 (.tmp 6) (.tmp 32) rfl (w.heap.size + 1) #[.int .i64 0, .int .i64 0, .int .i64 0, .slice none 0 0] rfl rfl 47 _ hz (by kernel_rfl) rfl (rb_one _ _ _) ?_; simp only [Act.put])
        refine bodyPost_ret (results_lk rfl rfl rfl (setRow_heap _ _ _ _ _ _ hz)) rfl ?_
        have hB := below_only HG1.out.be (Nat.le_succ _) (grown_row (B := w.heap.size + 1) #[.int .i64 0, .int .i64 0, .int .i64 0, .slice none 0 0])
        exact ⟨by rw [hR.out]; try rfl, two_of_below hB, by rw [hR.out]; exact HD.out _ hB, by rw [hR.out]; exact HTT.out _ hB⟩
      | false =>
        rw [hd] at c3
        replace G4 := Lib.hid (G4.out hd)
        have hAA : ∀ {w'}, Below w1.heap.size w1 w' → Below w.heap.size w w' := fun hw => HG1.out.be.trans (hw.mono HG1.out.be.size)
        have HPA := Lib.hid (fun w' (hw : Below w1.heap.size w1 w') => rl_at hw HG1.out.p)
        have HGI : Hid (∀ u, BlW w1 TA false false u { w1 with drawn := w1.drawn + 1 }) := Lib.hid fun _ => ⟨⟨rfl, rfl, rfl, Nat.le_refl _, fun _ _ => rfl⟩, (fun h => by cases h), (fun h => by cases h)⟩
        have HCR := HRA
        clear hd G3
        go_wp2_with fail
        refine QuietTail2.regionInv (n := 14) (Inv := RlA _ _ _ _ _ _ _ _ _ _ _ _ _ _ _ _ _ _ _ _ _ _ _ _ _ _ _ _ _ _ _ _ _ _ _ _ _ _ _ _ _ _ _ _ _ _ _ _ _ _ _ _ _ _ _ _ _ _ _ _ _ _ _ _ _ _ _ _ _ _ _ _ _ _ _ _ _ _ _ _ _ _ _ _ _ _ _ _ _ _ w1 g b w.heap.size p gen pa k cap TA ga) (by kernel_rfl) (by decide) (by kernel_rfl) ⟨_, _, _, _, _, _, _, _, _, _, _, _, _, rfl, by simp, by simp, by simp, by simp, by simp, by simp, by simp, by simp, by simp, by simp, by simp, by simp, HGI.out _⟩ ?stepA ?finA
        case stepA =>
          rintro i o hi ho L a' w' ⟨u0, u1, u2, u3, u4, u5, u6, u7, u8, u9, u10, u11, u13, rfl, i0, i1, i2, i3, i4, i5, i6, i7, i8, i9, i10, i13, iW⟩ hL hpre
          match i, hi with
          | 0, _ =>
            simp at ho
            subst ho
            go_simp
            exact ⟨_, u1, u2, u3, u4, u5, u6, u7, u8, u9, u10, u11, u13, rfl, fun _ => rfl, RlA_kl i1 rfl, RlA_kl i2 rfl, RlA_kl i3 rfl, RlA_kl i4 rfl, RlA_kl i5 rfl, RlA_kl i6 rfl, RlA_kl i7 rfl, RlA_kl i8 rfl, RlA_kl i9 rfl, RlA_kl i10 rfl, RlA_kl i13 rfl, iW⟩
          | 1, _ =>
            simp at ho
            subst ho
            go_simp
            exact ⟨u0, _, u2, u3, u4, u5, u6, u7, u8, u9, u10, u11, u13, rfl, RlA_kl i0 rfl, fun _ => rfl, RlA_kl i2 rfl, RlA_kl i3 rfl, RlA_kl i4 rfl, RlA_kl i5 rfl, RlA_kl i6 rfl, RlA_kl i7 rfl, RlA_kl i8 rfl, RlA_kl i9 rfl, RlA_kl i10 rfl, RlA_kl i13 rfl, iW⟩
          | 2, _ =>
            simp at ho
            subst ho
            obtain rfl := i1 (hpre 1 (by kernel_rfl))
            go_simp
            exact ⟨u0, _, _, u3, u4, u5, u6, u7, u8, u9, u10, u11, u13, rfl, RlA_kl i0 rfl, RlA_kl i1 rfl, fun _ => rfl, RlA_kl i3 rfl, RlA_kl i4 rfl, RlA_kl i5 rfl, RlA_kl i6 rfl, RlA_kl i7 rfl, RlA_kl i8 rfl, RlA_kl i9 rfl, RlA_kl i10 rfl, RlA_kl i13 rfl, iW⟩
          | 3, _ =>
            simp at ho
            subst ho
            obtain rfl := i2 (hpre 2 (by kernel_rfl))
            obtain ⟨k0, k1⟩ := HTB.out w' (hAA iW.be)
            go_simp
            exact ⟨u0, u1, _, _, u4, u5, u6, u7, u8, u9, u10, u11, u13, rfl, RlA_kl i0 rfl, RlA_kl i1 rfl, RlA_kl i2 rfl, fun _ => rfl, RlA_kl i4 rfl, RlA_kl i5 rfl, RlA_kl i6 rfl, RlA_kl i7 rfl, RlA_kl i8 rfl, RlA_kl i9 rfl, RlA_kl i10 rfl, RlA_kl i13 rfl, iW⟩
          | 4, _ =>
            simp at ho
            subst ho
            refine wp_load_mid 31 (.tmp 5) rfl w.heap.size 0 rfl (Pt.pV p) _ (Pt.row_pt (HPA.out w' iW.be)) Pt.undP rfl (Pt.sizeP p) ?_
            simp only [Act.put, List.setIfInBounds_toArray, List.set_cons_succ, List.set_cons_zero]
            exact ⟨u0, u1, u2, u3, _, u5, u6, u7, u8, u9, u10, u11, u13, rfl, RlA_kl i0 rfl, RlA_kl i1 rfl, RlA_kl i2 rfl, RlA_kl i3 rfl, fun _ => rfl, RlA_kl i5 rfl, RlA_kl i6 rfl, RlA_kl i7 rfl, RlA_kl i8 rfl, RlA_kl i9 rfl, RlA_kl i10 rfl, RlA_kl i13 rfl, iW⟩
          | 5, _ =>
            simp at ho
            subst ho
            go_simp
            exact ⟨u0, u1, u2, u3, u4, _, u6, u7, u8, u9, u10, u11, u13, rfl, RlA_kl i0 rfl, RlA_kl i1 rfl, RlA_kl i2 rfl, RlA_kl i3 rfl, RlA_kl i4 rfl, fun _ => rfl, RlA_kl i6 rfl, RlA_kl i7 rfl, RlA_kl i8 rfl, RlA_kl i9 rfl, RlA_kl i10 rfl, RlA_kl i13 rfl, iW⟩
          | 6, _ =>
            simp at ho
            subst ho
            obtain rfl := i5 (hpre 5 (by kernel_rfl))
            have k0 := Pt.cA_pt (HPA.out w' iW.be)
            go_simp
            exact ⟨u0, u1, u2, u3, u4, _, _, u7, u8, u9, u10, u11, u13, rfl, RlA_kl i0 rfl, RlA_kl i1 rfl, RlA_kl i2 rfl, RlA_kl i3 rfl, RlA_kl i4 rfl, RlA_kl i5 rfl, fun _ => rfl, RlA_kl i7 rfl, RlA_kl i8 rfl, RlA_kl i9 rfl, RlA_kl i10 rfl, RlA_kl i13 rfl, iW⟩
          | 7, _ =>
            simp at ho
            subst ho
            obtain rfl := i0 (hpre 0 (by kernel_rfl))
            obtain rfl := i3 (hpre 3 (by kernel_rfl))
            obtain rfl := i4 (hpre 4 (by kernel_rfl))
            obtain rfl := i6 (hpre 6 (by kernel_rfl))
            go_simp
            refine (HCR.out w' (hAA iW.be)).mono ?_
            rintro _ w'' ⟨rfl, hb⟩
            exact ⟨_, u1, u2, _, _, u5, _, _, u8, u9, u10, u11, u13, rfl, RlA_kl i0 rfl, RlA_kl i1 rfl, RlA_kl i2 rfl, RlA_kl i3 rfl, RlA_kl i4 rfl, RlA_kl i5 rfl, RlA_kl i6 rfl, fun _ => rfl, RlA_kl i8 rfl, RlA_kl i9 rfl, RlA_kl i10 rfl, RlA_kl i13 rfl, iW.call hb⟩
          | 8, _ =>
            simp at ho
            subst ho
            obtain rfl := i7 (hpre 7 (by kernel_rfl))
            go_simp
            exact ⟨u0, u1, u2, u3, u4, u5, u6, _, _, u9, u10, u11, u13, rfl, RlA_kl i0 rfl, RlA_kl i1 rfl, RlA_kl i2 rfl, RlA_kl i3 rfl, RlA_kl i4 rfl, RlA_kl i5 rfl, RlA_kl i6 rfl, RlA_kl i7 rfl, fun _ => rfl, RlA_kl i9 rfl, RlA_kl i10 rfl, RlA_kl i13 rfl, iW⟩
          | 9, _ =>
            simp at ho
            subst ho
            obtain rfl := i8 (hpre 8 (by kernel_rfl))
            go_simp
            exact ⟨u0, u1, u2, u3, u4, u5, u6, u7, _, _, u10, u11, u13, rfl, RlA_kl i0 rfl, RlA_kl i1 rfl, RlA_kl i2 rfl, RlA_kl i3 rfl, RlA_kl i4 rfl, RlA_kl i5 rfl, RlA_kl i6 rfl, RlA_kl i7 rfl, RlA_kl i8 rfl, fun _ => rfl, RlA_kl i10 rfl, RlA_kl i13 rfl, iW⟩
          | 10, _ =>
            simp at ho
            subst ho
            obtain rfl := i8 (hpre 8 (by kernel_rfl))
            go_simp
            exact ⟨u0, u1, u2, u3, u4, u5, u6, u7, _, u9, _, u11, u13, rfl, RlA_kl i0 rfl, RlA_kl i1 rfl, RlA_kl i2 rfl, RlA_kl i3 rfl, RlA_kl i4 rfl, RlA_kl i5 rfl, RlA_kl i6 rfl, RlA_kl i7 rfl, RlA_kl i8 rfl, RlA_kl i9 rfl, fun _ => rfl, RlA_kl i13 rfl, iW⟩
          | 11, _ =>
            simp at ho
            subst ho
            go_simp
            exact ⟨u0, u1, u2, u3, u4, u5, u6, u7, u8, u9, u10, _, u13, rfl, RlA_kl i0 rfl, RlA_kl i1 rfl, RlA_kl i2 rfl, RlA_kl i3 rfl, RlA_kl i4 rfl, RlA_kl i5 rfl, RlA_kl i6 rfl, RlA_kl i7 rfl, RlA_kl i8 rfl, RlA_kl i9 rfl, RlA_kl i10 rfl, RlA_kl i13 rfl, iW.alloc hL⟩
          | 12, _ =>
            simp at ho
            subst ho
            obtain rfl := i9 (hpre 9 (by kernel_rfl))
            obtain ⟨bk, e10, _, hbk⟩ := iW.al (hpre 11 (by kernel_rfl))
            rw [hL] at hbk
            subst e10
            refine wp_store_row 36 (.tmp 9) (.tmp 42) rfl bk (bl TA).toArray rfl rfl 36 _ hbk (size_bl' _) rfl (bl_all _) ?_
            exact ⟨u0, u1, u2, u3, u4, u5, u6, u7, u8, _, u10, _, u13, rfl, RlA_kl i0 rfl, RlA_kl i1 rfl, RlA_kl i2 rfl, RlA_kl i3 rfl, RlA_kl i4 rfl, RlA_kl i5 rfl, RlA_kl i6 rfl, RlA_kl i7 rfl, RlA_kl i8 rfl, RlA_kl i9 rfl, RlA_kl i10 rfl, RlA_kl i13 rfl, iW.put hL (hpre 11 (by kernel_rfl)) hbk⟩
          | 13, _ =>
            simp at ho
            subst ho
            obtain rfl := i10 (hpre 10 (by kernel_rfl))
            go_simp
            exact ⟨u0, u1, u2, u3, u4, u5, u6, u7, u8, u9, _, u11, _, rfl, RlA_kl i0 rfl, RlA_kl i1 rfl, RlA_kl i2 rfl, RlA_kl i3 rfl, RlA_kl i4 rfl, RlA_kl i5 rfl, RlA_kl i6 rfl, RlA_kl i7 rfl, RlA_kl i8 rfl, RlA_kl i9 rfl, RlA_kl i10 rfl, fun _ => rfl, iW⟩
          | i + 14, h => omega
        rintro L a' w5 hall ⟨u0, u1, u2, u3, u4, u5, u6, u7, u8, u9, u10, u11, u13, rfl, i0, i1, i2, i3, i4, i5, i6, i7, i8, i9, i10, i13, iW⟩
        obtain rfl := i0 (hall 0 (by omega))
        obtain rfl := i1 (hall 1 (by omega))
        obtain rfl := i2 (hall 2 (by omega))
        obtain rfl := i3 (hall 3 (by omega))
        obtain rfl := i4 (hall 4 (by omega))
        obtain rfl := i5 (hall 5 (by omega))
        obtain rfl := i6 (hall 6 (by omega))
        obtain rfl := i7 (hall 7 (by omega))
        obtain rfl := i8 (hall 8 (by omega))
        obtain rfl := i9 (hall 9 (by omega))
        obtain rfl := i10 (hall 10 (by omega))
        obtain rfl := i13 (hall 13 (by omega))
        obtain ⟨bk, eu, hbk0, hbk⟩ := iW.al (hall 11 (by omega))
        rw [hall 12 (by omega), if_pos rfl] at hbk
        have hb5 := iW.be
        clear iW
        subst eu
        clear i0 i1 i2 i3 i4 i5 i6 i7 i8 i9 i10 i13 hall
        simp only [List.drop_succ_cons, List.drop_zero]
        refine wpList_nil ?_
        have HG5 := Lib.hid (HG1.out.below hb5)
        have hs1 : w.heap.size + 2 < w1.heap.size := HG1.out.r.lt
        have cB0 := Pt.cB_pt HG5.out.p
        clear HGI HCR HRA HPA hb5 hAA HG1 cA c3 a'
        cases ga with
        | true =>
          obtain ⟨w6, hw6, hG6, hbk6⟩ : ∃ w6, w6 = w5.setCell ⟨w.heap.size + 2, 0, none⟩ (.int .i64 1) ∧ RlW w p 1 0 w6 ∧ w6.heap[bk]? = some (.cells (bl TA).toArray 36 (0, 0)) := ⟨_, rfl, HG5.out.seen 1, (Below.heap_setCell _ _ _ _ (by show _ ≠ w.heap.size + 2; omega)).trans hbk⟩
          have HG6 := Lib.hid hG6
          clear hG6
          by_cases eB : p.B = -1
          · have b' : (p.B == -1) = true := by simpa using eB
            have hRR := G4.out
            rw [if_pos eB] at hRR
            have hR : Hid (R = ⟨1, 0, 0, 0, X, ⟨gen, k, F, T⟩⟩) := Lib.hid (hRR.trans rfl)
            clear eB G4 hRR hbk6
            obtain ⟨r0, r1, r2, r3, y0, y1, y2⟩ := HG5.out.r.cs
            have hz := HG6.out.z
            unfold Rb at hz
            have HBE := Lib.hid HG6.out.be
            clear HG6
            subst hw6
            go_wp2_with (refine @wpList_store_row _ _ _ _ _ _ _ rfl 47 (.tmp 6) (.tmp 54) rfl (w.heap.size + 1) #[.int .i64 1, .int .i64 0, .int .i64 0, .slice none 0 0] rfl rfl 47 _ hz (by kernel_rfl) rfl (rb_one _ _ _) ?_; simp only [Act.put])
            refine bodyPost_ret (results_lk rfl rfl rfl (setRow_heap _ _ _ _ _ _ hz)) rfl ?_
            have hB := below_only HBE.out (Nat.le_succ _) (grown_row (B := w.heap.size + 1) #[.int .i64 1, .int .i64 0, .int .i64 0, .slice none 0 0])
            exact ⟨by rw [hR.out]; try rfl, two_of_below hB, by rw [hR.out]; exact HD.out _ hB, by rw [hR.out]; exact HTT.out _ hB⟩
          · have b' : (p.B == -1) = false := by simpa using eB
            have hRR := G4.out
            rw [if_neg eB] at hRR
            have HR4 := Lib.hid hRR
            obtain ⟨r0, r1, r2, r3, y0, y1, y2⟩ := HG5.out.r.cs
            have hAA : ∀ {w'}, Below w6.heap.size w6 w' → Below w.heap.size w w' := fun hw => HG6.out.be.trans (hw.mono HG6.out.be.size)
            have HPA := Lib.hid (fun w' (hw : Below w6.heap.size w6 w') => rl_at hw HG6.out.p)
            have HGI : Hid (∀ u, BlW w6 TB false false u { w6 with drawn := w6.drawn + 1 }) := Lib.hid fun _ => ⟨⟨rfl, rfl, rfl, Nat.le_refl _, fun _ _ => rfl⟩, (fun h => by cases h), (fun h => by cases h)⟩
            have HCR := HRB
            clear eB hRR HG5 G4
            go_wp2_with fail
            rw [← hw6]
            clear hw6 r0 r1 r2 r3 y0 y1 y2
            refine QuietTail2.regionInv (n := 14) (Inv := RlB _ _ _ _ _ _ _ _ _ _ _ _ _ _ _ _ _ _ _ _ _ _ _ _ _ _ _ _ _ _ _ _ _ _ _ _ _ _ _ _ _ _ _ _ _ _ _ _ _ _ _ _ _ _ _ _ _ _ _ _ _ _ _ _ _ _ _ _ _ _ _ _ _ _ _ _ _ _ _ _ _ _ _ _ _ _ _ _ _ _ w6 g b w.heap.size p gen pa k cap TB gb) (by kernel_rfl) (by decide) (by kernel_rfl) ⟨_, _, _, _, _, _, _, _, _, _, _, _, _, rfl, by simp, by simp, by simp, by simp, by simp, by simp, by simp, by simp, by simp, by simp, by simp, by simp, HGI.out _⟩ ?stepC ?finC
            case stepC =>
              rintro i o hi ho L a' w' ⟨u0, u1, u2, u3, u4, u5, u6, u7, u8, u9, u10, u11, u13, rfl, i0, i1, i2, i3, i4, i5, i6, i7, i8, i9, i10, i13, iW⟩ hL hpre
              match i, hi with
              | 0, _ =>
                simp at ho
                subst ho
                go_simp
                exact ⟨_, u1, u2, u3, u4, u5, u6, u7, u8, u9, u10, u11, u13, rfl, fun _ => rfl, RlB_kl i1 rfl, RlB_kl i2 rfl, RlB_kl i3 rfl, RlB_kl i4 rfl, RlB_kl i5 rfl, RlB_kl i6 rfl, RlB_kl i7 rfl, RlB_kl i8 rfl, RlB_kl i9 rfl, RlB_kl i10 rfl, RlB_kl i13 rfl, iW⟩
              | 1, _ =>
                simp at ho
                subst ho
                go_simp
                exact ⟨u0, _, u2, u3, u4, u5, u6, u7, u8, u9, u10, u11, u13, rfl, RlB_kl i0 rfl, fun _ => rfl, RlB_kl i2 rfl, RlB_kl i3 rfl, RlB_kl i4 rfl, RlB_kl i5 rfl, RlB_kl i6 rfl, RlB_kl i7 rfl, RlB_kl i8 rfl, RlB_kl i9 rfl, RlB_kl i10 rfl, RlB_kl i13 rfl, iW⟩
              | 2, _ =>
                simp at ho
                subst ho
                obtain rfl := i1 (hpre 1 (by kernel_rfl))
                go_simp
                exact ⟨u0, _, _, u3, u4, u5, u6, u7, u8, u9, u10, u11, u13, rfl, RlB_kl i0 rfl, RlB_kl i1 rfl, fun _ => rfl, RlB_kl i3 rfl, RlB_kl i4 rfl, RlB_kl i5 rfl, RlB_kl i6 rfl, RlB_kl i7 rfl, RlB_kl i8 rfl, RlB_kl i9 rfl, RlB_kl i10 rfl, RlB_kl i13 rfl, iW⟩
              | 3, _ =>
                simp at ho
                subst ho
                obtain rfl := i2 (hpre 2 (by kernel_rfl))
                obtain ⟨k0, k1⟩ := HTB.out w' (hAA iW.be)
                go_simp
                exact ⟨u0, u1, _, _, u4, u5, u6, u7, u8, u9, u10, u11, u13, rfl, RlB_kl i0 rfl, RlB_kl i1 rfl, RlB_kl i2 rfl, fun _ => rfl, RlB_kl i4 rfl, RlB_kl i5 rfl, RlB_kl i6 rfl, RlB_kl i7 rfl, RlB_kl i8 rfl, RlB_kl i9 rfl, RlB_kl i10 rfl, RlB_kl i13 rfl, iW⟩
              | 4, _ =>
                simp at ho
                subst ho
                refine wp_load_mid 31 (.tmp 5) rfl w.heap.size 0 rfl (Pt.pV p) _ (Pt.row_pt (HPA.out w' iW.be)) Pt.undP rfl (Pt.sizeP p) ?_
                simp only [Act.put, List.setIfInBounds_toArray, List.set_cons_succ, List.set_cons_zero]
                exact ⟨u0, u1, u2, u3, _, u5, u6, u7, u8, u9, u10, u11, u13, rfl, RlB_kl i0 rfl, RlB_kl i1 rfl, RlB_kl i2 rfl, RlB_kl i3 rfl, fun _ => rfl, RlB_kl i5 rfl, RlB_kl i6 rfl, RlB_kl i7 rfl, RlB_kl i8 rfl, RlB_kl i9 rfl, RlB_kl i10 rfl, RlB_kl i13 rfl, iW⟩
              | 5, _ =>
                simp at ho
                subst ho
                go_simp
                exact ⟨u0, u1, u2, u3, u4, _, u6, u7, u8, u9, u10, u11, u13, rfl, RlB_kl i0 rfl, RlB_kl i1 rfl, RlB_kl i2 rfl, RlB_kl i3 rfl, RlB_kl i4 rfl, fun _ => rfl, RlB_kl i6 rfl, RlB_kl i7 rfl, RlB_kl i8 rfl, RlB_kl i9 rfl, RlB_kl i10 rfl, RlB_kl i13 rfl, iW⟩
              | 6, _ =>
                simp at ho
                subst ho
                obtain rfl := i5 (hpre 5 (by kernel_rfl))
                have k0 := Pt.cB_pt (HPA.out w' iW.be)
                go_simp
                exact ⟨u0, u1, u2, u3, u4, _, _, u7, u8, u9, u10, u11, u13, rfl, RlB_kl i0 rfl, RlB_kl i1 rfl, RlB_kl i2 rfl, RlB_kl i3 rfl, RlB_kl i4 rfl, RlB_kl i5 rfl, fun _ => rfl, RlB_kl i7 rfl, RlB_kl i8 rfl, RlB_kl i9 rfl, RlB_kl i10 rfl, RlB_kl i13 rfl, iW⟩
              | 7, _ =>
                simp at ho
                subst ho
                obtain rfl := i0 (hpre 0 (by kernel_rfl))
                obtain rfl := i3 (hpre 3 (by kernel_rfl))
                obtain rfl := i4 (hpre 4 (by kernel_rfl))
                obtain rfl := i6 (hpre 6 (by kernel_rfl))
                go_simp
                refine (HCR.out w' (hAA iW.be)).mono ?_
                rintro _ w'' ⟨rfl, hb⟩
                exact ⟨_, u1, u2, _, _, u5, _, _, u8, u9, u10, u11, u13, rfl, RlB_kl i0 rfl, RlB_kl i1 rfl, RlB_kl i2 rfl, RlB_kl i3 rfl, RlB_kl i4 rfl, RlB_kl i5 rfl, RlB_kl i6 rfl, fun _ => rfl, RlB_kl i8 rfl, RlB_kl i9 rfl, RlB_kl i10 rfl, RlB_kl i13 rfl, iW.call hb⟩
              | 8, _ =>
                simp at ho
                subst ho
                obtain rfl := i7 (hpre 7 (by kernel_rfl))
                go_simp
                exact ⟨u0, u1, u2, u3, u4, u5, u6, _, _, u9, u10, u11, u13, rfl, RlB_kl i0 rfl, RlB_kl i1 rfl, RlB_kl i2 rfl, RlB_kl i3 rfl, RlB_kl i4 rfl, RlB_kl i5 rfl, RlB_kl i6 rfl, RlB_kl i7 rfl, fun _ => rfl, RlB_kl i9 rfl, RlB_kl i10 rfl, RlB_kl i13 rfl, iW⟩
              | 9, _ =>
                simp at ho
                subst ho
                obtain rfl := i8 (hpre 8 (by kernel_rfl))
                go_simp
                exact ⟨u0, u1, u2, u3, u4, u5, u6, u7, _, _, u10, u11, u13, rfl, RlB_kl i0 rfl, RlB_kl i1 rfl, RlB_kl i2 rfl, RlB_kl i3 rfl, RlB_kl i4 rfl, RlB_kl i5 rfl, RlB_kl i6 rfl, RlB_kl i7 rfl, RlB_kl i8 rfl, fun _ => rfl, RlB_kl i10 rfl, RlB_kl i13 rfl, iW⟩
              | 10, _ =>
                simp at ho
                subst ho
                obtain rfl := i8 (hpre 8 (by kernel_rfl))
                go_simp
                exact ⟨u0, u1, u2, u3, u4, u5, u6, u7, _, u9, _, u11, u13, rfl, RlB_kl i0 rfl, RlB_kl i1 rfl, RlB_kl i2 rfl, RlB_kl i3 rfl, RlB_kl i4 rfl, RlB_kl i5 rfl, RlB_kl i6 rfl, RlB_kl i7 rfl, RlB_kl i8 rfl, RlB_kl i9 rfl, fun _ => rfl, RlB_kl i13 rfl, iW⟩
              | 11, _ =>
                simp at ho
                subst ho
                go_simp
                exact ⟨u0, u1, u2, u3, u4, u5, u6, u7, u8, u9, u10, _, u13, rfl, RlB_kl i0 rfl, RlB_kl i1 rfl, RlB_kl i2 rfl, RlB_kl i3 rfl, RlB_kl i4 rfl, RlB_kl i5 rfl, RlB_kl i6 rfl, RlB_kl i7 rfl, RlB_kl i8 rfl, RlB_kl i9 rfl, RlB_kl i10 rfl, RlB_kl i13 rfl, iW.alloc hL⟩
              | 12, _ =>
                simp at ho
                subst ho
                obtain rfl := i9 (hpre 9 (by kernel_rfl))
                obtain ⟨bk, e10, _, hbk⟩ := iW.al (hpre 11 (by kernel_rfl))
                rw [hL] at hbk
                subst e10
                refine wp_store_row 36 (.tmp 11) (.tmp 64) rfl bk (bl TB).toArray rfl rfl 36 _ hbk (size_bl' _) rfl (bl_all _) ?_
                exact ⟨u0, u1, u2, u3, u4, u5, u6, u7, u8, _, u10, _, u13, rfl, RlB_kl i0 rfl, RlB_kl i1 rfl, RlB_kl i2 rfl, RlB_kl i3 rfl, RlB_kl i4 rfl, RlB_kl i5 rfl, RlB_kl i6 rfl, RlB_kl i7 rfl, RlB_kl i8 rfl, RlB_kl i9 rfl, RlB_kl i10 rfl, RlB_kl i13 rfl, iW.put hL (hpre 11 (by kernel_rfl)) hbk⟩
              | 13, _ =>
                simp at ho
                subst ho
                obtain rfl := i10 (hpre 10 (by kernel_rfl))
                go_simp
                exact ⟨u0, u1, u2, u3, u4, u5, u6, u7, u8, u9, _, u11, _, rfl, RlB_kl i0 rfl, RlB_kl i1 rfl, RlB_kl i2 rfl, RlB_kl i3 rfl, RlB_kl i4 rfl, RlB_kl i5 rfl, RlB_kl i6 rfl, RlB_kl i7 rfl, RlB_kl i8 rfl, RlB_kl i9 rfl, RlB_kl i10 rfl, fun _ => rfl, iW⟩
              | i + 14, h => omega
            rintro L a' w7 hall ⟨u0, u1, u2, u3, u4, u5, u6, u7, u8, u9, u10, u11, u13, rfl, i0, i1, i2, i3, i4, i5, i6, i7, i8, i9, i10, i13, iW⟩
            obtain rfl := i0 (hall 0 (by omega))
            obtain rfl := i1 (hall 1 (by omega))
            obtain rfl := i2 (hall 2 (by omega))
            obtain rfl := i3 (hall 3 (by omega))
            obtain rfl := i4 (hall 4 (by omega))
            obtain rfl := i5 (hall 5 (by omega))
            obtain rfl := i6 (hall 6 (by omega))
            obtain rfl := i7 (hall 7 (by omega))
            obtain rfl := i8 (hall 8 (by omega))
            obtain rfl := i9 (hall 9 (by omega))
            obtain rfl := i10 (hall 10 (by omega))
            obtain rfl := i13 (hall 13 (by omega))
            obtain ⟨bl2, eu, hbm0, hbm⟩ := iW.al (hall 11 (by omega))
            rw [hall 12 (by omega), if_pos rfl] at hbm
            have hb7 := iW.be
            clear iW
            subst eu
            clear i0 i1 i2 i3 i4 i5 i6 i7 i8 i9 i10 i13 hall
            simp only [List.drop_succ_cons, List.drop_zero]
            refine wpList_nil ?_
            have HG7 := Lib.hid (HG6.out.below hb7)
            have hs6 : w.heap.size + 2 < w6.heap.size := HG6.out.r.lt
            have hk7 := rl_at hb7 hbk6
            clear HGI HCR HRB HPA hb7 hAA HG6 hbk6 cB0 b' HTB hbk
            cases gb with
            | true =>
              obtain ⟨w8, hw8, hG8⟩ : ∃ w8, w8 = w7.setCell ⟨w.heap.size + 2, 0, none⟩ (.int .i64 2) ∧ RlW w p 2 0 w8 := ⟨_, rfl, HG7.out.seen 2⟩
              have HG8 := Lib.hid hG8
              have hR : Hid (R = ⟨2, 0, 0, 0, X, ⟨gen, k, F, T⟩⟩) := Lib.hid (HR4.out.trans rfl)
              clear hG8 HR4 hk7 hbm HHL HWR
              obtain ⟨r0, r1, r2, r3, y0, y1, y2⟩ := HG7.out.r.cs
              have hz := HG8.out.z
              unfold Rb at hz
              have HBE := Lib.hid HG8.out.be
              clear HG8
              subst hw8
              go_wp2_with (refine @wpList_store_row _ _ _ _ _ _ _ rfl 47 (.tmp 6) (.tmp 105) rfl (w.heap.size + 1) #[.int .i64 2, .int .i64 0, .int .i64 0, .slice none 0 0] rfl rfl 47 _ hz (by kernel_rfl) rfl (rb_one _ _ _) ?_; simp only [Act.put])
              refine bodyPost_ret (results_lk rfl rfl rfl (setRow_heap _ _ _ _ _ _ hz)) rfl ?_
              have hB := below_only HBE.out (Nat.le_succ _) (grown_row (B := w.heap.size + 1) #[.int .i64 2, .int .i64 0, .int .i64 0, .slice none 0 0])
              exact ⟨by rw [hR.out]; try rfl, two_of_below hB, by rw [hR.out]; exact HD.out _ hB, by rw [hR.out]; exact HTT.out _ hB⟩
            | false =>
              obtain ⟨w8, hw8, hG8, hk8⟩ : ∃ w8, w8 = (w7.setCell ⟨w.heap.size + 2, 0, none⟩ (.int .i64 2)).setCell ⟨w.heap.size + 2, 1, none⟩ (.int .i64 1) ∧ RlW w p 2 1 w8 ∧ w8.heap[bk]? = some (.cells (bl TA).toArray 36 (0, 0)) := ⟨_, rfl, (HG7.out.seen 2).bad 1, (Below.heap_setCell _ _ _ _ (by show _ ≠ w.heap.size + 2; omega)).trans ((Below.heap_setCell _ _ _ _ (by show _ ≠ w.heap.size + 2; omega)).trans hk7)⟩
              have HG8 := Lib.hid hG8
              have hRR : R = lHeal (wRes n X ⟨gen, k, F, T⟩ p.B TA) := HR4.out.trans rfl
              have rk := row_all hk8
              clear hG8 hk8 HR4 hk7 hbm
              have HH := Lib.hid (HHL.out w8 HG8.out.be p.B TA)
              have hw := HWR.out p.B TA HRI.out
              unfold Healed at HH
              generalize wRes n X ⟨gen, k, F, T⟩ p.B TA = Q at HH hRR hw
              obtain ⟨E, X', M'⟩ := Q
              dsimp only at HH hw
              have HW := Lib.hid hw
              have HRR := Lib.hid hRR
              clear hw hRR HHL HWR
              obtain ⟨r0, r1, r2, r3, y0, y1, y2⟩ := HG7.out.r.cs
              rw [hw8] at rk
              have c8 := Pt.cB_pt HG8.out.p
              rw [hw8] at c8
              clear HG7
              go_wp2_with (refine @wpList_loadG _ _ _ _ _ _ _ (by kernel_rfl) 36 (.tmp 9) rfl bk 0 rfl (bl TA) _ rk undB rfl (size_bl _) ?_; simp only [Act.put, List.setIfInBounds_toArray, List.set_cons_succ, List.set_cons_zero])
              rw [← hw8]
              clear hw8 r0 r1 r2 r3 y0 y1 y2 c8
              refine HH.out.mono ?_
              rintro _ w9 ⟨rfl, hT9, hD9, hM9⟩
              have hz9 : Rb w9 (w.heap.size + 1) 0 0 0 := (hT9.block (w.heap.size + 1) HG8.out.z.lt (by omega) (by omega)).trans HG8.out.z
              have hr9 : Rb w9 (w.heap.size + 2) 2 1 0 := (hT9.block (w.heap.size + 2) HG8.out.r.lt (by omega) (by omega)).trans HG8.out.r
              have hT9' := two_below' HG8.out.be hT9
              have HR9 := Lib.hid hr9
              have HZ9 := Lib.hid hz9
              have HD9 := Lib.hid hD9
              have HM9 := Lib.hid hM9
              have HT9 := Lib.hid hT9'
              have hH8 : hlH E < 8 := by unfold hlH; split <;> omega
              clear HH hT9 hz9 hr9 hD9 hM9 hT9' HG8 rk
              dsimp only
              obtain ⟨w10, hw10, hz10, hT10, hD10, hM10⟩ : ∃ w10, w10 = w9.setCell ⟨w.heap.size + 2, 2, none⟩ (.int .i64 (hlH E)) ∧ Rb w10 (w.heap.size + 1) 0 0 0 ∧ Two w w10 g b ∧ HasD w10 g n X' ∧ HasT w10 b g M' :=
                ⟨_, rfl, (Below.heap_setCell _ _ _ _ (by show _ ≠ w.heap.size + 2; omega)).trans HZ9.out, two_only HT9.out (by omega) (only_put _ _ _ _), hasD_only HD9.out HR9.out (by simp) (by omega) (only_put _ _ _ _), hasT_only HM9.out HW.out HR9.out (rb_small (by omega) (by omega) (by omega)) (by omega) (only_put _ _ _ _)⟩
              obtain ⟨r0, r1, r2, r3, y0, y1, y2⟩ := HR9.out.cs
              have HT10 := Lib.hid hT10
              have HD10 := Lib.hid hD10
              have HM10 := Lib.hid hM10
              unfold Rb at hz10
              clear HR9 HZ9 HD9 HM9 HT9 hT10 hD10 hM10
              by_cases e3 : E = 3
              · have hRR' : Hid (R = ⟨0, 0, 0, 3, X', M'⟩) := Lib.hid (by rw [HRR.out, e3]; rfl)
                have hh : hlE E = 3 := by rw [e3]; rfl
                clear HRR e3
                generalize hlH E = hE at hw10 hH8 ⊢
                generalize hlE E = eE at hh ⊢
                subst hh
                subst hw10
                go_wp2_with (first
                  | (refine wpList_buildTo rfl 47 #[] rfl _ rfl #[.int .i64 0, .int .i64 0, .int .i64 0, .slice none 0 0] builtR ?_; simp only [Act.put, List.setIfInBounds_toArray, List.set_cons_succ, List.set_cons_zero])
                  | (refine @wpList_store_row _ _ _ _ _ _ _ rfl 47 (.tmp 6) (.tmp 103) rfl (w.heap.size + 1) #[.int .i64 0, .int .i64 0, .int .i64 0, .slice none 0 0] rfl rfl 47 _ hz10 (by kernel_rfl) rfl (rb_one _ _ _) ?_; simp only [Act.put]))
                refine bodyPost_ret (results_lk rfl rfl rfl (setRow_heap _ _ _ _ _ _ hz10)) rfl ?_
                exact ⟨by rw [hRR'.out]; try rfl, two_only HT10.out (Nat.le_succ _) (grown_row _), by rw [hRR'.out]; exact hasD_only HD10.out hz10 (by simp) (by omega) (grown_row _), by rw [hRR'.out]; exact hasT_only HM10.out HW.out hz10 (rb_small (by omega) (by omega) (by omega)) (by omega) (grown_row _)⟩
              · have hRR' : Hid (R = ⟨2, 1, hlH E, 0, X', M'⟩) := Lib.hid (by rw [HRR.out]; exact if_neg e3)
                have hh : hlE E = 0 := if_neg e3
                clear HRR e3
                generalize hlH E = hE at hw10 hH8 hRR' ⊢
                generalize hlE E = eE at hh ⊢
                subst hh
                subst hw10
                go_wp2_with (refine @wpList_store_row _ _ _ _ _ _ _ rfl 47 (.tmp 6) (.tmp 105) rfl (w.heap.size + 1) #[.int .i64 2, .int .i64 1, .int .i64 hE, .slice none 0 0] rfl rfl 47 _ hz10 (by kernel_rfl) rfl (rb_one _ _ _) ?_; simp only [Act.put])
                refine bodyPost_ret (results_lk rfl rfl rfl (setRow_heap _ _ _ _ _ _ hz10)) rfl ?_
                exact ⟨by rw [hRR'.out]; try rfl, two_only HT10.out (Nat.le_succ _) (grown_row _), by rw [hRR'.out]; exact hasD_only HD10.out hz10 (by simp) (by omega) (grown_row _), by rw [hRR'.out]; exact hasT_only HM10.out HW.out hz10 (rb_small (by omega) (by omega) (by omega)) (by omega) (grown_row _)⟩
        | false =>
          obtain ⟨w6, hw6, hG6, hbk6⟩ : ∃ w6, w6 = (w5.setCell ⟨w.heap.size + 2, 0, none⟩ (.int .i64 1)).setCell ⟨w.heap.size + 2, 1, none⟩ (.int .i64 1) ∧ RlW w p 1 1 w6 ∧ w6.heap[bk]? = some (.cells (bl TA).toArray 36 (0, 0)) := ⟨_, rfl, (HG5.out.seen 1).bad 1, (Below.heap_setCell _ _ _ _ (by show _ ≠ w.heap.size + 2; omega)).trans ((Below.heap_setCell _ _ _ _ (by show _ ≠ w.heap.size + 2; omega)).trans hbk)⟩
          have HG6 := Lib.hid hG6
          clear hG6
          by_cases eB : p.B = -1
          · have b' : (p.B == -1) = true := by simpa using eB
            have hRR := G4.out
            rw [if_pos eB] at hRR
            have hR : Hid (R = ⟨1, 1, 0, 2, X, ⟨gen, k, F, T⟩⟩) := Lib.hid (hRR.trans rfl)
            clear eB G4 hRR hbk6
            obtain ⟨r0, r1, r2, r3, y0, y1, y2⟩ := HG5.out.r.cs
            have hz := HG6.out.z
            unfold Rb at hz
            have HBE := Lib.hid HG6.out.be
            clear HG6
            subst hw6
            go_wp2_with (refine @wpList_store_row _ _ _ _ _ _ _ rfl 47 (.tmp 6) (.tmp 53) rfl (w.heap.size + 1) #[.int .i64 1, .int .i64 1, .int .i64 0, .slice none 0 0] rfl rfl 47 _ hz (by kernel_rfl) rfl (rb_one _ _ _) ?_; simp only [Act.put])
            refine bodyPost_ret (results_lk rfl rfl rfl (setRow_heap _ _ _ _ _ _ hz)) rfl ?_
            have hB := below_only HBE.out (Nat.le_succ _) (grown_row (B := w.heap.size + 1) #[.int .i64 1, .int .i64 1, .int .i64 0, .slice none 0 0])
            exact ⟨by rw [hR.out]; try rfl, two_of_below hB, by rw [hR.out]; exact HD.out _ hB, by rw [hR.out]; exact HTT.out _ hB⟩
          · have b' : (p.B == -1) = false := by simpa using eB
            have hRR := G4.out
            rw [if_neg eB] at hRR
            have HR4 := Lib.hid hRR
            obtain ⟨r0, r1, r2, r3, y0, y1, y2⟩ := HG5.out.r.cs
            have hAA : ∀ {w'}, Below w6.heap.size w6 w' → Below w.heap.size w w' := fun hw => HG6.out.be.trans (hw.mono HG6.out.be.size)
            have HPA := Lib.hid (fun w' (hw : Below w6.heap.size w6 w') => rl_at hw HG6.out.p)
            have HGI : Hid (∀ u, BlW w6 TB false false u { w6 with drawn := w6.drawn + 1 }) := Lib.hid fun _ => ⟨⟨rfl, rfl, rfl, Nat.le_refl _, fun _ _ => rfl⟩, (fun h => by cases h), (fun h => by cases h)⟩
            have HCR := HRB
            clear eB hRR HG5 G4
            go_wp2_with fail
            rw [← hw6]
            clear hw6 r0 r1 r2 r3 y0 y1 y2
            refine QuietTail2.regionInv (n := 14) (Inv := RlB _ _ _ _ _ _ _ _ _ _ _ _ _ _ _ _ _ _ _ _ _ _ _ _ _ _ _ _ _ _ _ _ _ _ _ _ _ _ _ _ _ _ _ _ _ _ _ _ _ _ _ _ _ _ _ _ _ _ _ _ _ _ _ _ _ _ _ _ _ _ _ _ _ _ _ _ _ _ _ _ _ _ _ _ _ _ _ _ _ _ w6 g b w.heap.size p gen pa k cap TB gb) (by kernel_rfl) (by decide) (by kernel_rfl) ⟨_, _, _, _, _, _, _, _, _, _, _, _, _, rfl, by simp, by simp, by simp, by simp, by simp, by simp, by simp, by simp, by simp, by simp, by simp, by simp, HGI.out _⟩ ?stepD ?finD
            case stepD =>
              rintro i o hi ho L a' w' ⟨u0, u1, u2, u3, u4, u5, u6, u7, u8, u9, u10, u11, u13, rfl, i0, i1, i2, i3, i4, i5, i6, i7, i8, i9, i10, i13, iW⟩ hL hpre
              match i, hi with
              | 0, _ =>
                simp at ho
                subst ho
                go_simp
                exact ⟨_, u1, u2, u3, u4, u5, u6, u7, u8, u9, u10, u11, u13, rfl, fun _ => rfl, RlB_kl i1 rfl, RlB_kl i2 rfl, RlB_kl i3 rfl, RlB_kl i4 rfl, RlB_kl i5 rfl, RlB_kl i6 rfl, RlB_kl i7 rfl, RlB_kl i8 rfl, RlB_kl i9 rfl, RlB_kl i10 rfl, RlB_kl i13 rfl, iW⟩
              | 1, _ =>
                simp at ho
                subst ho
                go_simp
                exact ⟨u0, _, u2, u3, u4, u5, u6, u7, u8, u9, u10, u11, u13, rfl, RlB_kl i0 rfl, fun _ => rfl, RlB_kl i2 rfl, RlB_kl i3 rfl, RlB_kl i4 rfl, RlB_kl i5 rfl, RlB_kl i6 rfl, RlB_kl i7 rfl, RlB_kl i8 rfl, RlB_kl i9 rfl, RlB_kl i10 rfl, RlB_kl i13 rfl, iW⟩
              | 2, _ =>
                simp at ho
                subst ho
                obtain rfl := i1 (hpre 1 (by kernel_rfl))
                go_simp
                exact ⟨u0, _, _, u3, u4, u5, u6, u7, u8, u9, u10, u11, u13, rfl, RlB_kl i0 rfl, RlB_kl i1 rfl, fun _ => rfl, RlB_kl i3 rfl, RlB_kl i4 rfl, RlB_kl i5 rfl, RlB_kl i6 rfl, RlB_kl i7 rfl, RlB_kl i8 rfl, RlB_kl i9 rfl, RlB_kl i10 rfl, RlB_kl i13 rfl, iW⟩
              | 3, _ =>
                simp at ho
                subst ho
                obtain rfl := i2 (hpre 2 (by kernel_rfl))
                obtain ⟨k0, k1⟩ := HTB.out w' (hAA iW.be)
                go_simp
                exact ⟨u0, u1, _, _, u4, u5, u6, u7, u8, u9, u10, u11, u13, rfl, RlB_kl i0 rfl, RlB_kl i1 rfl, RlB_kl i2 rfl, fun _ => rfl, RlB_kl i4 rfl, RlB_kl i5 rfl, RlB_kl i6 rfl, RlB_kl i7 rfl, RlB_kl i8 rfl, RlB_kl i9 rfl, RlB_kl i10 rfl, RlB_kl i13 rfl, iW⟩
              | 4, _ =>
                simp at ho
                subst ho
                refine wp_load_mid 31 (.tmp 5) rfl w.heap.size 0 rfl (Pt.pV p) _ (Pt.row_pt (HPA.out w' iW.be)) Pt.undP rfl (Pt.sizeP p) ?_
                simp only [Act.put, List.setIfInBounds_toArray, List.set_cons_succ, List.set_cons_zero]
                exact ⟨u0, u1, u2, u3, _, u5, u6, u7, u8, u9, u10, u11, u13, rfl, RlB_kl i0 rfl, RlB_kl i1 rfl, RlB_kl i2 rfl, RlB_kl i3 rfl, fun _ => rfl, RlB_kl i5 rfl, RlB_kl i6 rfl, RlB_kl i7 rfl, RlB_kl i8 rfl, RlB_kl i9 rfl, RlB_kl i10 rfl, RlB_kl i13 rfl, iW⟩
              | 5, _ =>
                simp at ho
                subst ho
                go_simp
                exact ⟨u0, u1, u2, u3, u4, _, u6, u7, u8, u9, u10, u11, u13, rfl, RlB_kl i0 rfl, RlB_kl i1 rfl, RlB_kl i2 rfl, RlB_kl i3 rfl, RlB_kl i4 rfl, fun _ => rfl, RlB_kl i6 rfl, RlB_kl i7 rfl, RlB_kl i8 rfl, RlB_kl i9 rfl, RlB_kl i10 rfl, RlB_kl i13 rfl, iW⟩
              | 6, _ =>
                simp at ho
                subst ho
                obtain rfl := i5 (hpre 5 (by kernel_rfl))
                have k0 := Pt.cB_pt (HPA.out w' iW.be)
                go_simp
                exact ⟨u0, u1, u2, u3, u4, _, _, u7, u8, u9, u10, u11, u13, rfl, RlB_kl i0 rfl, RlB_kl i1 rfl, RlB_kl i2 rfl, RlB_kl i3 rfl, RlB_kl i4 rfl, RlB_kl i5 rfl, fun _ => rfl, RlB_kl i7 rfl, RlB_kl i8 rfl, RlB_kl i9 rfl, RlB_kl i10 rfl, RlB_kl i13 rfl, iW⟩
              | 7, _ =>
                simp at ho
                subst ho
                obtain rfl := i0 (hpre 0 (by kernel_rfl))
                obtain rfl := i3 (hpre 3 (by kernel_rfl))
                obtain rfl := i4 (hpre 4 (by kernel_rfl))
                obtain rfl := i6 (hpre 6 (by kernel_rfl))
                go_simp
                refine (HCR.out w' (hAA iW.be)).mono ?_
                rintro _ w'' ⟨rfl, hb⟩
                exact ⟨_, u1, u2, _, _, u5, _, _, u8, u9, u10, u11, u13, rfl, RlB_kl i0 rfl, RlB_kl i1 rfl, RlB_kl i2 rfl, RlB_kl i3 rfl, RlB_kl i4 rfl, RlB_kl i5 rfl, RlB_kl i6 rfl, fun _ => rfl, RlB_kl i8 rfl, RlB_kl i9 rfl, RlB_kl i10 rfl, RlB_kl i13 rfl, iW.call hb⟩
              | 8, _ =>
                simp at ho
                subst ho
                obtain rfl := i7 (hpre 7 (by kernel_rfl))
                go_simp
                exact ⟨u0, u1, u2, u3, u4, u5, u6, _, _, u9, u10, u11, u13, rfl, RlB_kl i0 rfl, RlB_kl i1 rfl, RlB_kl i2 rfl, RlB_kl i3 rfl, RlB_kl i4 rfl, RlB_kl i5 rfl, RlB_kl i6 rfl, RlB_kl i7 rfl, fun _ => rfl, RlB_kl i9 rfl, RlB_kl i10 rfl, RlB_kl i13 rfl, iW⟩
              | 9, _ =>
                simp at ho
                subst ho
                obtain rfl := i8 (hpre 8 (by kernel_rfl))
                go_simp
                exact ⟨u0, u1, u2, u3, u4, u5, u6, u7, _, _, u10, u11, u13, rfl, RlB_kl i0 rfl, RlB_kl i1 rfl, RlB_kl i2 rfl, RlB_kl i3 rfl, RlB_kl i4 rfl, RlB_kl i5 rfl, RlB_kl i6 rfl, RlB_kl i7 rfl, RlB_kl i8 rfl, fun _ => rfl, RlB_kl i10 rfl, RlB_kl i13 rfl, iW⟩
              | 10, _ =>
                simp at ho
                subst ho
                obtain rfl := i8 (hpre 8 (by kernel_rfl))
                go_simp
                exact ⟨u0, u1, u2, u3, u4, u5, u6, u7, _, u9, _, u11, u13, rfl, RlB_kl i0 rfl, RlB_kl i1 rfl, RlB_kl i2 rfl, RlB_kl i3 rfl, RlB_kl i4 rfl, RlB_kl i5 rfl, RlB_kl i6 rfl, RlB_kl i7 rfl, RlB_kl i8 rfl, RlB_kl i9 rfl, fun _ => rfl, RlB_kl i13 rfl, iW⟩
              | 11, _ =>
                simp at ho
                subst ho
                go_simp
                exact ⟨u0, u1, u2, u3, u4, u5, u6, u7, u8, u9, u10, _, u13, rfl, RlB_kl i0 rfl, RlB_kl i1 rfl, RlB_kl i2 rfl, RlB_kl i3 rfl, RlB_kl i4 rfl, RlB_kl i5 rfl, RlB_kl i6 rfl, RlB_kl i7 rfl, RlB_kl i8 rfl, RlB_kl i9 rfl, RlB_kl i10 rfl, RlB_kl i13 rfl, iW.alloc hL⟩
              | 12, _ =>
                simp at ho
                subst ho
                obtain rfl := i9 (hpre 9 (by kernel_rfl))
                obtain ⟨bk, e10, _, hbk⟩ := iW.al (hpre 11 (by kernel_rfl))
                rw [hL] at hbk
                subst e10
                refine wp_store_row 36 (.tmp 11) (.tmp 64) rfl bk (bl TB).toArray rfl rfl 36 _ hbk (size_bl' _) rfl (bl_all _) ?_
                exact ⟨u0, u1, u2, u3, u4, u5, u6, u7, u8, _, u10, _, u13, rfl, RlB_kl i0 rfl, RlB_kl i1 rfl, RlB_kl i2 rfl, RlB_kl i3 rfl, RlB_kl i4 rfl, RlB_kl i5 rfl, RlB_kl i6 rfl, RlB_kl i7 rfl, RlB_kl i8 rfl, RlB_kl i9 rfl, RlB_kl i10 rfl, RlB_kl i13 rfl, iW.put hL (hpre 11 (by kernel_rfl)) hbk⟩
              | 13, _ =>
                simp at ho
                subst ho
                obtain rfl := i10 (hpre 10 (by kernel_rfl))
                go_simp
                exact ⟨u0, u1, u2, u3, u4, u5, u6, u7, u8, u9, _, u11, _, rfl, RlB_kl i0 rfl, RlB_kl i1 rfl, RlB_kl i2 rfl, RlB_kl i3 rfl, RlB_kl i4 rfl, RlB_kl i5 rfl, RlB_kl i6 rfl, RlB_kl i7 rfl, RlB_kl i8 rfl, RlB_kl i9 rfl, RlB_kl i10 rfl, fun _ => rfl, iW⟩
              | i + 14, h => omega
            rintro L a' w7 hall ⟨u0, u1, u2, u3, u4, u5, u6, u7, u8, u9, u10, u11, u13, rfl, i0, i1, i2, i3, i4, i5, i6, i7, i8, i9, i10, i13, iW⟩
            obtain rfl := i0 (hall 0 (by omega))
            obtain rfl := i1 (hall 1 (by omega))
            obtain rfl := i2 (hall 2 (by omega))
            obtain rfl := i3 (hall 3 (by omega))
            obtain rfl := i4 (hall 4 (by omega))
            obtain rfl := i5 (hall 5 (by omega))
            obtain rfl := i6 (hall 6 (by omega))
            obtain rfl := i7 (hall 7 (by omega))
            obtain rfl := i8 (hall 8 (by omega))
            obtain rfl := i9 (hall 9 (by omega))
            obtain rfl := i10 (hall 10 (by omega))
            obtain rfl := i13 (hall 13 (by omega))
            obtain ⟨bl2, eu, hbm0, hbm⟩ := iW.al (hall 11 (by omega))
            rw [hall 12 (by omega), if_pos rfl] at hbm
            have hb7 := iW.be
            clear iW
            subst eu
            clear i0 i1 i2 i3 i4 i5 i6 i7 i8 i9 i10 i13 hall
            simp only [List.drop_succ_cons, List.drop_zero]
            refine wpList_nil ?_
            have HG7 := Lib.hid (HG6.out.below hb7)
            have hs6 : w.heap.size + 2 < w6.heap.size := HG6.out.r.lt
            have hk7 := rl_at hb7 hbk6
            clear HGI HCR HRB HPA hb7 hAA HG6 hbk6 cB0 b' HTB hbk
            cases gb with
            | true =>
              obtain ⟨w8, hw8, hG8, hk8⟩ : ∃ w8, w8 = w7.setCell ⟨w.heap.size + 2, 0, none⟩ (.int .i64 2) ∧ RlW w p 2 1 w8 ∧ w8.heap[bl2]? = some (.cells (bl TB).toArray 36 (0, 0)) := ⟨_, rfl, HG7.out.seen 2, (Below.heap_setCell _ _ _ _ (by show _ ≠ w.heap.size + 2; omega)).trans hbm⟩
              have HG8 := Lib.hid hG8
              have hRR : R = lHeal (wRes n X ⟨gen, k, F, T⟩ p.A TB) := HR4.out.trans rfl
              have rk := row_all hk8
              clear hG8 hk8 HR4 hk7 hbm
              have HH := Lib.hid (HHL.out w8 HG8.out.be p.A TB)
              have hw := HWR.out p.A TB HRI.out
              unfold Healed at HH
              generalize wRes n X ⟨gen, k, F, T⟩ p.A TB = Q at HH hRR hw
              obtain ⟨E, X', M'⟩ := Q
              dsimp only at HH hw
              have HW := Lib.hid hw
              have HRR := Lib.hid hRR
              clear hw hRR HHL HWR
              obtain ⟨r0, r1, r2, r3, y0, y1, y2⟩ := HG7.out.r.cs
              rw [hw8] at rk
              have c8 := Pt.cA_pt HG8.out.p
              rw [hw8] at c8
              clear HG7
              go_wp2_with (refine @wpList_loadG _ _ _ _ _ _ _ (by kernel_rfl) 36 (.tmp 11) rfl bl2 0 rfl (bl TB) _ rk undB rfl (size_bl _) ?_; simp only [Act.put, List.setIfInBounds_toArray, List.set_cons_succ, List.set_cons_zero])
              rw [← hw8]
              clear hw8 r0 r1 r2 r3 y0 y1 y2 c8
              refine HH.out.mono ?_
              rintro _ w9 ⟨rfl, hT9, hD9, hM9⟩
              have hz9 : Rb w9 (w.heap.size + 1) 0 0 0 := (hT9.block (w.heap.size + 1) HG8.out.z.lt (by omega) (by omega)).trans HG8.out.z
              have hr9 : Rb w9 (w.heap.size + 2) 2 1 0 := (hT9.block (w.heap.size + 2) HG8.out.r.lt (by omega) (by omega)).trans HG8.out.r
              have hT9' := two_below' HG8.out.be hT9
              have HR9 := Lib.hid hr9
              have HZ9 := Lib.hid hz9
              have HD9 := Lib.hid hD9
              have HM9 := Lib.hid hM9
              have HT9 := Lib.hid hT9'
              have hH8 : hlH E < 8 := by unfold hlH; split <;> omega
              clear HH hT9 hz9 hr9 hD9 hM9 hT9' HG8 rk
              dsimp only
              obtain ⟨w10, hw10, hz10, hT10, hD10, hM10⟩ : ∃ w10, w10 = w9.setCell ⟨w.heap.size + 2, 2, none⟩ (.int .i64 (hlH E)) ∧ Rb w10 (w.heap.size + 1) 0 0 0 ∧ Two w w10 g b ∧ HasD w10 g n X' ∧ HasT w10 b g M' :=
                ⟨_, rfl, (Below.heap_setCell _ _ _ _ (by show _ ≠ w.heap.size + 2; omega)).trans HZ9.out, two_only HT9.out (by omega) (only_put _ _ _ _), hasD_only HD9.out HR9.out (by simp) (by omega) (only_put _ _ _ _), hasT_only HM9.out HW.out HR9.out (rb_small (by omega) (by omega) (by omega)) (by omega) (only_put _ _ _ _)⟩
              obtain ⟨r0, r1, r2, r3, y0, y1, y2⟩ := HR9.out.cs
              have HT10 := Lib.hid hT10
              have HD10 := Lib.hid hD10
              have HM10 := Lib.hid hM10
              unfold Rb at hz10
              clear HR9 HZ9 HD9 HM9 HT9 hT10 hD10 hM10
              by_cases e3 : E = 3
              · have hRR' : Hid (R = ⟨0, 0, 0, 3, X', M'⟩) := Lib.hid (by rw [HRR.out, e3]; rfl)
                have hh : hlE E = 3 := by rw [e3]; rfl
                clear HRR e3
                generalize hlH E = hE at hw10 hH8 ⊢
                generalize hlE E = eE at hh ⊢
                subst hh
                subst hw10
                go_wp2_with (first
                  | (refine wpList_buildTo rfl 47 #[] rfl _ rfl #[.int .i64 0, .int .i64 0, .int .i64 0, .slice none 0 0] builtR ?_; simp only [Act.put, List.setIfInBounds_toArray, List.set_cons_succ, List.set_cons_zero])
                  | (refine @wpList_store_row _ _ _ _ _ _ _ rfl 47 (.tmp 6) (.tmp 103) rfl (w.heap.size + 1) #[.int .i64 0, .int .i64 0, .int .i64 0, .slice none 0 0] rfl rfl 47 _ hz10 (by kernel_rfl) rfl (rb_one _ _ _) ?_; simp only [Act.put]))
                refine bodyPost_ret (results_lk rfl rfl rfl (setRow_heap _ _ _ _ _ _ hz10)) rfl ?_
                exact ⟨by rw [hRR'.out]; try rfl, two_only HT10.out (Nat.le_succ _) (grown_row _), by rw [hRR'.out]; exact hasD_only HD10.out hz10 (by simp) (by omega) (grown_row _), by rw [hRR'.out]; exact hasT_only HM10.out HW.out hz10 (rb_small (by omega) (by omega) (by omega)) (by omega) (grown_row _)⟩
              · have hRR' : Hid (R = ⟨2, 1, hlH E, 0, X', M'⟩) := Lib.hid (by rw [HRR.out]; exact if_neg e3)
                have hh : hlE E = 0 := if_neg e3
                clear HRR e3
                generalize hlH E = hE at hw10 hH8 hRR' ⊢
                generalize hlE E = eE at hh ⊢
                subst hh
                subst hw10
                go_wp2_with (refine @wpList_store_row _ _ _ _ _ _ _ rfl 47 (.tmp 6) (.tmp 105) rfl (w.heap.size + 1) #[.int .i64 2, .int .i64 1, .int .i64 hE, .slice none 0 0] rfl rfl 47 _ hz10 (by kernel_rfl) rfl (rb_one _ _ _) ?_; simp only [Act.put])
                refine bodyPost_ret (results_lk rfl rfl rfl (setRow_heap _ _ _ _ _ _ hz10)) rfl ?_
                exact ⟨by rw [hRR'.out]; try rfl, two_only HT10.out (Nat.le_succ _) (grown_row _), by rw [hRR'.out]; exact hasD_only HD10.out hz10 (by simp) (by omega) (grown_row _), by rw [hRR'.out]; exact hasT_only HM10.out HW.out hz10 (rb_small (by omega) (by omega) (by omega)) (by omega) (grown_row _)⟩
            | false =>
              obtain ⟨w8, hw8, hG8⟩ : ∃ w8, w8 = (w7.setCell ⟨w.heap.size + 2, 0, none⟩ (.int .i64 2)).setCell ⟨w.heap.size + 2, 1, none⟩ (.int .i64 2) ∧ RlW w p 2 2 w8 := ⟨_, rfl, (HG7.out.seen 2).bad 2⟩
              have HG8 := Lib.hid hG8
              have hR : Hid (R = ⟨2, 2, 0, 2, X, ⟨gen, k, F, T⟩⟩) := Lib.hid (HR4.out.trans rfl)
              clear hG8 HR4 hk7 hbm HHL HWR
              obtain ⟨r0, r1, r2, r3, y0, y1, y2⟩ := HG7.out.r.cs
              have hz := HG8.out.z
              unfold Rb at hz
              have HBE := Lib.hid HG8.out.be
              clear HG8
              subst hw8
              go_wp2_with (refine @wpList_store_row _ _ _ _ _ _ _ rfl 47 (.tmp 6) (.tmp 76) rfl (w.heap.size + 1) #[.int .i64 2, .int .i64 2, .int .i64 0, .slice none 0 0] rfl rfl 47 _ hz (by kernel_rfl) rfl (rb_one _ _ _) ?_; simp only [Act.put])
              refine bodyPost_ret (results_lk rfl rfl rfl (setRow_heap _ _ _ _ _ _ hz)) rfl ?_
              have hB := below_only HBE.out (Nat.le_succ _) (grown_row (B := w.heap.size + 1) #[.int .i64 2, .int .i64 2, .int .i64 0, .slice none 0 0])
              exact ⟨by rw [hR.out]; try rfl, two_of_below hB, by rw [hR.out]; exact HD.out _ hB, by rw [hR.out]; exact HTT.out _ hB⟩
end Di
end Go.Proofs.YtllejfnmbpjhaaaGreatDoor
