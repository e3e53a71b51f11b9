import Derived.Test.YtebgaafaokiigaaGreatDoorPVlE
/- vol: the reference's Mine (made by tools/gen_vlrmine.py). -/
namespace Go.Proofs.YtebgaafaokiigaaGreatDoor
set_option maxRecDepth 20000
namespace Vl
open Go.RowKit Dk Gm Eqb

attribute [local irreducible] wpQuiet
/-- one sector of a pointer: none, or in use -/
def secU (A B Z : Int) (f : Nat → Int) (x : Int) : Bool := x == -1 || (decide (0 ≤ Sp.plI A B Z x) && Sp.us (f (Sp.plI A B Z x).toNat))
theorem dr_secs {A B Z : Int} {n : Nat} {f : Nat → Int} (hf : Sp.formB A B Z n f = true) (p : Pt.Pn) : Sp.drB A B Z n f p = (Pt.rightB p && (secU A B Z f p.A && secU A B Z f p.B)) := by
  unfold Sp.drB Sp.plB Sp.anyP Sp.pls Sp.pla Sp.okB secU
  rw [hf]
  generalize Pt.rightB p = r
  by_cases eA : p.A = -1
  · rw [if_pos eA, eA]
    by_cases eB : p.B = -1
    · rw [if_pos eB, eB]
      cases r <;> rfl
    · have eB' : (p.B == -1) = false := by simpa using eB
      rw [if_neg eB, eB']
      generalize decide (0 ≤ Sp.plI A B Z p.B) = b
      simp only [List.nil_append, List.any_cons, List.any_nil]
      generalize Sp.us (f (Sp.plI A B Z p.B).toNat) = v
      cases r <;> cases b <;> cases v <;> rfl
  · have eA' : (p.A == -1) = false := by simpa using eA
    rw [if_neg eA, eA']
    generalize decide (0 ≤ Sp.plI A B Z p.A) = a
    by_cases eB : p.B = -1
    · rw [if_pos eB, eB]
      simp only [List.append_nil, List.any_cons, List.any_nil]
      generalize Sp.us (f (Sp.plI A B Z p.A).toNat) = u
      cases r <;> cases a <;> cases u <;> rfl
    · have eB' : (p.B == -1) = false := by simpa using eB
      rw [if_neg eB, eB']
      generalize decide (0 ≤ Sp.plI A B Z p.B) = b
      simp only [List.cons_append, List.nil_append, List.any_cons, List.any_nil]
      generalize Sp.us (f (Sp.plI A B Z p.A).toNat) = u
      generalize Sp.us (f (Sp.plI A B Z p.B).toNat) = v
      cases r <;> cases a <;> cases b <;> cases u <;> cases v <;> rfl
/-- .. as State tells it -/
theorem sec_st {A B Z : Int} {n : Nat} {f : Nat → Int} (hf : Sp.formB A B Z n f = true) {x : Int} (hx : x ≠ -1) : secU A B Z f x = !((Sp.stE A B Z n f x != 0) || ((Sp.stN A B Z n f x != 1) && (Sp.stN A B Z n f x != 2))) := by
  have hx' : (x == -1) = false := by simpa using hx
  unfold secU Sp.stE Sp.stN Sp.stB Sp.us
  rw [hf, hx']
  by_cases h : 0 ≤ Sp.plI A B Z x
  · rw [decide_eq_true h]
    simp
    generalize f (Sp.plI A B Z x).toNat = y
    rw [Bool.eq_iff_iff]
    simp
  · rw [decide_eq_false h]
    rfl

set_option maxRecDepth 100000 in
set_option maxHeartbeats 4000000 in
theorem refMine_any (sa : Option Addr) (n sc : Nat) (ca : Option Addr) (m cc : Nat) (fu : Int) (d : Bool) (gen : Int) (pa : Option Addr) (k cap : Nat) (A B Z : Int) (ao : Option Addr) (kk kc g : Nat) (C : Nat → Wr) (F T : Nat → Int) (f : Nat → Int) (p : Pt.Pn) (w : World)
    (hn : n ≤ 140737488355328) (hm : m ≤ 140737488355328) (hc : Lay w w.heap.size g ca m cc 129 (fun i => wrV (C i))) (hl : Lay w w.heap.size g pa k cap 2 (Rm.prV F T)) (hk : k ≤ 140737488355328) (hs : Sp.St w w.heap.size ao kk kc f) (hpA : Sp.i64 p.A) (hpB : Sp.i64 p.B) :
    Calls Tryz.prog 13 #[.agg #[.slice sa n sc, .slice ca m cc, .int .i64 fu, .bool d, .int .i64 gen, .slice pa k cap, .int .i64 A, .int .i64 B, .int .i64 Z, .slice ao kk kc], .agg (Pt.pV p).toArray] w fun e w' => e = .returned (.bool (mnB n m C gen k F T A B Z kk f p)) ∧ Below w.heap.size w w' := by
  obtain ⟨W, hW, hB0, hs0, hX0, hP0⟩ := box_vp w (.slice sa n sc) (.slice ca m cc) (.int .i64 fu) (.bool d) (.int .i64 gen) (.slice pa k cap) (.int .i64 A) (.int .i64 B) (.int .i64 Z) (.slice ao kk kc) p
  have HRT := Lib.hid (refRight_any sa n sc ca m cc fu d gen pa k cap A B Z ao kk kc g C F T f W hn hm ((hc.below hB0).more hB0.size) ((hl.below hB0).more hB0.size) hk (hs.later hB0))
  have HPR := Lib.hid (fun w' => Pt.refright_any p w')
  have HST := Lib.hid (fun x hx w' (h : Below W.heap.size W w') => Sp.refState_any A B Z x ao kk kc f w' hx (hs.later (hB0.trans (h.mono hB0.size))))
  have HPP := Lib.hid (fun w' (h : Below W.heap.size W w') => Pt.row_pt ((h.block (w.heap.size + 1) (by omega)).trans hP0))
  have HPC := Lib.hid (fun w' (h : Below W.heap.size W w') => show w'.cell? ⟨w.heap.size + 1, 0, none⟩ = some (.int .i64 p.A) ∧ w'.cell? ⟨w.heap.size + 1, 1, none⟩ = some (.int .i64 p.B) from
    ⟨by rw [cell_of_row _ _ _ _ _ _ ((h.block (w.heap.size + 1) (by omega)).trans hP0)]; rfl, by rw [cell_of_row _ _ _ _ _ _ ((h.block (w.heap.size + 1) (by omega)).trans hP0)]; rfl⟩)
  have HXX := Lib.hid (fun w' (h : Below W.heap.size W w') => hX0.below h (show w.heap.size < W.heap.size by omega))
  have HV : Hid (rvB n m C gen k F T A B Z kk f = true → mnB n m C gen k F T A B Z kk f p = (Pt.rightB p && (secU A B Z f p.A && secU A B Z f p.B))) := Lib.hid (fun h => by
    unfold mnB
    rw [h, Bool.true_and]
    refine dr_secs ?_ p
    unfold rvB at h
    simp only [Bool.and_eq_true] at h
    exact h.2.2.1)
  have HV0 : Hid (rvB n m C gen k F T A B Z kk f = false → mnB n m C gen k F T A B Z kk f p = false) := Lib.hid (fun h => by
    unfold mnB
    rw [h, Bool.false_and])
  have HSE : Hid (rvB n m C gen k F T A B Z kk f = true → ∀ x, x ≠ -1 → secU A B Z f x = !((Sp.stE A B Z kk f x != 0) || ((Sp.stN A B Z kk f x != 1) && (Sp.stN A B Z kk f x != 2)))) := Lib.hid (fun h x hx => by
    unfold rvB at h
    simp only [Bool.and_eq_true] at h
    exact sec_st h.2.2.1 hx)
  have c0 := hX0.c0
  have c1 := hX0.c1
  have c2 := hX0.c2
  have c3 := hX0.c3
  have c4 := hX0.c4
  have c5 := hX0.c5
  have c6 := hX0.c6
  have c7 := hX0.c7
  have c8 := hX0.c8
  have c9 := hX0.c9
  clear hX0 hP0 hs hl hc
  generalize mnB n m C gen k F T A B Z kk f p = V at HV HV0 ⊢
  generalize rvB n m C gen k F T A B Z kk f = R at HRT HV HV0 HSE
  generalize Pt.rightB p = pr at HPR HV
  go_enter Tryz.func13, Tryz.ntmps13
  go_wp2_with (rw [← hW])
  clear hW
  refine HRT.out.mono ?_
  rintro _ w1 ⟨rfl, hb1⟩
  have q1 := HPP.out w1 hb1
  clear HRT c0 c1 c2 c3 c4 c5 c6 c7 c8 c9
  dsimp only
  cases R with
  | false =>
    have hv := HV0.out rfl
    clear HV HV0 HSE
    subst hv
    go_wp2_with fail
    go_ret
    exact ⟨rfl, hB0.trans (hb1.mono hB0.size)⟩
  | true =>
    have HV1 := Lib.hid (HV.out rfl)
    have HS1 := Lib.hid (HSE.out rfl)
    clear HV HV0 HSE
    go_wp2_with (refine @wpList_loadG _ _ _ _ _ _ _ (by kernel_rfl) 37 (.tmp 3) rfl (w.heap.size + 1) 0 rfl (Pt.pV p) _ q1 Pt.undP rfl (Pt.sizeP p) ?_; simp only [Act.put, List.setIfInBounds_toArray, List.set_cons_succ, List.set_cons_zero])
    refine (HPR.out w1).mono ?_
    rintro _ w2 ⟨rfl, hb2⟩
    have hB2 := hb1.trans (hb2.mono hb1.size)
    clear HPR q1 hb2 hb1
    dsimp only
    cases pr with
    | false =>
      have hv : V = false := HV1.out
      clear HV1
      subst hv
      go_wp2_with fail
      go_ret
      exact ⟨rfl, hB0.trans (hB2.mono hB0.size)⟩
    | true =>
      have HV2 : Hid (V = (secU A B Z f p.A && secU A B Z f p.B)) := Lib.hid (by rw [HV1.out]; rfl)
      obtain ⟨k0, k1⟩ := HPC.out w2 hB2
      obtain ⟨w3, hW3⟩ : ∃ w3, w3 = w2.alloc (.cells #[.int .i64 p.A, .int .i64 p.B] 29) := ⟨_, rfl⟩
      have hb3 : Below w2.heap.size w2 w3 := by rw [hW3]; exact (Below.refl _ _).alloc (Nat.le_refl _) _
      have hR3 : Sp.R2 w3 w2.heap.size p.A p.B := by rw [hW3]; exact heap_alloc_new w2 _
      have hs3 : w3.heap.size = w2.heap.size + 1 := by rw [hW3]; simp
      have hB3 := hB2.trans (hb3.mono hB2.size)
      clear HV1 HPP HPC
      go_wp2_with fail
      rw [← hW3]
      clear hW3 k0 k1
      have HW := Lib.hid (fun w' (h : Below w3.heap.size w3 w') => hB3.trans (h.mono hB3.size))
      have HR := Lib.hid (fun w' (h : Below w3.heap.size w3 w') => hR3.block (h.block w2.heap.size (by omega)))
      clear hR3 hb3 hB2
      generalize w2.heap.size = bl at HR hs3 ⊢
      go_loopw [6] (fun i wr => ∃ j : Nat, j ≤ 2 ∧ i = .int .i64 j ∧ Hid (Below w3.heap.size w3 wr ∧ (0 < j → secU A B Z f p.A = true) ∧ (1 < j → secU A B Z f p.B = true))) (fun i _ => 2 - (intOf i).toNat)
      case atStart => exact ⟨0, by omega, rfl, Lib.hid ⟨Below.refl _ _, fun h => by omega, fun h => by omega⟩⟩
      case round =>
        obtain ⟨j, hj, rfl, hR⟩ := hrel
        have hw := hR.out.1
        match j, hj with
        | 0, _ =>
          have r0 := (HR.out wr hw).c0
          by_cases ex : p.A = -1
          · have e' : (p.A == -1) = true := by simpa using ex
            have hy : Hid (secU A B Z f p.A = true) := Lib.hid (by unfold secU; rw [e']; rfl)
            clear HST HS1 ex
            go_wp2_with fail
            go_roundw
            case rel => exact ⟨1, by omega, rfl, Lib.hid ⟨hw, fun _ => hy.out, fun h => by omega⟩⟩
            case measure => simp [intOf]
          · have e' : (p.A == -1) = false := by simpa using ex
            have HSX := Lib.hid (HST.out p.A hpA)
            have HSY := Lib.hid (HS1.out p.A ex)
            clear HST HS1 ex
            go_wp2_with fail
            refine wp_region_quiet (C := fun w' => Below wr.heap.size wr w') (by kernel_rfl) (by kernel_rfl) ⟨rfl, rfl, rfl, Nat.le_refl _, fun _ _ => rfl⟩ ?_
            refine q_val (.pointer (some ⟨w.heap.size, 6, none⟩)) rfl (fun w' hw' => by go_simp) ?_
            simp only [Act.put, List.setIfInBounds_toArray, List.set_cons_succ, List.set_cons_zero]
            refine q_val (.agg #[.int .i64 A, .int .i64 B, .int .i64 Z, .slice ao kk kc]) rfl (fun w' hw' => by have hv := HXX.out w' (HW.out w' (hw.trans (hw'.mono hw.size))); have k6 := hv.c6; have k7 := hv.c7; have k8 := hv.c8; have k9 := hv.c9; clear hv; go_simp) ?_
            simp only [Act.put, List.setIfInBounds_toArray, List.set_cons_succ, List.set_cons_zero]
            refine q_move _ rfl rfl ?_
            simp only [Act.put, List.setIfInBounds_toArray, List.set_cons_succ, List.set_cons_zero]
            refine q_val (.pointer (some ⟨bl, 0, none⟩)) rfl (fun w' hw' => by go_simp) ?_
            simp only [Act.put, List.setIfInBounds_toArray, List.set_cons_succ, List.set_cons_zero]
            refine q_val (.int .i64 p.A) rfl (fun w' hw' => by have hr := (HR.out w' (hw.trans (hw'.mono hw.size))).c0; go_simp) ?_
            simp only [Act.put, List.setIfInBounds_toArray, List.set_cons_succ, List.set_cons_zero]
            refine q_call 38 _ (.tuple #[.int .i64 (Sp.stN A B Z kk f p.A), .int .i64 (Sp.stE A B Z kk f p.A)]) rfl (fun w' => by go_simp) (fun w' hw' => (HSX.out w' (HW.out w' (hw.trans (hw'.mono hw.size)))).mono fun e w'' ⟨he, hb⟩ => ⟨he, hw'.trans (hb.mono hw'.size)⟩) ?_
            simp only [Act.put, List.setIfInBounds_toArray, List.set_cons_succ, List.set_cons_zero]
            refine q_move _ rfl rfl ?_
            simp only [Act.put, List.setIfInBounds_toArray, List.set_cons_succ, List.set_cons_zero]
            refine q_val (.int .i64 (Sp.stN A B Z kk f p.A)) rfl (fun w' hw' => by go_simp) ?_
            simp only [Act.put, List.setIfInBounds_toArray, List.set_cons_succ, List.set_cons_zero]
            refine q_val (.int .i64 (Sp.stE A B Z kk f p.A)) rfl (fun w' hw' => by go_simp) ?_
            simp only [Act.put, List.setIfInBounds_toArray, List.set_cons_succ, List.set_cons_zero]
            refine q_val (.int .i64 (Sp.stN A B Z kk f p.A)) rfl (fun w' hw' => by go_simp) ?_
            simp only [Act.put, List.setIfInBounds_toArray, List.set_cons_succ, List.set_cons_zero]
            refine q_val (.int .i64 (Sp.stE A B Z kk f p.A)) rfl (fun w' hw' => by go_simp) ?_
            simp only [Act.put, List.setIfInBounds_toArray, List.set_cons_succ, List.set_cons_zero]
            refine wpQuiet_nil ?_
            intro w4 hw4
            have hw5 := hw.trans (hw4.mono hw.size)
            clear r0 e' HSX
            generalize Sp.stN A B Z kk f p.A = sn at HSY ⊢
            generalize Sp.stE A B Z kk f p.A = se at HSY ⊢
            cases e0 : se != 0 with
            | true =>
              have hv : Hid (V = false) := Lib.hid (by rw [HV2.out, HSY.out, e0]; rfl)
              clear HSY
              go_wp2_with fail
              go_ret
              exact ⟨by rw [hv.out]; rfl, hB0.trans ((HW.out w4 hw5).mono hB0.size)⟩
            | false =>
              cases e1 : sn != 1 with
              | false =>
                have hy : Hid (secU A B Z f p.A = true) := Lib.hid (by rw [HSY.out, e0, e1]; rfl)
                clear HSY
                go_wp2_with fail
                go_roundw
                case rel => exact ⟨1, by omega, rfl, Lib.hid ⟨hw5, fun _ => hy.out, fun h => by omega⟩⟩
                case measure => simp [intOf]
              | true =>
                cases e2 : sn != 2 with
                | false =>
                  have hy : Hid (secU A B Z f p.A = true) := Lib.hid (by rw [HSY.out, e0, e1, e2]; rfl)
                  clear HSY
                  go_wp2_with fail
                  go_roundw
                  case rel => exact ⟨1, by omega, rfl, Lib.hid ⟨hw5, fun _ => hy.out, fun h => by omega⟩⟩
                  case measure => simp [intOf]
                | true =>
                  have hv : Hid (V = false) := Lib.hid (by rw [HV2.out, HSY.out, e0, e1, e2]; rfl)
                  clear HSY
                  go_wp2_with fail
                  go_ret
                  exact ⟨by rw [hv.out]; rfl, hB0.trans ((HW.out w4 hw5).mono hB0.size)⟩
        | 1, _ =>
          have r0 := (HR.out wr hw).c1
          by_cases ex : p.B = -1
          · have e' : (p.B == -1) = true := by simpa using ex
            have hy : Hid (secU A B Z f p.B = true) := Lib.hid (by unfold secU; rw [e']; rfl)
            clear HST HS1 ex
            go_wp2_with fail
            go_roundw
            case rel => exact ⟨2, by omega, rfl, Lib.hid ⟨hw, fun _ => hR.out.2.1 (by omega), fun _ => hy.out⟩⟩
            case measure => simp [intOf]
          · have e' : (p.B == -1) = false := by simpa using ex
            have HSX := Lib.hid (HST.out p.B hpB)
            have HSY := Lib.hid (HS1.out p.B ex)
            clear HST HS1 ex
            go_wp2_with fail
            refine wp_region_quiet (C := fun w' => Below wr.heap.size wr w') (by kernel_rfl) (by kernel_rfl) ⟨rfl, rfl, rfl, Nat.le_refl _, fun _ _ => rfl⟩ ?_
            refine q_val (.pointer (some ⟨w.heap.size, 6, none⟩)) rfl (fun w' hw' => by go_simp) ?_
            simp only [Act.put, List.setIfInBounds_toArray, List.set_cons_succ, List.set_cons_zero]
            refine q_val (.agg #[.int .i64 A, .int .i64 B, .int .i64 Z, .slice ao kk kc]) rfl (fun w' hw' => by have hv := HXX.out w' (HW.out w' (hw.trans (hw'.mono hw.size))); have k6 := hv.c6; have k7 := hv.c7; have k8 := hv.c8; have k9 := hv.c9; clear hv; go_simp) ?_
            simp only [Act.put, List.setIfInBounds_toArray, List.set_cons_succ, List.set_cons_zero]
            refine q_move _ rfl rfl ?_
            simp only [Act.put, List.setIfInBounds_toArray, List.set_cons_succ, List.set_cons_zero]
            refine q_val (.pointer (some ⟨bl, 1, none⟩)) rfl (fun w' hw' => by go_simp) ?_
            simp only [Act.put, List.setIfInBounds_toArray, List.set_cons_succ, List.set_cons_zero]
            refine q_val (.int .i64 p.B) rfl (fun w' hw' => by have hr := (HR.out w' (hw.trans (hw'.mono hw.size))).c1; go_simp) ?_
            simp only [Act.put, List.setIfInBounds_toArray, List.set_cons_succ, List.set_cons_zero]
            refine q_call 38 _ (.tuple #[.int .i64 (Sp.stN A B Z kk f p.B), .int .i64 (Sp.stE A B Z kk f p.B)]) rfl (fun w' => by go_simp) (fun w' hw' => (HSX.out w' (HW.out w' (hw.trans (hw'.mono hw.size)))).mono fun e w'' ⟨he, hb⟩ => ⟨he, hw'.trans (hb.mono hw'.size)⟩) ?_
            simp only [Act.put, List.setIfInBounds_toArray, List.set_cons_succ, List.set_cons_zero]
            refine q_move _ rfl rfl ?_
            simp only [Act.put, List.setIfInBounds_toArray, List.set_cons_succ, List.set_cons_zero]
            refine q_val (.int .i64 (Sp.stN A B Z kk f p.B)) rfl (fun w' hw' => by go_simp) ?_
            simp only [Act.put, List.setIfInBounds_toArray, List.set_cons_succ, List.set_cons_zero]
            refine q_val (.int .i64 (Sp.stE A B Z kk f p.B)) rfl (fun w' hw' => by go_simp) ?_
            simp only [Act.put, List.setIfInBounds_toArray, List.set_cons_succ, List.set_cons_zero]
            refine q_val (.int .i64 (Sp.stN A B Z kk f p.B)) rfl (fun w' hw' => by go_simp) ?_
            simp only [Act.put, List.setIfInBounds_toArray, List.set_cons_succ, List.set_cons_zero]
            refine q_val (.int .i64 (Sp.stE A B Z kk f p.B)) rfl (fun w' hw' => by go_simp) ?_
            simp only [Act.put, List.setIfInBounds_toArray, List.set_cons_succ, List.set_cons_zero]
            refine wpQuiet_nil ?_
            intro w4 hw4
            have hw5 := hw.trans (hw4.mono hw.size)
            clear r0 e' HSX
            generalize Sp.stN A B Z kk f p.B = sn at HSY ⊢
            generalize Sp.stE A B Z kk f p.B = se at HSY ⊢
            cases e0 : se != 0 with
            | true =>
              have hv : Hid (V = false) := Lib.hid (by rw [HV2.out, HSY.out, e0]; simp)
              clear HSY
              go_wp2_with fail
              go_ret
              exact ⟨by rw [hv.out]; rfl, hB0.trans ((HW.out w4 hw5).mono hB0.size)⟩
            | false =>
              cases e1 : sn != 1 with
              | false =>
                have hy : Hid (secU A B Z f p.B = true) := Lib.hid (by rw [HSY.out, e0, e1]; rfl)
                clear HSY
                go_wp2_with fail
                go_roundw
                case rel => exact ⟨2, by omega, rfl, Lib.hid ⟨hw5, fun _ => hR.out.2.1 (by omega), fun _ => hy.out⟩⟩
                case measure => simp [intOf]
              | true =>
                cases e2 : sn != 2 with
                | false =>
                  have hy : Hid (secU A B Z f p.B = true) := Lib.hid (by rw [HSY.out, e0, e1, e2]; rfl)
                  clear HSY
                  go_wp2_with fail
                  go_roundw
                  case rel => exact ⟨2, by omega, rfl, Lib.hid ⟨hw5, fun _ => hR.out.2.1 (by omega), fun _ => hy.out⟩⟩
                  case measure => simp [intOf]
                | true =>
                  have hv : Hid (V = false) := Lib.hid (by rw [HV2.out, HSY.out, e0, e1, e2]; simp)
                  clear HSY
                  go_wp2_with fail
                  go_ret
                  exact ⟨by rw [hv.out]; rfl, hB0.trans ((HW.out w4 hw5).mono hB0.size)⟩
        | 2, _ =>
          have hv : Hid (V = true) := Lib.hid (by rw [HV2.out, hR.out.2.1 (by omega), hR.out.2.2 (by omega)]; rfl)
          go_wp2_with fail
          go_ret
          exact ⟨by rw [hv.out]; rfl, hB0.trans ((HW.out wr hw).mono hB0.size)⟩
        | j + 3, h => omega
end Vl
end Go.Proofs.YtebgaafaokiigaaGreatDoor
