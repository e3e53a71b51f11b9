/- space: the reference's Mark (made by tools/gen_sprmk.py). -/
import Derived.Test.YtdbmdocmnhgbpaaSpRDr
namespace Go.Proofs.Ytdbmdocmnhgbpaa
set_option maxRecDepth 20000
namespace Sp
open Go.RowKit Dk Eqb Byt

theorem mk_no {A B Z : Int} {n : Nat} {f : Nat → Int} {p : Pt.Pn} (h : mkO A B Z n f p = false) : mkE A B Z n f p = 1 ∧ mkF A B Z n f p = f := by
  unfold mkE mkF mkB
  rw [h]
  exact ⟨rfl, rfl⟩
theorem mk_dam {A B Z : Int} {n : Nat} {f : Nat → Int} {p : Pt.Pn} {i : Nat} (hf : formB A B Z n f = true) (hp : plB A B Z p = true) (hi : i < (pls A B Z p).length) (h : f (plL A B Z p i) ≠ 0) : mkE A B Z n f p = 18 ∧ mkF A B Z n f p = f := by
  have hany : (anyP A B Z p fun i => !(f i == 0)) = true := anyP_at hi (by simpa using h)
  have e : mkO A B Z n f p = true := by unfold mkO; rw [hf, hp]; rfl
  unfold mkE mkF mkB
  rw [e, hany]
  exact ⟨rfl, rfl⟩
theorem mk_yes {A B Z : Int} {n : Nat} {f : Nat → Int} {p : Pt.Pn} (hf : formB A B Z n f = true) (hp : plB A B Z p = true) (ha : ∀ i, i < (pls A B Z p).length → f (plL A B Z p i) = 0) : mkE A B Z n f p = 0 ∧ mkF A B Z n f p = bec (nx 1 1 1 1 1) (plL A B Z p) f (pls A B Z p).length := by
  have hany : (anyP A B Z p fun i => !(f i == 0)) = false := anyP_no fun i hi => by rw [ha i hi]; rfl
  have e : mkO A B Z n f p = true := by unfold mkO; rw [hf, hp]; rfl
  unfold mkE mkF mkB
  rw [e, hany]
  refine ⟨rfl, ?_⟩
  simp only [Bool.not_false, Bool.and_self, if_true]
  refine bec_same fun k hk => ?_
  rw [bec_at (pls_len A B Z p) (fun h2 => plL_ne (ap_of hf) hp h2) k hk, ha k hk]
  rfl
theorem nx_one (k : Nat) : nx 1 1 1 1 1 k = 1 := by
  match k with
  | 0 => rfl
  | 1 => rfl
  | 2 => rfl
  | 3 => rfl
  | k + 4 => rfl

attribute [local irreducible] wpQuiet
set_option maxRecDepth 100000 in
set_option maxHeartbeats 8000000 in
theorem refMark_any (g : Nat) (A B Z : Int) (p : Pt.Pn) (ao : Option Addr) (n cap : Nat) (f : Nat → Int) (w : World) (hx : Bs w g A B Z ao n cap) (hs : St w w.heap.size ao n cap f) (hpA : i64 p.A) (hpB : i64 p.B) :
    Calls Try.prog 27 #[.pointer (some ⟨g, 0, none⟩), .agg (Pt.pV p).toArray] w fun e w' => e = .returned (.int .i64 (mkE A B Z n f p)) ∧ Turn w g A B Z n (mkF A B Z n f p) w' := by
  obtain ⟨W, hW, hbW, hsW, hpW⟩ := box_p1 w p
  have hgl := hx.lt
  have hxW := hx.below hbW hgl
  have HF := Lib.hid (refFormed_any A B Z ao n cap f W hs.room (hs.later hbW).lies)
  have k0 := hx.c0
  have k1 := hx.c1
  have k2 := hx.c2
  have k3 := hx.c3
  cases hp : formB A B Z n f with
  | false =>
    rw [hp] at HF
    have HV : Hid (mkE A B Z n f p = 1 ∧ mkF A B Z n f p = f) := Lib.hid (mk_no (by unfold mkO; rw [hp]; rfl))
    clear hp
    go_enter Try.func27, Try.ntmps27
    go_wp2_with (rw [← hW])
    refine HF.out.mono ?_
    rintro _ w1 ⟨rfl, hb1⟩
    dsimp only
    go_wp2_with fail
    go_ret
    exact ⟨by rw [HV.out.1]; rfl, by rw [HV.out.2]; exact Turn.same hx hs (hbW.trans (hb1.mono (by omega)))⟩
  | true =>
    rw [hp] at HF
    have HRT := Lib.hid (fun w' => Pt.refright_any p w')
    cases hr : Pt.rightB p with
    | false =>
      rw [hr] at HRT
      have HV : Hid (mkE A B Z n f p = 1 ∧ mkF A B Z n f p = f) := Lib.hid (mk_no (by unfold mkO; rw [hp, show plB A B Z p = false by unfold plB; rw [hr]; rfl]; rfl))
      clear hp hr
      go_enter Try.func27, Try.ntmps27
      go_wp2_with (rw [← hW])
      refine HF.out.mono ?_
      rintro _ w1 ⟨rfl, hb1⟩
      dsimp only
      have r1 := Pt.row_pt ((hb1.block w.heap.size (by omega)).trans hpW)
      go_wp2_with (refine @wpList_loadG _ _ _ _ _ _ _ (by kernel_rfl) 44 (.tmp 3) rfl w.heap.size 0 rfl (Pt.pV p) _ r1 Pt.undP rfl (Pt.sizeP p) ?_; simp only [Act.put, List.setIfInBounds_toArray, List.set_cons_succ, List.set_cons_zero])
      refine (HRT.out w1).mono ?_
      rintro _ w2 ⟨rfl, hb2⟩
      dsimp only
      go_wp2_with fail
      go_ret
      exact ⟨by rw [HV.out.1]; rfl, by rw [HV.out.2]; exact Turn.same hx hs (hbW.trans ((hb1.trans (hb2.mono hb1.size)).mono (by omega)))⟩
    | true =>
      rw [hr] at HRT
      have hpos := pos_of hp
      obtain ⟨b, off, rfl, hbl, hnc, hcc⟩ := bytes_tab hs.lies hpos
      have HHP := Lib.hid hp
      have HHR := Lib.hid hr
      clear hp hr
      go_enter Try.func27, Try.ntmps27
      go_wp2_with (rw [← hW])
      clear hW
      refine HF.out.mono ?_
      rintro _ w1 ⟨rfl, hb1⟩
      dsimp only
      have r1 := Pt.row_pt ((hb1.block w.heap.size (by omega)).trans hpW)
      go_wp2_with (refine @wpList_loadG _ _ _ _ _ _ _ (by kernel_rfl) 44 (.tmp 3) rfl w.heap.size 0 rfl (Pt.pV p) _ r1 Pt.undP rfl (Pt.sizeP p) ?_; simp only [Act.put, List.setIfInBounds_toArray, List.set_cons_succ, List.set_cons_zero])
      refine (HRT.out w1).mono ?_
      rintro _ w2 ⟨rfl, hb2⟩
      dsimp only
      have hB2 := hb1.trans (hb2.mono hb1.size)
      have r2 := Pt.row_pt ((hB2.block w.heap.size (by omega)).trans hpW)
      clear r1
      go_wp2_with (refine @wpList_loadG _ _ _ _ _ _ _ (by kernel_rfl) 44 (.tmp 3) rfl w.heap.size 0 rfl (Pt.pV p) _ r2 Pt.undP rfl (Pt.sizeP p) ?_; simp only [Act.put, List.setIfInBounds_toArray, List.set_cons_succ, List.set_cons_zero])
      refine (sectors_any p w2).mono ?_
      rintro _ w3 ⟨v, rfl, hown, hb3⟩
      obtain ⟨pa, m, mc, pb, po, rfl, hm, hsl⟩ := hown.open2
      dsimp only
      have HM := Lib.hid hm
      have HSL : Hid (0 < m → pa = some ⟨pb, po, none⟩ ∧ w2.heap.size ≤ pb) := Lib.hid fun h0 => ⟨(hsl h0).1, (hsl h0).2.1⟩
      have HS3 : Hid (Sl w3 pb po m (secs p)) := Lib.hid fun h0 => ⟨(hsl h0).2.2.1, (hsl h0).2.2.2⟩
      have HB3 : Hid (Below w.heap.size w w3) := Lib.hid (hbW.trans ((hB2.trans (hb3.mono hB2.size)).mono (by omega)))
      have hws : w.heap.size < w3.heap.size := by have := hB2.size; have := hb3.size; omega
      have HWS : Hid (w.heap.size < w2.heap.size) := Lib.hid (by have := hB2.size; omega)
      have hm2 : m ≤ 2 := by have := secs_len p; omega
      have HPL : Hid (m = (pls A B Z p).length) := Lib.hid (by rw [pls_slen]; exact hm)
      have HBD := Lib.hid (bd_of HHP.out hs.byte)
      clear r2 hb3 hb2 hb1 hB2 hsl hown hm hpW hxW hbW HF HRT k0 k1 k2 k3
      go_wp2_with fail
      go_loopw [6, 7] (fun e i wr => ∃ (j : Nat) (ev : Int), j ≤ m ∧ i = .int .i64 j ∧ e = .int .i64 ev ∧ Hid (Below w3.heap.size w3 wr ∧ (∀ i, i < j → 0 ≤ (pls A B Z p).getD i 0) ∧ ((ev = 0 ∧ ∀ i, i < j → f (plL A B Z p i) = 0) ∨ (ev = 18 ∧ ∃ i, i < j ∧ f (plL A B Z p i) ≠ 0)))) (fun _ i _ => m - (intOf i).toNat)
      case atStart => exact ⟨0, 0, by omega, rfl, rfl, Lib.hid ⟨Below.refl _ _, (fun i hi => by omega), .inl ⟨rfl, fun i hi => by omega⟩⟩⟩
      case round =>
        obtain ⟨j, ev, hj, rfl, rfl, hR⟩ := hrel
        have hY := hR.out.1
        by_cases hlt : j < m
        · have hxr := hx.below (HB3.out.trans (hY.mono HB3.out.size)) hgl
          obtain ⟨hpa, hpbl⟩ := HSL.out (by omega)
          subst hpa
          obtain ⟨hpb3, hpc⟩ := HS3.out (by omega)
          have HCx := Lib.hid (fun w' (hw' : Below wr.heap.size wr w') => (hw'.cell (p := ⟨pb, po + j, none⟩) (show pb < wr.heap.size by have := hY.size; omega)).trans ((hY.cell (p := ⟨pb, po + j, none⟩) hpb3).trans (hpc j hlt)))
          have HXr := Lib.hid (fun w' (hw' : Below wr.heap.size wr w') => hxr.below hw' (by have := HB3.out.size; have := hY.size; omega))
          have HPC := Lib.hid (fun w' => refplace_any A B Z ((secs p).getD j 0) (some ⟨b, off, none⟩) n cap w' (secs_bd hpA hpB (by have := HM.out; omega)) (ap_of HHP.out))
          have HK := Lib.hid (secs_get A B Z p (i := j) (by have := HM.out; omega))
          rw [← HK.out] at HPC
          generalize (secs p).getD j 0 = x at HCx HPC HK
          have hj0 : (0 : Int) ≤ (j : Int) := by omega
          have hjm : (j : Int) < (m : Int) := by omega
          have HKK : Hid ((pls A B Z p).getD j 0 < 0 → plB A B Z p = false) := Lib.hid fun h => plB_no (i := j) (by have := HPL.out; omega) h
          have HKL : Hid (¬ (pls A B Z p).getD j 0 < 0 → (pls A B Z p).getD j 0 = (plL A B Z p j : Int) ∧ plL A B Z p j < n) := Lib.hid fun h => by
            have hn := n_of HHP.out
            have hlt2 := pls_lt (p := p) (ap_of HHP.out) ((pls A B Z p).getD j 0) (by
              rw [List.getD_eq_getElem?_getD, List.getElem?_eq_getElem (by have := HPL.out; omega : j < (pls A B Z p).length)]
              exact List.getElem_mem _)
            unfold plL
            omega
          have HKc : Hid ((pls A B Z p).getD j 0 = (pls A B Z p).getD j 0) := Lib.hid rfl
          obtain ⟨k, hk⟩ : ∃ k, k = (pls A B Z p).getD j 0 := ⟨_, rfl⟩
          rw [← hk] at HPC HKK HKL
          have HKe := Lib.hid hk
          clear hk HKc HK
          go_wp2_with fail
          refine wp_region_quiet (C := fun w' => Below wr.heap.size wr w') (by kernel_rfl) (by kernel_rfl) ⟨rfl, rfl, rfl, Nat.le_refl _, fun _ _ => rfl⟩ ?_
          refine q_move _ rfl rfl ?_
          simp only [Act.put, List.setIfInBounds_toArray, List.set_cons_succ, List.set_cons_zero]
          refine q_val (.pointer (some ⟨g, 0, none⟩)) rfl (fun w' hw' => by go_simp) ?_
          simp only [Act.put, List.setIfInBounds_toArray, List.set_cons_succ, List.set_cons_zero]
          refine q_val (.agg #[.int .i64 A, .int .i64 B, .int .i64 Z, .slice (some ⟨b, off, none⟩) n cap]) rfl (fun w' hw' => by have k0 := (HXr.out w' hw').c0; have k1 := (HXr.out w' hw').c1; have k2 := (HXr.out w' hw').c2; have k3 := (HXr.out w' hw').c3; go_simp) ?_
          simp only [Act.put, List.setIfInBounds_toArray, List.set_cons_succ, List.set_cons_zero]
          refine q_move _ rfl rfl ?_
          simp only [Act.put, List.setIfInBounds_toArray, List.set_cons_succ, List.set_cons_zero]
          refine q_move _ rfl rfl ?_
          simp only [Act.put, List.setIfInBounds_toArray, List.set_cons_succ, List.set_cons_zero]
          refine q_val (.pointer (some ⟨pb, po + j, none⟩)) rfl (fun w' hw' => by skip; go_simp) ?_
          simp only [Act.put, List.setIfInBounds_toArray, List.set_cons_succ, List.set_cons_zero]
          refine q_val (.int .i64 x) rfl (fun w' hw' => by have kx := HCx.out w' hw'; go_simp) ?_
          simp only [Act.put, List.setIfInBounds_toArray, List.set_cons_succ, List.set_cons_zero]
          refine q_call 36 _ (.int .i64 k) rfl (fun w' => by go_simp) (fun w' hw' => (HPC.out w').mono fun e w'' ⟨he, hb⟩ => ⟨he, hw'.trans (hb.mono hw'.size)⟩) ?_
          simp only [Act.put, List.setIfInBounds_toArray, List.set_cons_succ, List.set_cons_zero]
          refine q_val (.int .i64 k) rfl (fun w' hw' => by go_simp) ?_
          simp only [Act.put, List.setIfInBounds_toArray, List.set_cons_succ, List.set_cons_zero]
          refine wpQuiet_nil ?_
          intro w5 hw5
          have c3 := (HXr.out w5 hw5).c3
          have HY5 := Lib.hid (hY.trans (hw5.mono hY.size))
          clear HXr HCx HPC hxr
          by_cases hkn : k < 0
          · have HDB : Hid (mkO A B Z n f p = false) := Lib.hid (by unfold mkO; rw [HKK.out hkn]; simp)
            have HV := Lib.hid (mk_no (n := n) (f := f) HDB.out)
            clear c3
            go_wp2_with fail
            go_ret
            exact ⟨by rw [HV.out.1]; rfl, by rw [HV.out.2]; exact Turn.same hx hs (HB3.out.trans (HY5.out.mono HB3.out.size))⟩
          · obtain ⟨hkl, hln⟩ := HKL.out (by omega)
            have HCv := Lib.hid ((HY5.out.cell (p := ⟨b, off + plL A B Z p j, none⟩) (show b < w3.heap.size by omega)).trans ((HB3.out.cell (p := ⟨b, off + plL A B Z p j, none⟩) hbl).trans (hcc _ hln)))
            have HNX : Hid (∀ i, i < j + 1 → 0 ≤ (pls A B Z p).getD i 0) := Lib.hid fun i hi => by
              by_cases e : i = j
              · subst e; rw [← HKe.out]; omega
              · exact hR.out.2.1 i (by omega)
            have HN0 : Hid (f (plL A B Z p j) ≠ 0 → Below w3.heap.size w3 w5 ∧ (∀ i, i < j + 1 → 0 ≤ (pls A B Z p).getD i 0) ∧ (((18 : Int) = 0 ∧ ∀ i, i < j + 1 → f (plL A B Z p i) = 0) ∨ ((18 : Int) = 18 ∧ ∃ i, i < j + 1 ∧ f (plL A B Z p i) ≠ 0))) := Lib.hid fun h => ⟨HY5.out, HNX.out, .inr ⟨rfl, j, by omega, h⟩⟩
            have HN1 : Hid (f (plL A B Z p j) = 0 → Below w3.heap.size w3 w5 ∧ (∀ i, i < j + 1 → 0 ≤ (pls A B Z p).getD i 0) ∧ ((ev = 0 ∧ ∀ i, i < j + 1 → f (plL A B Z p i) = 0) ∨ (ev = 18 ∧ ∃ i, i < j + 1 ∧ f (plL A B Z p i) ≠ 0))) := Lib.hid fun h => ⟨HY5.out, HNX.out, by
              rcases hR.out.2.2 with ⟨e1, e2⟩ | ⟨e1, i, e2, e3⟩
              · refine .inl ⟨e1, fun i hi => ?_⟩
                by_cases e : i = j
                · subst e; exact h
                · exact e2 i (by omega)
              · exact .inr ⟨e1, i, by omega, e3⟩⟩
            rw [hkl] at hkn ⊢
            clear hkl HKL HKK HKe hR
            generalize plL A B Z p j = l at *
            have cv := HCv.out
            have hl0 : (0 : Int) ≤ (l : Int) := by omega
            have hlm : (l : Int) < (n : Int) := by omega
            clear HCv hkn HNX
            generalize f l = y at *
            cases u1 : y == 0 with
            | true =>
              have hn1 : (y != 0) = false := by simp only [bne, u1]; rfl
              have HN := Lib.hid (HN1.out (by simpa using u1))
              clear HN0 HN1
              go_wp2_with fail
              go_roundw
              case rel => exact ⟨j + 1, ev, by omega, by go_num, rfl, HN⟩
              case measure => simp [intOf]; omega
            | false =>
              have hn1 : (y != 0) = true := by simp only [bne, u1]; rfl
              have HN := Lib.hid (HN0.out (by simpa using u1))
              clear HN0 HN1
              go_wp2_with fail
              go_roundw
              case rel => exact ⟨j + 1, 18, by omega, by go_num, rfl, HN⟩
              case measure => simp [intOf]; omega
        · obtain rfl : j = m := by omega
          have HOK : Hid (plB A B Z p = true) := Lib.hid (plB_yes HHR.out fun i hi => hR.out.2.1 i (by have := HPL.out; omega))
          have HCS := Lib.hid hR.out.2.2
          clear hR
          rcases HCS.out with ⟨rfl, hfree⟩ | ⟨rfl, i0, hi0, hne0⟩
          · have HV := Lib.hid (mk_yes HHP.out HOK.out fun i hi => hfree i (by have := HPL.out; omega))
            have HLL : Hid (∀ i, i < j → plL A B Z p i < n ∧ (pls A B Z p).getD i 0 = (plL A B Z p i : Int)) := Lib.hid fun i hi => plL_lt (ap_of HHP.out) (n_of HHP.out) HOK.out i (by have := HPL.out; omega)
            obtain ⟨m, hmj⟩ : ∃ m, m = j := ⟨_, rfl⟩
            subst hmj
            clear hfree HCS
            have HYe := Lib.hid hY
            have c3 := (hx.below (HB3.out.trans (hY.mono HB3.out.size)) hgl).c3
            have HSr := Lib.hid (HS3.out.below hY)
            have HCB := Lib.hid (copyb_any (some ⟨b, off, none⟩) n cap f wr (hs.later (HB3.out.trans (hY.mono HB3.out.size))) (pos_of HHP.out))
            go_wp2_with fail
            refine HCB.out.mono ?_
            rintro _ w4 ⟨b8, cap8, rfl, hb8, hc8, hrow, hb4⟩
            dsimp only
            have hgr : g < wr.heap.size := by have := HB3.out.size; have := hY.size; omega
            have y4 := (hx.below (HB3.out.trans (hY.mono HB3.out.size)) hgl).below hb4 hgr
            have m3 := y4.c3
            have mf := y4.fr 3
            have HI0 : Hid (RfI w g A B Z b8 n cap8 (bec (nx 1 1 1 1 1) (plL A B Z p) f 0) (w4.setCell ⟨g, 3, none⟩ (.slice (some ⟨b8, 0, none⟩) n cap8)) ∧ Sl (w4.setCell ⟨g, 3, none⟩ (.slice (some ⟨b8, 0, none⟩) n cap8)) pb po m (secs p)) := Lib.hid ⟨rf_start hx (HB3.out.trans (hY.mono HB3.out.size)) hb4 hb8 hc8 hrow, (HSr.out.below hb4).set (fun h0 => by have := (HSL.out h0).2; have := HWS.out; omega) 3 _⟩
            have HNB : Hid (0 < m → pb ≠ b8) := Lib.hid fun h0 => by have := (HSr.out h0).1; omega
            clear hrow hb4 c3 y4 hb8 hc8
            go_wp2_with fail
            generalize w4.setCell ⟨g, 3, none⟩ (.slice (some ⟨b8, 0, none⟩) n cap8) = w6 at HI0 ⊢
            clear m3 mf
            clear hY
            go_loopw [9] (fun i wr => ∃ j : Nat, j ≤ m ∧ i = .int .i64 j ∧ Hid (RfI w g A B Z b8 n cap8 (bec (nx 1 1 1 1 1) (plL A B Z p) f j) wr ∧ Sl wr pb po m (secs p))) (fun i _ => m - (intOf i).toNat)
            case atStart => exact ⟨0, by omega, rfl, HI0⟩
            case round =>
              clear HI0
              obtain ⟨j, hj, rfl, hI⟩ := hrel
              by_cases hlt : j < m
              · obtain ⟨hpa, hpbl⟩ := HSL.out (by omega)
                subst hpa
                obtain ⟨hpb3, hpc⟩ := hI.out.2 (by omega)
                have hcx := hpc j hlt
                have HCx := Lib.hid (fun w' (hw' : Below wr.heap.size wr w') => (hw'.cell (p := ⟨pb, po + j, none⟩) (show pb < wr.heap.size by omega)).trans hcx)
                have HXr := Lib.hid (fun w' (hw' : Below wr.heap.size wr w') => (hI.out.1.later hw').sp)
                have HPC := Lib.hid (fun w' => refplace_any A B Z ((secs p).getD j 0) (some ⟨b8, 0, none⟩) n cap8 w' (secs_bd hpA hpB (by have := HM.out; omega)) (ap_of HHP.out))
                rw [← secs_get A B Z p (i := j) (by have := HM.out; omega), (HLL.out j hlt).2] at HPC
                have hln := (HLL.out j hlt).1
                generalize (secs p).getD j 0 = x at HCx HPC
                have hj0 : (0 : Int) ≤ (j : Int) := by omega
                have hjm : (j : Int) < (m : Int) := by omega
                clear hcx hpc
                have HBN : Hid (put (bec (nx 1 1 1 1 1) (plL A B Z p) f j) (plL A B Z p j) 1 = bec (nx 1 1 1 1 1) (plL A B Z p) f (j + 1)) := Lib.hid (by rw [bec, nx_one])
                generalize plL A B Z p j = l at HPC hln HBN
                have hl0 : (0 : Int) ≤ (l : Int) := by omega
                have hlm : (l : Int) < (n : Int) := by omega
                go_wp2_with fail
                refine QuietTail2.region (n := 13) (C := fun w' => Below wr.heap.size wr w') (by kernel_rfl) (by decide) (by kernel_rfl) (by kernel_rfl) ⟨rfl, rfl, rfl, Nat.le_refl _, fun _ _ => rfl⟩ ?_
                simp only [List.take_succ_cons, List.take_zero, List.drop_succ_cons, List.drop_zero]
                refine q_move _ rfl rfl ?_
                simp only [Act.put, List.setIfInBounds_toArray, List.set_cons_succ, List.set_cons_zero]
                refine q_val (.pointer (some ⟨g, 0, none⟩)) rfl (fun w' hw' => by go_simp) ?_
                simp only [Act.put, List.setIfInBounds_toArray, List.set_cons_succ, List.set_cons_zero]
                refine q_val (.pointer (some ⟨g, 3, none⟩)) rfl (fun w' hw' => by go_simp) ?_
                simp only [Act.put, List.setIfInBounds_toArray, List.set_cons_succ, List.set_cons_zero]
                refine q_val (.slice (some ⟨b8, 0, none⟩) n cap8) rfl (fun w' hw' => by have k3 := (HXr.out w' hw').c3; go_simp) ?_
                simp only [Act.put, List.setIfInBounds_toArray, List.set_cons_succ, List.set_cons_zero]
                refine q_move _ rfl rfl ?_
                simp only [Act.put, List.setIfInBounds_toArray, List.set_cons_succ, List.set_cons_zero]
                refine q_val (.pointer (some ⟨g, 0, none⟩)) rfl (fun w' hw' => by go_simp) ?_
                simp only [Act.put, List.setIfInBounds_toArray, List.set_cons_succ, List.set_cons_zero]
                refine q_val (.agg #[.int .i64 A, .int .i64 B, .int .i64 Z, .slice (some ⟨b8, 0, none⟩) n cap8]) rfl (fun w' hw' => by have k0 := (HXr.out w' hw').c0; have k1 := (HXr.out w' hw').c1; have k2 := (HXr.out w' hw').c2; have k3 := (HXr.out w' hw').c3; go_simp) ?_
                simp only [Act.put, List.setIfInBounds_toArray, List.set_cons_succ, List.set_cons_zero]
                refine q_move _ rfl rfl ?_
                simp only [Act.put, List.setIfInBounds_toArray, List.set_cons_succ, List.set_cons_zero]
                refine q_move _ rfl rfl ?_
                simp only [Act.put, List.setIfInBounds_toArray, List.set_cons_succ, List.set_cons_zero]
                refine q_val (.pointer (some ⟨pb, po + j, none⟩)) rfl (fun w' hw' => by skip; go_simp) ?_
                simp only [Act.put, List.setIfInBounds_toArray, List.set_cons_succ, List.set_cons_zero]
                refine q_val (.int .i64 x) rfl (fun w' hw' => by have kx := HCx.out w' hw'; go_simp) ?_
                simp only [Act.put, List.setIfInBounds_toArray, List.set_cons_succ, List.set_cons_zero]
                refine q_call 36 _ (.int .i64 (l : Nat)) rfl (fun w' => by go_simp) (fun w' hw' => (HPC.out w').mono fun e w'' ⟨he, hb⟩ => ⟨he, hw'.trans (hb.mono hw'.size)⟩) ?_
                simp only [Act.put, List.setIfInBounds_toArray, List.set_cons_succ, List.set_cons_zero]
                refine q_val (.pointer (some ⟨b8, l, none⟩)) rfl (fun w' hw' => by skip; go_simp) ?_
                simp only [Act.put, List.setIfInBounds_toArray, List.set_cons_succ, List.set_cons_zero]
                refine wpQuiet_nil ?_
                intro w5 hw5
                have HI5 := Lib.hid (hI.out.1.later hw5)
                have HS5 := Lib.hid (hI.out.2.below hw5)
                have cb := HI5.out.row.cell hln
                have cf := HI5.out.row.free l
                rw [Nat.zero_add] at cb
                clear HXr HCx HPC hI hw5
                have HN : Hid (RfI w g A B Z b8 n cap8 (bec (nx 1 1 1 1 1) (plL A B Z p) f (j + 1)) (w5.setCell ⟨b8, l, none⟩ (.int .u8 1)) ∧ Sl (w5.setCell ⟨b8, l, none⟩ (.int .u8 1)) pb po m (secs p)) := Lib.hid ⟨by rw [← HBN.out]; exact HI5.out.store l 1, HS5.out.set HNB.out l _⟩
                clear HBN
                generalize bec (nx 1 1 1 1 1) (plL A B Z p) f j l = y at *
                go_wp2_with fail
                go_roundw
                case rel => exact ⟨j + 1, by omega, by go_num, HN⟩
                case measure => simp [intOf]; omega
              · obtain rfl : j = m := by omega
                have HI1 := Lib.hid (hI.out.1.turn (bec_bd (m := j) (nx_bd (by omega)) HBD.out (fun i hi => (HLL.out i hi).1) (Nat.le_refl _)) hs.room)
                rw [HPL.out] at HI1
                clear hI
                go_wp2_with fail
                go_ret
                exact ⟨by rw [HV.out.1]; rfl, by rw [HV.out.2]; exact HI1.out⟩
          · have HV := Lib.hid (mk_dam (i := i0) HHP.out HOK.out (by have := HPL.out; omega) hne0)
            clear HCS
            go_wp2_with fail
            go_ret
            exact ⟨by rw [HV.out.1]; rfl, by rw [HV.out.2]; exact Turn.same hx hs (HB3.out.trans (hY.mono HB3.out.size))⟩
end Sp
end Go.Proofs.Ytdbmdocmnhgbpaa
