/- space: the reference's Take (made by tools/gen_sprtk.py). -/
import Derived.Test.YtdbmdocmnhgbpaaSpTk
namespace Go.Proofs.Ytdbmdocmnhgbpaa
set_option maxRecDepth 20000
namespace Sp
open Go.RowKit Dk Eqb Byt

attribute [local irreducible] wpQuiet
set_option maxRecDepth 100000 in
set_option maxHeartbeats 8000000 in
theorem refTake_any (g : Nat) (A B Z x : Int) (ao : Option Addr) (n cap : Nat) (f : Nat → Int) (w : World) (hx : Bs w g A B Z ao n cap) (hs : St w w.heap.size ao n cap f) :
    Calls Try.prog 23 #[.pointer (some ⟨g, 0, none⟩), .int .i64 x] w fun e w' => e = .returned (.tuple #[.int .i64 (tkp A B Z n f x), .int .i64 (tkq A B Z n f x), .int .i64 (tkE A B Z n f x)]) ∧ Turn w g A B Z n (tkF A B Z n f x) w' := by
  have HF := Lib.hid (refFormed_any A B Z ao n cap f w hs.room hs.lies)
  have k0 := hx.c0
  have k1 := hx.c1
  have k2 := hx.c2
  have k3 := hx.c3
  cases hp : formB A B Z n f with
  | false =>
    rw [hp] at HF
    have HV := Lib.hid (tk_bad (x := x) (show tkB A B Z n f x = false by unfold tkB; rw [hp]; rfl))
    clear hp
    go_enter Try.func23, Try.ntmps23
    go_wp2_with fail
    refine HF.out.mono ?_
    rintro _ w1 ⟨rfl, hb1⟩
    dsimp only
    go_wp2_with fail
    go_ret3
    exact ⟨by rw [HV.out.1, HV.out.2.1, HV.out.2.2.1]; rfl, by rw [HV.out.2.2.2]; exact Turn.same hx hs hb1⟩
  | true =>
    rw [hp] at HF
    by_cases h1 : x < 1
    · have HV := Lib.hid (tk_bad (x := x) (show tkB A B Z n f x = false by unfold tkB; rw [hp, show (x == 1) = false from beq_eq_false_iff_ne.2 (by omega), show (x == 2) = false from beq_eq_false_iff_ne.2 (by omega)]; rfl))
      clear hp
      go_enter Try.func23, Try.ntmps23
      go_wp2_with fail
      refine HF.out.mono ?_
      rintro _ w1 ⟨rfl, hb1⟩
      dsimp only
      go_wp2_with fail
      go_ret3
      exact ⟨by rw [HV.out.1, HV.out.2.1, HV.out.2.2.1]; rfl, by rw [HV.out.2.2.2]; exact Turn.same hx hs hb1⟩
    by_cases h2 : 2 < x
    · have HV := Lib.hid (tk_bad (x := x) (show tkB A B Z n f x = false by unfold tkB; rw [hp, show (x == 1) = false from beq_eq_false_iff_ne.2 (by omega), show (x == 2) = false from beq_eq_false_iff_ne.2 (by omega)]; rfl))
      clear hp
      go_enter Try.func23, Try.ntmps23
      go_wp2_with fail
      refine HF.out.mono ?_
      rintro _ w1 ⟨rfl, hb1⟩
      dsimp only
      go_wp2_with fail
      go_ret3
      exact ⟨by rw [HV.out.1, HV.out.2.1, HV.out.2.2.1]; rfl, by rw [HV.out.2.2.2]; exact Turn.same hx hs hb1⟩
    obtain ⟨z, rfl⟩ : ∃ z : Nat, Z = z := ⟨Z.toNat, by have := (ap_of hp).z1; omega⟩
    have hn2 : n = 2 * z := by have := n_of hp; omega
    obtain ⟨b, off, rfl, _⟩ := bytes_tab hs.lies (pos_of hp)
    obtain rfl | rfl : x = 1 ∨ x = 2 := by omega
    · clear h1 h2
      have HAp := Lib.hid (ap_of hp)
      have HN2 := Lib.hid hn2
      have HEno : Hid (tpOk A B z f 1 = false → tkp A B z n f 1 = 0 ∧ tkq A B z n f 1 = 0 ∧ tkE A B z n f 1 = 9 ∧ tkF A B z n f 1 = f) := Lib.hid fun h => tk_no (c := 1) hp (by omega) h
      have HEyes : Hid (tpOk A B z f 1 = true → tkp A B z n f 1 = tp0 A B z f 1 ∧ tkq A B z n f 1 = tp1 B z f 1 ∧ tkE A B z n f 1 = 0 ∧ tkF A B z n f 1 = bec (nx 2 0 0 0 0) (tpL A B z f 1) f 1) := Lib.hid fun h => tk_yes (c := 1) hp (by omega) h
      have HCP := Lib.hid (fun (w1 : World) (hb : Below w.heap.size w w1) => copyb_any (some ⟨b, off, none⟩) n cap f w1 (hs.later hb) (pos_of hp))
      have HBD := Lib.hid (bd_of hp hs.byte)
      clear hp hn2
      go_enter Try.func23, Try.ntmps23
      go_wp2_with fail
      refine HF.out.mono ?_
      rintro _ w1 ⟨rfl, hb1⟩
      dsimp only
      have HB1 := Lib.hid hb1
      have HX := Lib.hid (fun w' (hw' : Below w1.heap.size w1 w') => (hx.below hb1 hx.lt).below hw' (by have := hx.lt; have := hb1.size; omega))
      have HST := Lib.hid (hs.later hb1)
      obtain ⟨_, _, e1', hbb, hnc, hcc⟩ := bytes_tab HST.out.lies (by have := HN2.out; have := HAp.out.z1; omega)
      injection e1' with e1'
      injection e1' with e1' e2'
      subst e1' e2'
      have HFA := Lib.hid (fun w' (hw' : Below w1.heap.size w1 w') => reffirst0_any A B z b off n cap f w' (by have := HAp.out.z1; omega) (by have := HAp.out.z2; omega) HN2.out (by have := HAp.out; have := this.a0; have := HAp.out.ab; have := HAp.out.b1; omega) (by have := HAp.out; have := this.a0; have := HAp.out.ab; have := HAp.out.b1; omega) (by have := hw'.size; omega) (fun i hi => (hw'.cell (p := ⟨b, off + i, none⟩) hbb).trans (hcc i hi)))
      have HFB := Lib.hid (fun w' (hw' : Below w1.heap.size w1 w') => reffirst1_any A B z b off n cap f w' (by have := HAp.out.z1; omega) (by have := HAp.out.z2; omega) HN2.out (by have := HAp.out; have := this.a0; have := HAp.out.ab; have := HAp.out.b1; omega) (by have := HAp.out; have := this.a0; have := HAp.out.ab; have := HAp.out.b1; omega) (by have := hw'.size; omega) (fun i hi => (hw'.cell (p := ⟨b, off + i, none⟩) hbb).trans (hcc i hi)))
      rw [show ff A f z = fA A z f from rfl] at HFA
      rw [show ff B (fun i => f (z + i)) z = fB B z f from rfl] at HFB
      have hfab := fA_bd (f := f) HAp.out
      have hfbb := fB_bd (f := f) HAp.out
      obtain ⟨fa, hfa⟩ : ∃ fa, fa = fA A z f := ⟨_, rfl⟩
      obtain ⟨fb, hfb⟩ : ∃ fb, fb = fB B z f := ⟨_, rfl⟩
      rw [← hfa] at HFA hfab
      rw [← hfb] at HFB hfbb
      have HFa := Lib.hid hfa
      have HFb := Lib.hid hfb
      clear hfa hfb hcc hb1
      go_wp2_with fail
      refine wp_region_quiet (C := fun w' => Below w1.heap.size w1 w') (by kernel_rfl) (by kernel_rfl) ⟨rfl, rfl, rfl, Nat.le_refl _, fun _ _ => rfl⟩ ?_
      refine q_move _ rfl rfl ?_
      simp only [Act.put, List.setIfInBounds_toArray, List.set_cons_succ, List.set_cons_zero]
      refine q_val (.pointer (some ⟨g, 0, none⟩)) rfl (fun w' hw' => by go_simp) ?_
      simp only [Act.put, List.setIfInBounds_toArray, List.set_cons_succ, List.set_cons_zero]
      refine q_val (.agg #[.int .i64 A, .int .i64 B, .int .i64 z, .slice (some ⟨b, off, none⟩) n cap]) rfl (fun w' hw' => by have k0 := (HX.out w' hw').c0; have k1 := (HX.out w' hw').c1; have k2 := (HX.out w' hw').c2; have k3 := (HX.out w' hw').c3; go_simp) ?_
      simp only [Act.put, List.setIfInBounds_toArray, List.set_cons_succ, List.set_cons_zero]
      refine q_call 43 _ (.int .i64 fa) rfl (fun w' => by go_simp) (fun w' hw' => (HFA.out w' hw').mono fun e w'' ⟨he, hb⟩ => ⟨he, hw'.trans (hb.mono hw'.size)⟩) ?_
      simp only [Act.put, List.setIfInBounds_toArray, List.set_cons_succ, List.set_cons_zero]
      refine q_move _ rfl rfl ?_
      simp only [Act.put, List.setIfInBounds_toArray, List.set_cons_succ, List.set_cons_zero]
      refine q_val (.pointer (some ⟨g, 0, none⟩)) rfl (fun w' hw' => by go_simp) ?_
      simp only [Act.put, List.setIfInBounds_toArray, List.set_cons_succ, List.set_cons_zero]
      refine q_val (.agg #[.int .i64 A, .int .i64 B, .int .i64 z, .slice (some ⟨b, off, none⟩) n cap]) rfl (fun w' hw' => by have k0 := (HX.out w' hw').c0; have k1 := (HX.out w' hw').c1; have k2 := (HX.out w' hw').c2; have k3 := (HX.out w' hw').c3; go_simp) ?_
      simp only [Act.put, List.setIfInBounds_toArray, List.set_cons_succ, List.set_cons_zero]
      refine q_call 43 _ (.int .i64 fb) rfl (fun w' => by go_simp) (fun w' hw' => (HFB.out w' hw').mono fun e w'' ⟨he, hb⟩ => ⟨he, hw'.trans (hb.mono hw'.size)⟩) ?_
      simp only [Act.put, List.setIfInBounds_toArray, List.set_cons_succ, List.set_cons_zero]
      refine q_val (.int .i64 fa) rfl (fun w' hw' => by go_simp) ?_
      simp only [Act.put, List.setIfInBounds_toArray, List.set_cons_succ, List.set_cons_zero]
      refine q_val (.int .i64 fb) rfl (fun w' hw' => by go_simp) ?_
      simp only [Act.put, List.setIfInBounds_toArray, List.set_cons_succ, List.set_cons_zero]
      refine wpQuiet_nil ?_
      intro w2 hw2
      have HW2 := Lib.hid hw2
      have y3 := (HX.out w2 hw2).c3
      clear hw2
      cases ha : fa == -1 with
      | true =>
        have hfn : fa < 0 := by have : fa = -1 := by simpa using ha
                                omega
        have HT0 : Hid (tp0 A B z f 1 = fb) := Lib.hid (by unfold tp0; rw [if_pos rfl, if_pos (by rw [← HFa.out]; simpa using ha), ← HFb.out])
        cases hq : decide (fb < 0) with
        | true =>
          have hlt : fb < 0 := of_decide_eq_true hq
          have HNO : Hid (tpOk A B z f 1 = false) := Lib.hid (tpOk_no (i := 0) (by omega) (.inl rfl) (show tp0 A B z f 1 = -1 by rw [HT0.out]; omega))
          clear hq
          have HO := Lib.hid (HEno.out HNO.out)
          clear HEno HEyes HNO HCP
          go_wp2_with fail
          go_ret3
          exact ⟨by rw [HO.out.1, HO.out.2.1, HO.out.2.2.1]; rfl, by rw [HO.out.2.2.2]; exact Turn.same hx hs (HB1.out.trans (HW2.out.mono HB1.out.size))⟩
        | false =>
          have hge : 0 ≤ fb := by simpa using hq
          have HO := Lib.hid (HEyes.out (tpOk_all (.inl rfl) fun i hi => by obtain rfl : i = 0 := by omega
                                                                            show tp0 A B z f 1 ≠ -1; rw [HT0.out]; omega))
          obtain ⟨hpl, hln, _⟩ := tpL_at (f := f) HAp.out (.inl rfl) (show 0 < 1 by omega) (show tp0 A B z f 1 ≠ -1 by rw [HT0.out]; omega)
          rw [show tpP A B z f 1 0 = fb from HT0.out] at hpl
          have HBE := Lib.hid (tk_bec1 (f := f) HAp.out (show tp0 A B z f 1 ≠ -1 by rw [HT0.out]; omega))
          have HPC0 := Lib.hid (fun (b8 cap8 : Nat) (w' : World) => refplace_any A B z fb (some ⟨b8, 0, none⟩) n cap8 w' (by unfold i64; omega) HAp.out)
          rw [hpl] at HPC0
          clear hpl hq
          generalize tpL A B z f 1 0 = l at HPC0 HBE hln
          go_wp2_with fail
          refine (HCP.out w2 (HB1.out.trans (HW2.out.mono HB1.out.size))).mono ?_
          rintro _ w3 ⟨b8, cap8, rfl, hb8, hc8, hrow, hb3⟩
          dsimp only
          have m3 := ((HX.out w2 HW2.out).below hb3 (HX.out w2 HW2.out).lt).c3
          have mf := ((HX.out w2 HW2.out).below hb3 (HX.out w2 HW2.out).lt).fr 3
          have HI0 : Hid (RfI w g A B z b8 n cap8 f (w3.setCell ⟨g, 3, none⟩ (.slice (some ⟨b8, 0, none⟩) n cap8))) := Lib.hid (rf_start hx (HB1.out.trans (HW2.out.mono HB1.out.size)) hb3 hb8 hc8 hrow)
          clear hrow hb3 y3
          go_wp2_with fail
          generalize w3.setCell ⟨g, 3, none⟩ (.slice (some ⟨b8, 0, none⟩) n cap8) = w4 at HI0 ⊢
          clear m3 mf
          have HPC := Lib.hid (HPC0.out b8 cap8)
          have hl0 : (0 : Int) ≤ (l : Int) := by omega
          have hlm : (l : Int) < (n : Int) := by have := HN2.out; omega
          have HY := Lib.hid (fun w' (hw' : Below w4.heap.size w4 w') => (HI0.out.later hw').sp)
          go_wp2_with fail
          refine QuietTail2.region (n := 10) (C := fun w' => Below w4.heap.size w4 w') (by kernel_rfl) (by decide) (by kernel_rfl) (by kernel_rfl) ⟨rfl, rfl, rfl, Nat.le_refl _, fun _ _ => rfl⟩ ?_
          simp only [List.take_succ_cons, List.take_zero, List.drop_succ_cons, List.drop_zero]
          refine q_move _ rfl rfl ?_
          simp only [Act.put, List.setIfInBounds_toArray, List.set_cons_succ, List.set_cons_zero]
          refine q_val (.pointer (some ⟨g, 0, none⟩)) rfl (fun w' hw' => by go_simp) ?_
          simp only [Act.put, List.setIfInBounds_toArray, List.set_cons_succ, List.set_cons_zero]
          refine q_val (.pointer (some ⟨g, 3, none⟩)) rfl (fun w' hw' => by go_simp) ?_
          simp only [Act.put, List.setIfInBounds_toArray, List.set_cons_succ, List.set_cons_zero]
          refine q_val (.slice (some ⟨b8, 0, none⟩) n cap8) rfl (fun w' hw' => by have k3 := (HY.out w' hw').c3; go_simp) ?_
          simp only [Act.put, List.setIfInBounds_toArray, List.set_cons_succ, List.set_cons_zero]
          refine q_move _ rfl rfl ?_
          simp only [Act.put, List.setIfInBounds_toArray, List.set_cons_succ, List.set_cons_zero]
          refine q_val (.pointer (some ⟨g, 0, none⟩)) rfl (fun w' hw' => by go_simp) ?_
          simp only [Act.put, List.setIfInBounds_toArray, List.set_cons_succ, List.set_cons_zero]
          refine q_val (.agg #[.int .i64 A, .int .i64 B, .int .i64 z, .slice (some ⟨b8, 0, none⟩) n cap8]) rfl (fun w' hw' => by have k0 := (HY.out w' hw').c0; have k1 := (HY.out w' hw').c1; have k2 := (HY.out w' hw').c2; have k3 := (HY.out w' hw').c3; go_simp) ?_
          simp only [Act.put, List.setIfInBounds_toArray, List.set_cons_succ, List.set_cons_zero]
          refine q_move _ rfl rfl ?_
          simp only [Act.put, List.setIfInBounds_toArray, List.set_cons_succ, List.set_cons_zero]
          refine q_call 36 _ (.int .i64 (l : Nat)) rfl (fun w' => by go_simp) (fun w' hw' => (HPC.out w').mono fun e w'' ⟨he, hb⟩ => ⟨he, hw'.trans (hb.mono hw'.size)⟩) ?_
          simp only [Act.put, List.setIfInBounds_toArray, List.set_cons_succ, List.set_cons_zero]
          refine q_val (.pointer (some ⟨b8, l, none⟩)) rfl (fun w' hw' => by skip; go_simp) ?_
          simp only [Act.put, List.setIfInBounds_toArray, List.set_cons_succ, List.set_cons_zero]
          refine wpQuiet_nil ?_
          intro w9 hw9
          have HI9 := Lib.hid (HI0.out.later hw9)
          have cb := HI9.out.row.cell (j := l) (by have := HN2.out; omega)
          have cf := HI9.out.row.free l
          rw [Nat.zero_add] at cb
          have HI1' := Lib.hid (HI9.out.store l 2)
          clear HY HI9 hw9
          go_wp2_with fail
          generalize hW9 : w9.setCell ⟨b8, l, none⟩ (.int .u8 2) = w10 at HI1' ⊢
          have HI1 := HI1'
          clear HI1' hW9 cb cf HI0 hl0 hlm
          go_wp2_with fail
          go_ret3
          exact ⟨by rw [HO.out.1, HO.out.2.1, HO.out.2.2.1, HT0.out]; rfl, by rw [HO.out.2.2.2]; exact (HI1.out.turn (put_bd HBD.out (by omega)) hs.room).congr fun i _ => by rw [show bec (nx 2 0 0 0 0) (tpL A B z f 1) f 1 = put f l 2 from HBE.out]⟩
      | false =>
        have hfn : ¬ fa < 0 := by have : fa ≠ -1 := by simpa using ha
                                  omega
        have HT0 : Hid (tp0 A B z f 1 = fa) := Lib.hid (by unfold tp0; rw [if_pos rfl, if_neg (by rw [← HFa.out]; simpa using ha), ← HFa.out])
        cases hq : decide (fa < 0) with
        | true =>
          have hlt : fa < 0 := of_decide_eq_true hq
          have HNO : Hid (tpOk A B z f 1 = false) := Lib.hid (tpOk_no (i := 0) (by omega) (.inl rfl) (show tp0 A B z f 1 = -1 by rw [HT0.out]; omega))
          clear hq
          omega
        | false =>
          have hge : 0 ≤ fa := by simpa using hq
          have HO := Lib.hid (HEyes.out (tpOk_all (.inl rfl) fun i hi => by obtain rfl : i = 0 := by omega
                                                                            show tp0 A B z f 1 ≠ -1; rw [HT0.out]; omega))
          obtain ⟨hpl, hln, _⟩ := tpL_at (f := f) HAp.out (.inl rfl) (show 0 < 1 by omega) (show tp0 A B z f 1 ≠ -1 by rw [HT0.out]; omega)
          rw [show tpP A B z f 1 0 = fa from HT0.out] at hpl
          have HBE := Lib.hid (tk_bec1 (f := f) HAp.out (show tp0 A B z f 1 ≠ -1 by rw [HT0.out]; omega))
          have HPC0 := Lib.hid (fun (b8 cap8 : Nat) (w' : World) => refplace_any A B z fa (some ⟨b8, 0, none⟩) n cap8 w' (by unfold i64; omega) HAp.out)
          rw [hpl] at HPC0
          clear hpl hq
          generalize tpL A B z f 1 0 = l at HPC0 HBE hln
          go_wp2_with fail
          refine (HCP.out w2 (HB1.out.trans (HW2.out.mono HB1.out.size))).mono ?_
          rintro _ w3 ⟨b8, cap8, rfl, hb8, hc8, hrow, hb3⟩
          dsimp only
          have m3 := ((HX.out w2 HW2.out).below hb3 (HX.out w2 HW2.out).lt).c3
          have mf := ((HX.out w2 HW2.out).below hb3 (HX.out w2 HW2.out).lt).fr 3
          have HI0 : Hid (RfI w g A B z b8 n cap8 f (w3.setCell ⟨g, 3, none⟩ (.slice (some ⟨b8, 0, none⟩) n cap8))) := Lib.hid (rf_start hx (HB1.out.trans (HW2.out.mono HB1.out.size)) hb3 hb8 hc8 hrow)
          clear hrow hb3 y3
          go_wp2_with fail
          generalize w3.setCell ⟨g, 3, none⟩ (.slice (some ⟨b8, 0, none⟩) n cap8) = w4 at HI0 ⊢
          clear m3 mf
          have HPC := Lib.hid (HPC0.out b8 cap8)
          have hl0 : (0 : Int) ≤ (l : Int) := by omega
          have hlm : (l : Int) < (n : Int) := by have := HN2.out; omega
          have HY := Lib.hid (fun w' (hw' : Below w4.heap.size w4 w') => (HI0.out.later hw').sp)
          go_wp2_with fail
          refine QuietTail2.region (n := 10) (C := fun w' => Below w4.heap.size w4 w') (by kernel_rfl) (by decide) (by kernel_rfl) (by kernel_rfl) ⟨rfl, rfl, rfl, Nat.le_refl _, fun _ _ => rfl⟩ ?_
          simp only [List.take_succ_cons, List.take_zero, List.drop_succ_cons, List.drop_zero]
          refine q_move _ rfl rfl ?_
          simp only [Act.put, List.setIfInBounds_toArray, List.set_cons_succ, List.set_cons_zero]
          refine q_val (.pointer (some ⟨g, 0, none⟩)) rfl (fun w' hw' => by go_simp) ?_
          simp only [Act.put, List.setIfInBounds_toArray, List.set_cons_succ, List.set_cons_zero]
          refine q_val (.pointer (some ⟨g, 3, none⟩)) rfl (fun w' hw' => by go_simp) ?_
          simp only [Act.put, List.setIfInBounds_toArray, List.set_cons_succ, List.set_cons_zero]
          refine q_val (.slice (some ⟨b8, 0, none⟩) n cap8) rfl (fun w' hw' => by have k3 := (HY.out w' hw').c3; go_simp) ?_
          simp only [Act.put, List.setIfInBounds_toArray, List.set_cons_succ, List.set_cons_zero]
          refine q_move _ rfl rfl ?_
          simp only [Act.put, List.setIfInBounds_toArray, List.set_cons_succ, List.set_cons_zero]
          refine q_val (.pointer (some ⟨g, 0, none⟩)) rfl (fun w' hw' => by go_simp) ?_
          simp only [Act.put, List.setIfInBounds_toArray, List.set_cons_succ, List.set_cons_zero]
          refine q_val (.agg #[.int .i64 A, .int .i64 B, .int .i64 z, .slice (some ⟨b8, 0, none⟩) n cap8]) rfl (fun w' hw' => by have k0 := (HY.out w' hw').c0; have k1 := (HY.out w' hw').c1; have k2 := (HY.out w' hw').c2; have k3 := (HY.out w' hw').c3; go_simp) ?_
          simp only [Act.put, List.setIfInBounds_toArray, List.set_cons_succ, List.set_cons_zero]
          refine q_move _ rfl rfl ?_
          simp only [Act.put, List.setIfInBounds_toArray, List.set_cons_succ, List.set_cons_zero]
          refine q_call 36 _ (.int .i64 (l : Nat)) rfl (fun w' => by go_simp) (fun w' hw' => (HPC.out w').mono fun e w'' ⟨he, hb⟩ => ⟨he, hw'.trans (hb.mono hw'.size)⟩) ?_
          simp only [Act.put, List.setIfInBounds_toArray, List.set_cons_succ, List.set_cons_zero]
          refine q_val (.pointer (some ⟨b8, l, none⟩)) rfl (fun w' hw' => by skip; go_simp) ?_
          simp only [Act.put, List.setIfInBounds_toArray, List.set_cons_succ, List.set_cons_zero]
          refine wpQuiet_nil ?_
          intro w9 hw9
          have HI9 := Lib.hid (HI0.out.later hw9)
          have cb := HI9.out.row.cell (j := l) (by have := HN2.out; omega)
          have cf := HI9.out.row.free l
          rw [Nat.zero_add] at cb
          have HI1' := Lib.hid (HI9.out.store l 2)
          clear HY HI9 hw9
          go_wp2_with fail
          generalize hW9 : w9.setCell ⟨b8, l, none⟩ (.int .u8 2) = w10 at HI1' ⊢
          have HI1 := HI1'
          clear HI1' hW9 cb cf HI0 hl0 hlm
          go_wp2_with fail
          go_ret3
          exact ⟨by rw [HO.out.1, HO.out.2.1, HO.out.2.2.1, HT0.out]; rfl, by rw [HO.out.2.2.2]; exact (HI1.out.turn (put_bd HBD.out (by omega)) hs.room).congr fun i _ => by rw [show bec (nx 2 0 0 0 0) (tpL A B z f 1) f 1 = put f l 2 from HBE.out]⟩
    · clear h1 h2
      have HAp := Lib.hid (ap_of hp)
      have HN2 := Lib.hid hn2
      have HEno : Hid (tpOk A B z f 2 = false → tkp A B z n f 2 = 0 ∧ tkq A B z n f 2 = 0 ∧ tkE A B z n f 2 = 9 ∧ tkF A B z n f 2 = f) := Lib.hid fun h => tk_no (c := 2) hp (by omega) h
      have HEyes : Hid (tpOk A B z f 2 = true → tkp A B z n f 2 = tp0 A B z f 2 ∧ tkq A B z n f 2 = tp1 B z f 2 ∧ tkE A B z n f 2 = 0 ∧ tkF A B z n f 2 = bec (nx 2 0 0 0 0) (tpL A B z f 2) f 2) := Lib.hid fun h => tk_yes (c := 2) hp (by omega) h
      have HCP := Lib.hid (fun (w1 : World) (hb : Below w.heap.size w w1) => copyb_any (some ⟨b, off, none⟩) n cap f w1 (hs.later hb) (pos_of hp))
      have HBD := Lib.hid (bd_of hp hs.byte)
      clear hp hn2
      go_enter Try.func23, Try.ntmps23
      go_wp2_with fail
      refine HF.out.mono ?_
      rintro _ w1 ⟨rfl, hb1⟩
      dsimp only
      have HB1 := Lib.hid hb1
      have HX := Lib.hid (fun w' (hw' : Below w1.heap.size w1 w') => (hx.below hb1 hx.lt).below hw' (by have := hx.lt; have := hb1.size; omega))
      have HST := Lib.hid (hs.later hb1)
      obtain ⟨_, _, e1', hbb, hnc, hcc⟩ := bytes_tab HST.out.lies (by have := HN2.out; have := HAp.out.z1; omega)
      injection e1' with e1'
      injection e1' with e1' e2'
      subst e1' e2'
      have HFA := Lib.hid (fun w' (hw' : Below w1.heap.size w1 w') => reffirst0_any A B z b off n cap f w' (by have := HAp.out.z1; omega) (by have := HAp.out.z2; omega) HN2.out (by have := HAp.out; have := this.a0; have := HAp.out.ab; have := HAp.out.b1; omega) (by have := HAp.out; have := this.a0; have := HAp.out.ab; have := HAp.out.b1; omega) (by have := hw'.size; omega) (fun i hi => (hw'.cell (p := ⟨b, off + i, none⟩) hbb).trans (hcc i hi)))
      have HFB := Lib.hid (fun w' (hw' : Below w1.heap.size w1 w') => reffirst1_any A B z b off n cap f w' (by have := HAp.out.z1; omega) (by have := HAp.out.z2; omega) HN2.out (by have := HAp.out; have := this.a0; have := HAp.out.ab; have := HAp.out.b1; omega) (by have := HAp.out; have := this.a0; have := HAp.out.ab; have := HAp.out.b1; omega) (by have := hw'.size; omega) (fun i hi => (hw'.cell (p := ⟨b, off + i, none⟩) hbb).trans (hcc i hi)))
      rw [show ff A f z = fA A z f from rfl] at HFA
      rw [show ff B (fun i => f (z + i)) z = fB B z f from rfl] at HFB
      have hfab := fA_bd (f := f) HAp.out
      have hfbb := fB_bd (f := f) HAp.out
      obtain ⟨fa, hfa⟩ : ∃ fa, fa = fA A z f := ⟨_, rfl⟩
      obtain ⟨fb, hfb⟩ : ∃ fb, fb = fB B z f := ⟨_, rfl⟩
      rw [← hfa] at HFA hfab
      rw [← hfb] at HFB hfbb
      have HFa := Lib.hid hfa
      have HFb := Lib.hid hfb
      clear hfa hfb hcc hb1
      go_wp2_with fail
      refine wp_region_quiet (C := fun w' => Below w1.heap.size w1 w') (by kernel_rfl) (by kernel_rfl) ⟨rfl, rfl, rfl, Nat.le_refl _, fun _ _ => rfl⟩ ?_
      refine q_move _ rfl rfl ?_
      simp only [Act.put, List.setIfInBounds_toArray, List.set_cons_succ, List.set_cons_zero]
      refine q_val (.pointer (some ⟨g, 0, none⟩)) rfl (fun w' hw' => by go_simp) ?_
      simp only [Act.put, List.setIfInBounds_toArray, List.set_cons_succ, List.set_cons_zero]
      refine q_val (.agg #[.int .i64 A, .int .i64 B, .int .i64 z, .slice (some ⟨b, off, none⟩) n cap]) rfl (fun w' hw' => by have k0 := (HX.out w' hw').c0; have k1 := (HX.out w' hw').c1; have k2 := (HX.out w' hw').c2; have k3 := (HX.out w' hw').c3; go_simp) ?_
      simp only [Act.put, List.setIfInBounds_toArray, List.set_cons_succ, List.set_cons_zero]
      refine q_call 43 _ (.int .i64 fa) rfl (fun w' => by go_simp) (fun w' hw' => (HFA.out w' hw').mono fun e w'' ⟨he, hb⟩ => ⟨he, hw'.trans (hb.mono hw'.size)⟩) ?_
      simp only [Act.put, List.setIfInBounds_toArray, List.set_cons_succ, List.set_cons_zero]
      refine q_move _ rfl rfl ?_
      simp only [Act.put, List.setIfInBounds_toArray, List.set_cons_succ, List.set_cons_zero]
      refine q_val (.pointer (some ⟨g, 0, none⟩)) rfl (fun w' hw' => by go_simp) ?_
      simp only [Act.put, List.setIfInBounds_toArray, List.set_cons_succ, List.set_cons_zero]
      refine q_val (.agg #[.int .i64 A, .int .i64 B, .int .i64 z, .slice (some ⟨b, off, none⟩) n cap]) rfl (fun w' hw' => by have k0 := (HX.out w' hw').c0; have k1 := (HX.out w' hw').c1; have k2 := (HX.out w' hw').c2; have k3 := (HX.out w' hw').c3; go_simp) ?_
      simp only [Act.put, List.setIfInBounds_toArray, List.set_cons_succ, List.set_cons_zero]
      refine q_call 43 _ (.int .i64 fb) rfl (fun w' => by go_simp) (fun w' hw' => (HFB.out w' hw').mono fun e w'' ⟨he, hb⟩ => ⟨he, hw'.trans (hb.mono hw'.size)⟩) ?_
      simp only [Act.put, List.setIfInBounds_toArray, List.set_cons_succ, List.set_cons_zero]
      refine q_val (.int .i64 fa) rfl (fun w' hw' => by go_simp) ?_
      simp only [Act.put, List.setIfInBounds_toArray, List.set_cons_succ, List.set_cons_zero]
      refine q_val (.int .i64 fb) rfl (fun w' hw' => by go_simp) ?_
      simp only [Act.put, List.setIfInBounds_toArray, List.set_cons_succ, List.set_cons_zero]
      refine wpQuiet_nil ?_
      intro w2 hw2
      have HW2 := Lib.hid hw2
      have y3 := (HX.out w2 hw2).c3
      clear hw2
      have HT0 : Hid (tp0 A B z f 2 = fa) := Lib.hid HFa.out.symm
      have HT1 : Hid (tp1 B z f 2 = fb) := Lib.hid HFb.out.symm
      cases hq : decide (fa < 0) with
      | true =>
        have hlt : fa < 0 := of_decide_eq_true hq
        have HNO : Hid (tpOk A B z f 2 = false) := Lib.hid (tpOk_no (i := 0) (by omega) (.inr rfl) (show tp0 A B z f 2 = -1 by rw [HT0.out]; omega))
        clear hq
        have HO := Lib.hid (HEno.out HNO.out)
        clear HEno HEyes HNO HCP
        go_wp2_with fail
        go_ret3
        exact ⟨by rw [HO.out.1, HO.out.2.1, HO.out.2.2.1]; rfl, by rw [HO.out.2.2.2]; exact Turn.same hx hs (HB1.out.trans (HW2.out.mono HB1.out.size))⟩
      | false =>
        have hge : 0 ≤ fa := by simpa using hq
        have hge' : ¬ fa < 0 := by omega
        by_cases hq2 : fb < 0
        · have HNO : Hid (tpOk A B z f 2 = false) := Lib.hid (tpOk_no (i := 1) (by omega) (.inr rfl) (show tp1 B z f 2 = -1 by rw [HT1.out]; omega))
          have HO := Lib.hid (HEno.out HNO.out)
          clear HEno HEyes HNO HCP
          go_wp2_with fail
          go_ret3
          exact ⟨by rw [HO.out.1, HO.out.2.1, HO.out.2.2.1]; rfl, by rw [HO.out.2.2.2]; exact Turn.same hx hs (HB1.out.trans (HW2.out.mono HB1.out.size))⟩
        · have hge2 : 0 ≤ fb := by omega
          have HO := Lib.hid (HEyes.out (tpOk_all (.inr rfl) fun i hi => by
            obtain rfl | rfl : i = 0 ∨ i = 1 := by omega
            · show tp0 A B z f 2 ≠ -1
              rw [HT0.out]; omega
            · show tp1 B z f 2 ≠ -1
              rw [HT1.out]; omega))
          have n0 : tpP A B z f 2 0 ≠ -1 := show tp0 A B z f 2 ≠ -1 by rw [HT0.out]; omega
          have n1 : tpP A B z f 2 1 ≠ -1 := show tp1 B z f 2 ≠ -1 by rw [HT1.out]; omega
          obtain ⟨hpl, hln, _⟩ := tpL_at (f := f) HAp.out (.inr rfl) (show 0 < 2 by omega) n0
          obtain ⟨hpl1, hln1, _⟩ := tpL_at (f := f) HAp.out (.inr rfl) (show 1 < 2 by omega) n1
          rw [show tpP A B z f 2 0 = fa from HT0.out] at hpl
          rw [show tpP A B z f 2 1 = fb from HT1.out] at hpl1
          have HBE := Lib.hid (tk_bec2 (f := f) HAp.out n0 n1)
          have HPC0 := Lib.hid (fun (b8 cap8 : Nat) (w' : World) => refplace_any A B z fa (some ⟨b8, 0, none⟩) n cap8 w' (by unfold i64; omega) HAp.out)
          have HPC1 := Lib.hid (fun (b8 cap8 : Nat) (w' : World) => refplace_any A B z fb (some ⟨b8, 0, none⟩) n cap8 w' (by unfold i64; omega) HAp.out)
          rw [hpl] at HPC0
          rw [hpl1] at HPC1
          clear hpl hpl1 hq n0 n1
          generalize tpL A B z f 2 0 = l at HPC0 HBE hln
          generalize tpL A B z f 2 1 = l' at HPC1 HBE hln1
          go_wp2_with fail
          refine (HCP.out w2 (HB1.out.trans (HW2.out.mono HB1.out.size))).mono ?_
          rintro _ w3 ⟨b8, cap8, rfl, hb8, hc8, hrow, hb3⟩
          dsimp only
          have m3 := ((HX.out w2 HW2.out).below hb3 (HX.out w2 HW2.out).lt).c3
          have mf := ((HX.out w2 HW2.out).below hb3 (HX.out w2 HW2.out).lt).fr 3
          have HI0 : Hid (RfI w g A B z b8 n cap8 f (w3.setCell ⟨g, 3, none⟩ (.slice (some ⟨b8, 0, none⟩) n cap8))) := Lib.hid (rf_start hx (HB1.out.trans (HW2.out.mono HB1.out.size)) hb3 hb8 hc8 hrow)
          clear hrow hb3 y3
          go_wp2_with fail
          generalize w3.setCell ⟨g, 3, none⟩ (.slice (some ⟨b8, 0, none⟩) n cap8) = w4 at HI0 ⊢
          clear m3 mf
          have HPC := Lib.hid (HPC0.out b8 cap8)
          have hl0 : (0 : Int) ≤ (l : Int) := by omega
          have hlm : (l : Int) < (n : Int) := by have := HN2.out; omega
          have HY := Lib.hid (fun w' (hw' : Below w4.heap.size w4 w') => (HI0.out.later hw').sp)
          go_wp2_with fail
          refine QuietTail2.region (n := 10) (C := fun w' => Below w4.heap.size w4 w') (by kernel_rfl) (by decide) (by kernel_rfl) (by kernel_rfl) ⟨rfl, rfl, rfl, Nat.le_refl _, fun _ _ => rfl⟩ ?_
          simp only [List.take_succ_cons, List.take_zero, List.drop_succ_cons, List.drop_zero]
          refine q_move _ rfl rfl ?_
          simp only [Act.put, List.setIfInBounds_toArray, List.set_cons_succ, List.set_cons_zero]
          refine q_val (.pointer (some ⟨g, 0, none⟩)) rfl (fun w' hw' => by go_simp) ?_
          simp only [Act.put, List.setIfInBounds_toArray, List.set_cons_succ, List.set_cons_zero]
          refine q_val (.pointer (some ⟨g, 3, none⟩)) rfl (fun w' hw' => by go_simp) ?_
          simp only [Act.put, List.setIfInBounds_toArray, List.set_cons_succ, List.set_cons_zero]
          refine q_val (.slice (some ⟨b8, 0, none⟩) n cap8) rfl (fun w' hw' => by have k3 := (HY.out w' hw').c3; go_simp) ?_
          simp only [Act.put, List.setIfInBounds_toArray, List.set_cons_succ, List.set_cons_zero]
          refine q_move _ rfl rfl ?_
          simp only [Act.put, List.setIfInBounds_toArray, List.set_cons_succ, List.set_cons_zero]
          refine q_val (.pointer (some ⟨g, 0, none⟩)) rfl (fun w' hw' => by go_simp) ?_
          simp only [Act.put, List.setIfInBounds_toArray, List.set_cons_succ, List.set_cons_zero]
          refine q_val (.agg #[.int .i64 A, .int .i64 B, .int .i64 z, .slice (some ⟨b8, 0, none⟩) n cap8]) rfl (fun w' hw' => by have k0 := (HY.out w' hw').c0; have k1 := (HY.out w' hw').c1; have k2 := (HY.out w' hw').c2; have k3 := (HY.out w' hw').c3; go_simp) ?_
          simp only [Act.put, List.setIfInBounds_toArray, List.set_cons_succ, List.set_cons_zero]
          refine q_move _ rfl rfl ?_
          simp only [Act.put, List.setIfInBounds_toArray, List.set_cons_succ, List.set_cons_zero]
          refine q_call 36 _ (.int .i64 (l : Nat)) rfl (fun w' => by go_simp) (fun w' hw' => (HPC.out w').mono fun e w'' ⟨he, hb⟩ => ⟨he, hw'.trans (hb.mono hw'.size)⟩) ?_
          simp only [Act.put, List.setIfInBounds_toArray, List.set_cons_succ, List.set_cons_zero]
          refine q_val (.pointer (some ⟨b8, l, none⟩)) rfl (fun w' hw' => by skip; go_simp) ?_
          simp only [Act.put, List.setIfInBounds_toArray, List.set_cons_succ, List.set_cons_zero]
          refine wpQuiet_nil ?_
          intro w9 hw9
          have HI9 := Lib.hid (HI0.out.later hw9)
          have cb := HI9.out.row.cell (j := l) (by have := HN2.out; omega)
          have cf := HI9.out.row.free l
          rw [Nat.zero_add] at cb
          have HI1' := Lib.hid (HI9.out.store l 2)
          clear HY HI9 hw9
          go_wp2_with fail
          generalize hW9 : w9.setCell ⟨b8, l, none⟩ (.int .u8 2) = w10 at HI1' ⊢
          have HI1 := HI1'
          clear HI1' hW9 cb cf HI0 hl0 hlm
          clear HPC
          have HPC := Lib.hid (HPC1.out b8 cap8)
          have hl0 : (0 : Int) ≤ (l' : Int) := by omega
          have hlm : (l' : Int) < (n : Int) := by have := HN2.out; omega
          have HY := Lib.hid (fun w' (hw' : Below w10.heap.size w10 w') => (HI1.out.later hw').sp)
          go_wp2_with fail
          refine QuietTail2.region (n := 10) (C := fun w' => Below w10.heap.size w10 w') (by kernel_rfl) (by decide) (by kernel_rfl) (by kernel_rfl) ⟨rfl, rfl, rfl, Nat.le_refl _, fun _ _ => rfl⟩ ?_
          simp only [List.take_succ_cons, List.take_zero, List.drop_succ_cons, List.drop_zero]
          refine q_move _ rfl rfl ?_
          simp only [Act.put, List.setIfInBounds_toArray, List.set_cons_succ, List.set_cons_zero]
          refine q_val (.pointer (some ⟨g, 0, none⟩)) rfl (fun w' hw' => by go_simp) ?_
          simp only [Act.put, List.setIfInBounds_toArray, List.set_cons_succ, List.set_cons_zero]
          refine q_val (.pointer (some ⟨g, 3, none⟩)) rfl (fun w' hw' => by go_simp) ?_
          simp only [Act.put, List.setIfInBounds_toArray, List.set_cons_succ, List.set_cons_zero]
          refine q_val (.slice (some ⟨b8, 0, none⟩) n cap8) rfl (fun w' hw' => by have k3 := (HY.out w' hw').c3; go_simp) ?_
          simp only [Act.put, List.setIfInBounds_toArray, List.set_cons_succ, List.set_cons_zero]
          refine q_move _ rfl rfl ?_
          simp only [Act.put, List.setIfInBounds_toArray, List.set_cons_succ, List.set_cons_zero]
          refine q_val (.pointer (some ⟨g, 0, none⟩)) rfl (fun w' hw' => by go_simp) ?_
          simp only [Act.put, List.setIfInBounds_toArray, List.set_cons_succ, List.set_cons_zero]
          refine q_val (.agg #[.int .i64 A, .int .i64 B, .int .i64 z, .slice (some ⟨b8, 0, none⟩) n cap8]) rfl (fun w' hw' => by have k0 := (HY.out w' hw').c0; have k1 := (HY.out w' hw').c1; have k2 := (HY.out w' hw').c2; have k3 := (HY.out w' hw').c3; go_simp) ?_
          simp only [Act.put, List.setIfInBounds_toArray, List.set_cons_succ, List.set_cons_zero]
          refine q_move _ rfl rfl ?_
          simp only [Act.put, List.setIfInBounds_toArray, List.set_cons_succ, List.set_cons_zero]
          refine q_call 36 _ (.int .i64 (l' : Nat)) rfl (fun w' => by go_simp) (fun w' hw' => (HPC.out w').mono fun e w'' ⟨he, hb⟩ => ⟨he, hw'.trans (hb.mono hw'.size)⟩) ?_
          simp only [Act.put, List.setIfInBounds_toArray, List.set_cons_succ, List.set_cons_zero]
          refine q_val (.pointer (some ⟨b8, l', none⟩)) rfl (fun w' hw' => by skip; go_simp) ?_
          simp only [Act.put, List.setIfInBounds_toArray, List.set_cons_succ, List.set_cons_zero]
          refine wpQuiet_nil ?_
          intro w9 hw9
          have HI9 := Lib.hid (HI1.out.later hw9)
          have cb := HI9.out.row.cell (j := l') (by have := HN2.out; omega)
          have cf := HI9.out.row.free l'
          rw [Nat.zero_add] at cb
          have HI2' := Lib.hid (HI9.out.store l' 2)
          clear HY HI9 hw9
          go_wp2_with fail
          generalize hW9 : w9.setCell ⟨b8, l', none⟩ (.int .u8 2) = w11 at HI2' ⊢
          have HI2 := HI2'
          clear HI2' hW9 cb cf HI1 hl0 hlm
          go_wp2_with fail
          go_ret3
          exact ⟨by rw [HO.out.1, HO.out.2.1, HO.out.2.2.1, HT0.out, HT1.out]; rfl, by rw [HO.out.2.2.2]; exact (HI2.out.turn (put_bd (put_bd HBD.out (by omega)) (by omega)) hs.room).congr fun i _ => by rw [show bec (nx 2 0 0 0 0) (tpL A B z f 2) f 2 = put (put f l 2) l' 2 from HBE.out]⟩
end Sp
end Go.Proofs.Ytdbmdocmnhgbpaa
