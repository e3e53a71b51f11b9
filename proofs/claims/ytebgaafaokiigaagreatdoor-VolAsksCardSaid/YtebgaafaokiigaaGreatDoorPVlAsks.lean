import Derived.Test.YtebgaafaokiigaaGreatDoorPVmF
import Derived.Test.YtebgaafaokiigaaGreatDoorPVlH
/- vol: the law VolAsks (made by tools/gen_vlasks.py). -/
namespace Go.Proofs.YtebgaafaokiigaaGreatDoor
set_option maxRecDepth 20000
namespace Vl
open Go.RowKit Dk Gm Eqb Rm

attribute [local go_sem] zvV
attribute [local irreducible] wpQuiet
set_option maxRecDepth 100000 in
set_option maxHeartbeats 8000000 in
theorem volasks_any (sa : Option Addr) (n sc : Nat) (ca : Option Addr) (m cc : Nat) (fu : Int) (d : Bool) (gen : Int) (pa : Option Addr) (k cap : Nat) (A B Z : Int) (ao : Option Addr) (kk kc : Nat) (S : Nat → Sec) (C : Nat → Wr) (F T : Nat → Int) (f : Nat → Int) (p : Pt.Pn) (w : World)
    (nb : n * 130 ≤ 140737488355328) (mb : m * 136 ≤ 140737488355328) (kb : k * 16 ≤ 140737488355328) (hF : ∀ i, i < k → Rm.i64 (F i) ∧ Rm.i64 (T i)) (hB : Sp.i64 B) (hpA : Sp.i64 p.A) (hpB : Sp.i64 p.B) (hkp : Rm.Kp w)
    (hss : Lay w w.heap.size w.heap.size sa n sc 130 (fun i => secV (S i))) (hc : Lay w w.heap.size w.heap.size ca m cc 129 (fun i => wrV (C i))) (hl : Lay w w.heap.size w.heap.size pa k cap 2 (Rm.prV F T)) (hs : Sp.St w w.heap.size ao kk kc f) :
    Calls Tryz.prog 3 #[.agg #[.slice sa n sc, .slice ca m cc, .int .i64 fu, .bool d, .int .i64 gen, .slice pa k cap, .int .i64 A, .int .i64 B, .int .i64 Z, .slice ao kk kc], .agg (Pt.pV p).toArray] w fun e w' => e = .returned (.bool true) ∧ Below w.heap.size w w' := by
  obtain ⟨W, hW, hB0, hs0, hX0, hP0⟩ := box_vp w (.slice sa n sc) (.slice ca m cc) (.int .i64 fu) (.bool d) (.int .i64 gen) (.slice pa k cap) (.int .i64 A) (.int .i64 B) (.int .i64 Z) (.slice ao kk kc) p
  have HAL := Lib.hid (alive9_any W (hkp.below hB0))
  have up : ∀ w', Below W.heap.size W w' → Below w.heap.size w w' := fun w' h => hB0.trans (h.mono hB0.size)
  have UP := Lib.hid up
  have HSS := Lib.hid (fun w' (h : Below W.heap.size W w') => (hss.below (up w' h)).more (up w' h).size)
  have HCS := Lib.hid (fun w' (h : Below W.heap.size W w') => (hc.below (up w' h)).more (up w' h).size)
  have HLS := Lib.hid (fun w' (h : Below W.heap.size W w') => (hl.below (up w' h)).more (up w' h).size)
  have HST := Lib.hid (fun w' (h : Below W.heap.size W w') => hs.later (up w' h))
  have HX := Lib.hid (fun w' (h : Below W.heap.size W w') => hX0.below h (show w.heap.size < W.heap.size by omega))
  have HPP := Lib.hid (fun w' (h : Below W.heap.size W w') => Pt.row_pt ((h.block (w.heap.size + 1) (by omega)).trans hP0))
  have hn47 : n ≤ 140737488355328 := by omega
  have hm47 : m ≤ 140737488355328 := by omega
  have hk47 : k ≤ 140737488355328 := by omega
  have HFF := Lib.hid hF
  have hBB := Lib.hid hB
  have hPA := Lib.hid hpA
  have hPB := Lib.hid hpB
  clear hss hc hl hs hX0 hP0 up hkp hF hB hpA hpB
  go_enter Tryz.func3, Tryz.ntmps3
  go_wp2_with fail
  rw [← hW]
  clear hW
  refine HAL.out.mono ?_
  rintro _ w1 ⟨rfl, hb1⟩
  clear HAL
  have x1 := HX.out w1 hb1
  have c0 := x1.c0
  have c1 := x1.c1
  have c2 := x1.c2
  have c3 := x1.c3
  have c4 := x1.c4
  have c5 := x1.c5
  have c6 := x1.c6
  have c7 := x1.c7
  have c8 := x1.c8
  have c9 := x1.c9
  clear x1
  dsimp only
  go_wp2_with fail
  refine (Copy_any n m S C fu d gen k F T A B Z kk f sa sc ca cc pa cap ao kc w.heap.size w1 nb mb kb (HSS.out w1 hb1) (HCS.out w1 hb1) (HLS.out w1 hb1) (HST.out w1 hb1)).mono ?_
  rintro _ w2 ⟨sb, sd, cb, cd, pb, cbp, bo, kd, rfl, hcm, hb2⟩
  clear c0 c1 c2 c3 c4 c5 c6 c7 c8 c9
  obtain ⟨w3, hW3⟩ : ∃ w3, w3 = w2.alloc (.cells #[.slice sb n sd, .slice cb m cd, .int .i64 fu, .bool d, .int .i64 gen, .slice pb k cbp, .int .i64 A, .int .i64 B, .int .i64 Z, .slice bo kk kd] 34) := ⟨_, rfl⟩
  have hb3 : Below w2.heap.size w2 w3 := by rw [hW3]; exact (Below.refl _ _).alloc (Nat.le_refl _) _
  have hy3 : Vb w3 w2.heap.size (.slice sb n sd) (.slice cb m cd) (.int .i64 fu) (.bool d) (.int .i64 gen) (.slice pb k cbp) (.int .i64 A) (.int .i64 B) (.int .i64 Z) (.slice bo kk kd) := by rw [hW3]; exact heap_alloc_new w2 _
  have hs3 : w3.heap.size = w2.heap.size + 1 := by rw [hW3]; simp
  have hs1 := hb1.size
  have hs2 := hb2.size
  have hcm3 := hcm.below hb3
  have HB3 := Lib.hid (fun w' (h : Below w3.heap.size w3 w') => hb1.trans ((hb2.trans ((hb3.trans (h.mono hb3.size)).mono hs2)).mono hs1))
  have HY := Lib.hid (fun w' (h : Below w3.heap.size w3 w') => hy3.below h (show w2.heap.size < w3.heap.size by omega))
  have HCM := Lib.hid (fun w' (h : Below w3.heap.size w3 w') => hcm3.below h)
  clear hcm hy3 hb1 hb2 hb3 hcm3
  dsimp only
  go_wp2_with (refine @wpList_store_row _ _ _ _ _ _ _ rfl 34 (.tmp 5) (.tmp 9) rfl w2.heap.size #[.slice sb n sd, .slice cb m cd, .int .i64 fu, .bool d, .int .i64 gen, .slice pb k cbp, .int .i64 A, .int .i64 B, .int .i64 Z, .slice bo kk kd] rfl rfl 34 _ (heap_alloc_new w2 _) (vol_size _ _ _ _ _ _ _ _ _ _) rfl (vol_one _ _ _ _ _ _ _ _ _ _ _ _ _ _ _ _ _ _) ?_; rw [World.setRow_alloc_new]; simp only [Act.put])
  rw [← hW3]
  clear hW3
  have far : w.heap.size < w1.heap.size := by omega
  have LSS := Lib.hid (fun w' (h : Below w3.heap.size w3 w') => lay_own (g := w.heap.size) (fun i _ => secV_length (S i)) (HCM.out w' h).1.1 (.inl far))
  have LCS := Lib.hid (fun w' (h : Below w3.heap.size w3 w') => lay_own (g := w.heap.size) (fun i _ => wrV_length (C i)) (HCM.out w' h).1.2 (.inl far))
  have LLS := Lib.hid (fun w' (h : Below w3.heap.size w3 w') => lay_own (g := w.heap.size) (fun i _ => Rm.prV_length F T i) (HCM.out w' h).2.1 (.inl far))
  have LST := Lib.hid (fun w' (h : Below w3.heap.size w3 w') => Sp.OwnS.st (HCM.out w' h).2.2 (HST.out w' (HB3.out w' h)).byte (HST.out w' (HB3.out w' h)).room)
  have QR := Lib.hid (fun w' (h : Below w3.heap.size w3 w') => Right_any sb n sd cb m cd fu d gen pb k cbp A B Z bo kk kd w.heap.size C F T f w' hn47 hm47 (LCS.out w' h) (LLS.out w' h) hk47 HFF.out hBB.out (LST.out w' h))
  have QS := Lib.hid (fun w' (h : Below w3.heap.size w3 w') => refRight_any sa n sc ca m cc fu d gen pa k cap A B Z ao kk kc w.heap.size C F T f w' hn47 hm47 (HCS.out w' (HB3.out w' h)) (HLS.out w' (HB3.out w' h)) hk47 (HST.out w' (HB3.out w' h)))
  have QM := Lib.hid (fun w' (h : Below w3.heap.size w3 w') => Mine_any sb n sd cb m cd fu d gen pb k cbp A B Z bo kk kd w.heap.size C F T f p w' hn47 hm47 (LCS.out w' h) (LLS.out w' h) hk47 HFF.out hBB.out (LST.out w' h) hPA.out hPB.out)
  have QN := Lib.hid (fun w' (h : Below w3.heap.size w3 w') => refMine_any sa n sc ca m cc fu d gen pa k cap A B Z ao kk kc w.heap.size C F T f p w' hn47 hm47 (HCS.out w' (HB3.out w' h)) (HLS.out w' (HB3.out w' h)) hk47 (HST.out w' (HB3.out w' h)) hPA.out hPB.out)
  have QQ := Lib.hid (fun w' (h : Below w3.heap.size w3 w') => Same_any n m S C fu d gen k F T A B Z kk f sb sd cb cd pb cbp bo kd sa sc ca cc pa cap ao kc w.heap.size w.heap.size w' hn47 hm47 hk47 (LSS.out w' h) (LCS.out w' h) (LLS.out w' h) (LST.out w' h) (HSS.out w' (HB3.out w' h)) (HCS.out w' (HB3.out w' h)) (HLS.out w' (HB3.out w' h)) (HST.out w' (HB3.out w' h)))
  have HXX := Lib.hid (fun w' (h : Below w3.heap.size w3 w') => HX.out w' (HB3.out w' h))
  have HPQ := Lib.hid (fun w' (h : Below w3.heap.size w3 w') => HPP.out w' (HB3.out w' h))
  generalize rvB n m C gen k F T A B Z kk f = R at QR QS
  generalize mnB n m C gen k F T A B Z kk f p = Mn at QM QN
  generalize w2.heap.size = bq at HY ⊢
  refine wp_region_quiet (C := fun w' => Below w3.heap.size w3 w') (by kernel_rfl) (by kernel_rfl) ⟨rfl, rfl, rfl, Nat.le_refl _, fun _ _ => rfl⟩ ?_
  refine q_val (.agg #[.slice sb n sd, .slice cb m cd, .int .i64 fu, .bool d, .int .i64 gen, .slice pb k cbp, .int .i64 A, .int .i64 B, .int .i64 Z, .slice bo kk kd]) rfl (fun w' hw' => by have hv := HY.out w' hw'; have k0 := hv.c0; have k1 := hv.c1; have k2 := hv.c2; have k3 := hv.c3; have k4 := hv.c4; have k5 := hv.c5; have k6 := hv.c6; have k7 := hv.c7; have k8 := hv.c8; have k9 := hv.c9; clear hv; go_simp) ?_
  simp only [Act.put, List.setIfInBounds_toArray, List.set_cons_succ, List.set_cons_zero]
  refine q_call 10 _ (.bool R) rfl (fun w' => by go_simp) (fun w' hw' => (QR.out w' hw').mono fun e w'' ⟨he, hb⟩ => ⟨he, hw'.trans (hb.mono hw'.size)⟩) ?_
  simp only [Act.put, List.setIfInBounds_toArray, List.set_cons_succ, List.set_cons_zero]
  refine q_val (.agg #[.slice sa n sc, .slice ca m cc, .int .i64 fu, .bool d, .int .i64 gen, .slice pa k cap, .int .i64 A, .int .i64 B, .int .i64 Z, .slice ao kk kc]) rfl (fun w' hw' => by have hv := HXX.out w' hw'; have k0 := hv.c0; have k1 := hv.c1; have k2 := hv.c2; have k3 := hv.c3; have k4 := hv.c4; have k5 := hv.c5; have k6 := hv.c6; have k7 := hv.c7; have k8 := hv.c8; have k9 := hv.c9; clear hv; go_simp) ?_
  simp only [Act.put, List.setIfInBounds_toArray, List.set_cons_succ, List.set_cons_zero]
  refine q_call 11 _ (.bool R) rfl (fun w' => by go_simp) (fun w' hw' => (QS.out w' hw').mono fun e w'' ⟨he, hb⟩ => ⟨he, hw'.trans (hb.mono hw'.size)⟩) ?_
  simp only [Act.put, List.setIfInBounds_toArray, List.set_cons_succ, List.set_cons_zero]
  refine q_val (.bool true) rfl (fun w' hw' => by go_simp) ?_
  simp only [Act.put, List.setIfInBounds_toArray, List.set_cons_succ, List.set_cons_zero]
  refine q_move _ rfl rfl ?_
  simp only [Act.put, List.setIfInBounds_toArray, List.set_cons_succ, List.set_cons_zero]
  refine q_val (.agg #[.slice sb n sd, .slice cb m cd, .int .i64 fu, .bool d, .int .i64 gen, .slice pb k cbp, .int .i64 A, .int .i64 B, .int .i64 Z, .slice bo kk kd]) (by kernel_rfl) (fun w' hw' => by have hv := HY.out w' hw'; have k0 := hv.c0; have k1 := hv.c1; have k2 := hv.c2; have k3 := hv.c3; have k4 := hv.c4; have k5 := hv.c5; have k6 := hv.c6; have k7 := hv.c7; have k8 := hv.c8; have k9 := hv.c9; clear hv; go_simp) ?_
  simp only [Act.put, List.setIfInBounds_toArray, List.set_cons_succ, List.set_cons_zero]
  refine q_loadB 37 (.tmp 3) rfl (by kernel_rfl) (w.heap.size + 1) 0 rfl (Pt.pV p) _ (fun w' hw' => HPQ.out w' hw') Pt.undP rfl (Pt.sizeP p) ?_
  simp only [Act.put, List.setIfInBounds_toArray, List.set_cons_succ, List.set_cons_zero]
  refine q_call 12 _ (.bool Mn) (by kernel_rfl) (fun w' => by go_simp) (fun w' hw' => (QM.out w' hw').mono fun e w'' ⟨he, hb⟩ => ⟨he, hw'.trans (hb.mono hw'.size)⟩) ?_
  simp only [Act.put, List.setIfInBounds_toArray, List.set_cons_succ, List.set_cons_zero]
  refine q_val (.agg #[.slice sa n sc, .slice ca m cc, .int .i64 fu, .bool d, .int .i64 gen, .slice pa k cap, .int .i64 A, .int .i64 B, .int .i64 Z, .slice ao kk kc]) (by kernel_rfl) (fun w' hw' => by have hv := HXX.out w' hw'; have k0 := hv.c0; have k1 := hv.c1; have k2 := hv.c2; have k3 := hv.c3; have k4 := hv.c4; have k5 := hv.c5; have k6 := hv.c6; have k7 := hv.c7; have k8 := hv.c8; have k9 := hv.c9; clear hv; go_simp) ?_
  simp only [Act.put, List.setIfInBounds_toArray, List.set_cons_succ, List.set_cons_zero]
  refine q_loadB 37 (.tmp 3) rfl (by kernel_rfl) (w.heap.size + 1) 0 rfl (Pt.pV p) _ (fun w' hw' => HPQ.out w' hw') Pt.undP rfl (Pt.sizeP p) ?_
  simp only [Act.put, List.setIfInBounds_toArray, List.set_cons_succ, List.set_cons_zero]
  refine q_call 13 _ (.bool Mn) (by kernel_rfl) (fun w' => by go_simp) (fun w' hw' => (QN.out w' hw').mono fun e w'' ⟨he, hb⟩ => ⟨he, hw'.trans (hb.mono hw'.size)⟩) ?_
  simp only [Act.put, List.setIfInBounds_toArray, List.set_cons_succ, List.set_cons_zero]
  refine q_val (.bool true) (by kernel_rfl) (fun w' hw' => by go_simp) ?_
  simp only [Act.put, List.setIfInBounds_toArray, List.set_cons_succ, List.set_cons_zero]
  refine q_val (.bool true) rfl (fun w' hw' => by go_simp) ?_
  simp only [Act.put, List.setIfInBounds_toArray, List.set_cons_succ, List.set_cons_zero]
  refine q_move _ rfl rfl ?_
  simp only [Act.put, List.setIfInBounds_toArray, List.set_cons_succ, List.set_cons_zero]
  refine q_val (.agg #[.slice sb n sd, .slice cb m cd, .int .i64 fu, .bool d, .int .i64 gen, .slice pb k cbp, .int .i64 A, .int .i64 B, .int .i64 Z, .slice bo kk kd]) (by kernel_rfl) (fun w' hw' => by have hv := HY.out w' hw'; have k0 := hv.c0; have k1 := hv.c1; have k2 := hv.c2; have k3 := hv.c3; have k4 := hv.c4; have k5 := hv.c5; have k6 := hv.c6; have k7 := hv.c7; have k8 := hv.c8; have k9 := hv.c9; clear hv; go_simp) ?_
  simp only [Act.put, List.setIfInBounds_toArray, List.set_cons_succ, List.set_cons_zero]
  refine q_val (.agg #[.slice sa n sc, .slice ca m cc, .int .i64 fu, .bool d, .int .i64 gen, .slice pa k cap, .int .i64 A, .int .i64 B, .int .i64 Z, .slice ao kk kc]) (by kernel_rfl) (fun w' hw' => by have hv := HXX.out w' hw'; have k0 := hv.c0; have k1 := hv.c1; have k2 := hv.c2; have k3 := hv.c3; have k4 := hv.c4; have k5 := hv.c5; have k6 := hv.c6; have k7 := hv.c7; have k8 := hv.c8; have k9 := hv.c9; clear hv; go_simp) ?_
  simp only [Act.put, List.setIfInBounds_toArray, List.set_cons_succ, List.set_cons_zero]
  refine q_call 14 _ (.bool true) (by kernel_rfl) (fun w' => by go_simp) (fun w' hw' => (QQ.out w' hw').mono fun e w'' ⟨he, hb⟩ => ⟨he, hw'.trans (hb.mono hw'.size)⟩) ?_
  simp only [Act.put, List.setIfInBounds_toArray, List.set_cons_succ, List.set_cons_zero]
  refine q_val (.bool true) rfl (fun w' hw' => by go_simp) ?_
  simp only [Act.put, List.setIfInBounds_toArray, List.set_cons_succ, List.set_cons_zero]
  refine q_val (.bool true) rfl (fun w' hw' => by go_simp) ?_
  simp only [Act.put, List.setIfInBounds_toArray, List.set_cons_succ, List.set_cons_zero]
  refine wpQuiet_nil ?_
  intro w4 hw4
  go_wp2_with fail
  go_ret
  exact ⟨rfl, UP.out w4 (HB3.out w4 hw4)⟩
end Vl
end Go.Proofs.YtebgaafaokiigaaGreatDoor
