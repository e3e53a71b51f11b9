import Derived.Test.YtonhedefjmkpcaaGreatDoorPVlS
import Derived.Test.YtonhedefjmkpcaaGreatDoorPAl
/- vol: Swap (made by tools/gen_vlswap.py). -/
namespace Go.Proofs.YtonhedefjmkpcaaGreatDoor
set_option maxRecDepth 20000
namespace Vl
open Go.RowKit Dk Gm Eqb Rm Vm Di

attribute [local go_sem] zv29
attribute [local go_sem] Pt.zvP
attribute [local go_sem] zc29
set_option maxRecDepth 100000 in
set_option maxHeartbeats 4000000 in
theorem swap_no_a {w : World} {V : Pl} {n k : Nat} {X : Dst} {M : Tab} {A B Z : Int} {f : Nat → Int} (h : HasVol w V n X M A B Z k f) (hm : TabOk M) (hB : Sp.i64 B) (hkp : Rm.Kp w) (p : Pt.Pn) (hpA : Sp.i64 p.A) (hpB : Sp.i64 p.B) (D : Nat → Int) (c : Int) (hD : byt D) (hyes : mn n X M A B Z k f p = true) (hc : alB c = true) (hk : 0 < k) (hM : M.k = 0) (hf : Pt.fitsB p D = false) {p1 : Pt.Pn} {E1 : Int} {X1 : Dst} {f1 : Nat → Int} (HAD : ∀ w', Below w.heap.size w w' → HasVol w' V n X M A B Z k f → Calls Tryz.prog 46 #[.pointer (some ⟨V.b, V.o, none⟩), .agg (bl D).toArray, .int .i64 c] w' fun e w'' => e = .returned (.tuple #[.agg (Pt.pV p1).toArray, .int .i64 E1]) ∧ Tv w' V n X1 M A B Z k f1 w'') (hE : (E1 != 0) = true) :
  Calls Tryz.prog 54 #[.pointer (some ⟨V.b, V.o, none⟩), .agg (Pt.pV p).toArray, .agg (bl D).toArray, .int .i64 c] w fun e w' =>  e = .returned (.tuple #[.agg (Pt.pV Pt.pz).toArray, .int .i64 E1]) ∧ Tv w V n X1 M A B Z k f1 w' := by
 obtain ⟨W, hW, hS⟩ := sb_start w p D
 have HMI := Lib.hid (mine_v (h.below hS.be) hm hB p hpA hpB)
 rw [hyes] at HMI
 have HA := Lib.hid (allowed_any c)
 rw [hc] at HA
 have HS := Lib.hid hS
 have q0 := Pt.row_pt hS.p
 have hbe0 := hS.be
 have HPR := Lib.hid (fun w' (hb : Below W.heap.size W w') => Pt.row_pt (hS.below hb).p)
 have HDR0 := Lib.hid (fun w' (hb : Below W.heap.size W w') => row_all (hS.below hb).d)
 have HFT := Lib.hid (fun w' (hb : Below W.heap.size W w') => Pt.fits_any p D w' hD ((hkp.below hbe0).below hb))
 have HIH := Lib.hid (fun w' => Pt.ishole_any p w')
 have HCT := Lib.hid (fun w' => count_any p w')
 rw [hf] at HFT
 have HV0 := Lib.hid h
 replace HAD := Lib.hid HAD
 clear h hm hB hpA hpB hkp hD hyes hc hS hf
 go_enter Tryz.func54, Tryz.ntmps54
 rw [hW] at q0
 go_wp2_with (refine @wpList_loadG _ _ _ _ _ _ _ (by kernel_rfl) 50 (.tmp 5) rfl w.heap.size 0 rfl (Pt.pV p) _ q0 Pt.undP rfl (Pt.sizeP p) ?_; simp only [Act.put, aI, aS, aZ])
 try rw [Pt.zrow]
 try rw [← hW]
 clear hW q0
 refine HMI.out.mono ?_
 rintro _ w1 ⟨rfl, hb1⟩
 clear HMI
 dsimp only
 go_wp2_with fail
 refine (HA.out w1).mono ?_
 rintro _ _ ⟨rfl, rfl⟩
 clear HA
 dsimp only
 go_wp2_with (first
   | (refine @wpList_loadG _ _ _ _ _ _ _ (by kernel_rfl) 50 (.tmp 5) rfl w.heap.size 0 rfl (Pt.pV p) _ (HPR.out _ (by assumption)) Pt.undP rfl (Pt.sizeP p) ?_; simp only [Act.put, aI, aS, aZ])
   | (refine @wpList_loadG _ _ _ _ _ _ _ (by kernel_rfl) 45 (.tmp 6) rfl (w.heap.size + 1) 0 rfl (bl D) _ (HDR0.out _ (by assumption)) undB rfl (size_bl D) ?_; simp only [Act.put, aI, aS, aZ]))
 refine (HFT.out w1 hb1).mono ?_
 rintro _ w2 ⟨rfl, hb2⟩
 replace hb2 := hb1.trans (hb2.mono hb1.size)
 clear HFT hb1
 dsimp only
 clear HIH HCT
 have hv := HV0.out.below (hbe0.trans (hb2.mono hbe0.size))
 go_wp2_with fail
 refine wp_load_mid 45 (.tmp 6) rfl (w.heap.size + 1) 0 rfl (bl D) _ (HDR0.out _ hb2) undB rfl (size_bl D) ?_
 simp only [Act.put, aI, aS, aZ]
 go_wp2_with fail
 refine (HAD.out _ (hbe0.trans (hb2.mono hbe0.size)) hv).mono ?_
 rintro _ w4 ⟨rfl, hT4⟩
 have hvl := HV0.out.lt
 have hsW := HS.out.sz
 have hs3 := hb2.size
 have hs4 := hT4.g.size
 have hS3 := HS.out.below hb2
 have hz4 := (hT4.g.block (w.heap.size + 1 + 1) (by omega) (by simp; omega)).trans hS3.r
 have hp4 := (hT4.g.block w.heap.size (by omega) (by simp; omega)).trans hS3.p
 have hTW : Tv w V n X1 M A B Z k f1 w4 := (Tv.of HV0.out (hbe0.trans (hb2.mono hbe0.size))).trans hT4
 have hO4 := ((Off.new (b := w.heap.size + 1 + 1) HV0.out hk (by omega)).below hvl (hbe0.trans (hb2.mono hbe0.size))).loc (by omega) hT4.l
 have hb5 : Below w4.heap.size w4 (w4.alloc (.cells (Pt.pV p1).toArray 50)) := (Below.refl _ _).alloc (Nat.le_refl _) _
 have HT5 := Lib.hid (hTW.below hb5)
 have HO5 := Lib.hid (hO4.below (hTW.v.lt) hb5)
 have hz5 := (hb5.block (w.heap.size + 1 + 1) (by omega)).trans hz4
 have hp5 := (hb5.block w.heap.size (by omega)).trans hp4
 have hn5 := heap_alloc_new w4 (.cells (Pt.pV p1).toArray 50)
 have hs5 : w4.heap.size + 1 ≤ (w4.alloc (.cells (Pt.pV p1).toArray 50)).heap.size := by simp
 clear hTW hO4 hb5 hz4 hp4 HV0 HAD hT4 hS3 HS hb2 hbe0 HPR HDR0 hv 
 dsimp only
 go_wp2_with (first
  | (refine @wpList_store_row _ _ _ _ _ _ _ rfl 50 (.tmp 10) (.tmp 41) rfl w4.heap.size (Pt.pV p1).toArray rfl rfl 50 _ (heap_alloc_new w4 _) (Pt.sizeP' _) rfl (Pt.pV_all _) ?_; rw [World.setRow_alloc_new]; simp only [Act.put]; generalize w4.alloc (.cells (Pt.pV p1).toArray 50) = w5 at HT5 HO5 hz5 hp5 hn5 hs5 ⊢)
  | (refine wpList_buildTo rfl 50 #[] rfl _ rfl (Pt.pV Pt.pz).toArray Pt.builtZ ?_; simp only [Act.put, aI, aS, aZ])
  | (refine @wpList_store_row _ _ _ _ _ _ _ rfl 50 (.tmp 8) (.tmp 45) rfl (w.heap.size + 1 + 1) (Pt.pV Pt.pz).toArray rfl rfl 50 _ hz5 (Pt.sizeP' _) rfl (Pt.pV_all _) ?_; simp only [Act.put]))
 refine bodyPost_ret (Pt.results_2p rfl rfl rfl (setRow_heap _ _ _ _ _ _ hz5)) rfl ?_
 obtain ⟨hf1, hf2⟩ := hasVol_only HT5.out.v hk HO5.out hz5 (by decide) (by decide) (.inl hM) (grown_row (Pt.pV Pt.pz).toArray)
 exact ⟨rfl, hf1, grown_only HT5.out.g (by omega) (grown_row _), HT5.out.l.trans (Loc.same (World.cell?_of_block (setRow_other _ _ _ _ (show V.b ≠ w.heap.size + 1 + 1 by omega)))) HT5.out.g.size⟩

set_option maxRecDepth 100000 in
set_option maxHeartbeats 4000000 in
theorem swap_no_b {w : World} {V : Pl} {n k : Nat} {X : Dst} {M : Tab} {A B Z : Int} {f : Nat → Int} (h : HasVol w V n X M A B Z k f) (hm : TabOk M) (hB : Sp.i64 B) (hkp : Rm.Kp w) (p : Pt.Pn) (hpA : Sp.i64 p.A) (hpB : Sp.i64 p.B) (D : Nat → Int) (c : Int) (hD : byt D) (hyes : mn n X M A B Z k f p = true) (hc : alB c = true) (hk : 0 < k) (hM : M.k = 0) (hf : Pt.fitsB p D = true) (hi : Pt.isHole p = false) (hq : (cntI p == c) = false) {p1 : Pt.Pn} {E1 : Int} {X1 : Dst} {f1 : Nat → Int} (HAD : ∀ w', Below w.heap.size w w' → HasVol w' V n X M A B Z k f → Calls Tryz.prog 46 #[.pointer (some ⟨V.b, V.o, none⟩), .agg (bl D).toArray, .int .i64 c] w' fun e w'' => e = .returned (.tuple #[.agg (Pt.pV p1).toArray, .int .i64 E1]) ∧ Tv w' V n X1 M A B Z k f1 w'') (hE : (E1 != 0) = true) :
  Calls Tryz.prog 54 #[.pointer (some ⟨V.b, V.o, none⟩), .agg (Pt.pV p).toArray, .agg (bl D).toArray, .int .i64 c] w fun e w' =>  e = .returned (.tuple #[.agg (Pt.pV Pt.pz).toArray, .int .i64 E1]) ∧ Tv w V n X1 M A B Z k f1 w' := by
 obtain ⟨W, hW, hS⟩ := sb_start w p D
 have HMI := Lib.hid (mine_v (h.below hS.be) hm hB p hpA hpB)
 rw [hyes] at HMI
 have HA := Lib.hid (allowed_any c)
 rw [hc] at HA
 have HS := Lib.hid hS
 have q0 := Pt.row_pt hS.p
 have hbe0 := hS.be
 have HPR := Lib.hid (fun w' (hb : Below W.heap.size W w') => Pt.row_pt (hS.below hb).p)
 have HDR0 := Lib.hid (fun w' (hb : Below W.heap.size W w') => row_all (hS.below hb).d)
 have HFT := Lib.hid (fun w' (hb : Below W.heap.size W w') => Pt.fits_any p D w' hD ((hkp.below hbe0).below hb))
 have HIH := Lib.hid (fun w' => Pt.ishole_any p w')
 have HCT := Lib.hid (fun w' => count_any p w')
 rw [hf] at HFT
 have HV0 := Lib.hid h
 replace HAD := Lib.hid HAD
 clear h hm hB hpA hpB hkp hD hyes hc hS hf
 go_enter Tryz.func54, Tryz.ntmps54
 rw [hW] at q0
 go_wp2_with (refine @wpList_loadG _ _ _ _ _ _ _ (by kernel_rfl) 50 (.tmp 5) rfl w.heap.size 0 rfl (Pt.pV p) _ q0 Pt.undP rfl (Pt.sizeP p) ?_; simp only [Act.put, aI, aS, aZ])
 try rw [Pt.zrow]
 try rw [← hW]
 clear hW q0
 refine HMI.out.mono ?_
 rintro _ w1 ⟨rfl, hb1⟩
 clear HMI
 dsimp only
 go_wp2_with fail
 refine (HA.out w1).mono ?_
 rintro _ _ ⟨rfl, rfl⟩
 clear HA
 dsimp only
 go_wp2_with (first
   | (refine @wpList_loadG _ _ _ _ _ _ _ (by kernel_rfl) 50 (.tmp 5) rfl w.heap.size 0 rfl (Pt.pV p) _ (HPR.out _ (by assumption)) Pt.undP rfl (Pt.sizeP p) ?_; simp only [Act.put, aI, aS, aZ])
   | (refine @wpList_loadG _ _ _ _ _ _ _ (by kernel_rfl) 45 (.tmp 6) rfl (w.heap.size + 1) 0 rfl (bl D) _ (HDR0.out _ (by assumption)) undB rfl (size_bl D) ?_; simp only [Act.put, aI, aS, aZ]))
 refine (HFT.out w1 hb1).mono ?_
 rintro _ w2 ⟨rfl, hb2⟩
 replace hb2 := hb1.trans (hb2.mono hb1.size)
 clear HFT hb1
 dsimp only
 go_wp2_with (first
   | (refine @wpList_loadG _ _ _ _ _ _ _ (by kernel_rfl) 50 (.tmp 5) rfl w.heap.size 0 rfl (Pt.pV p) _ (HPR.out _ (by assumption)) Pt.undP rfl (Pt.sizeP p) ?_; simp only [Act.put, aI, aS, aZ])
   | (refine @wpList_loadG _ _ _ _ _ _ _ (by kernel_rfl) 45 (.tmp 6) rfl (w.heap.size + 1) 0 rfl (bl D) _ (HDR0.out _ (by assumption)) undB rfl (size_bl D) ?_; simp only [Act.put, aI, aS, aZ]))
 refine (HIH.out w2).mono ?_
 rintro _ w3 ⟨rfl, hb3⟩
 replace hb3 := hb2.trans (hb3.mono hb2.size)
 clear HIH hb2
 rw [hi]
 dsimp only
 go_wp2_with (first
   | (refine @wpList_loadG _ _ _ _ _ _ _ (by kernel_rfl) 50 (.tmp 5) rfl w.heap.size 0 rfl (Pt.pV p) _ (HPR.out _ (by assumption)) Pt.undP rfl (Pt.sizeP p) ?_; simp only [Act.put, aI, aS, aZ])
   | (refine @wpList_loadG _ _ _ _ _ _ _ (by kernel_rfl) 45 (.tmp 6) rfl (w.heap.size + 1) 0 rfl (bl D) _ (HDR0.out _ (by assumption)) undB rfl (size_bl D) ?_; simp only [Act.put, aI, aS, aZ]))
 refine (HCT.out w3).mono ?_
 rintro _ w4 ⟨rfl, hb4⟩
 replace hb4 := hb3.trans (hb4.mono hb3.size)
 clear HCT hb3
 dsimp only
 have hv := HV0.out.below (hbe0.trans (hb4.mono hbe0.size))
 go_wp2_with (first
   | (refine @wpList_loadG _ _ _ _ _ _ _ (by kernel_rfl) 50 (.tmp 5) rfl w.heap.size 0 rfl (Pt.pV p) _ (HPR.out _ (by assumption)) Pt.undP rfl (Pt.sizeP p) ?_; simp only [Act.put, aI, aS, aZ])
   | (refine @wpList_loadG _ _ _ _ _ _ _ (by kernel_rfl) 45 (.tmp 6) rfl (w.heap.size + 1) 0 rfl (bl D) _ (HDR0.out _ (by assumption)) undB rfl (size_bl D) ?_; simp only [Act.put, aI, aS, aZ]))
 refine (HAD.out _ (hbe0.trans (hb4.mono hbe0.size)) hv).mono ?_
 rintro _ w4 ⟨rfl, hT4⟩
 have hvl := HV0.out.lt
 have hsW := HS.out.sz
 have hs3 := hb4.size
 have hs4 := hT4.g.size
 have hS3 := HS.out.below hb4
 have hz4 := (hT4.g.block (w.heap.size + 1 + 1) (by omega) (by simp; omega)).trans hS3.r
 have hp4 := (hT4.g.block w.heap.size (by omega) (by simp; omega)).trans hS3.p
 have hTW : Tv w V n X1 M A B Z k f1 w4 := (Tv.of HV0.out (hbe0.trans (hb4.mono hbe0.size))).trans hT4
 have hO4 := ((Off.new (b := w.heap.size + 1 + 1) HV0.out hk (by omega)).below hvl (hbe0.trans (hb4.mono hbe0.size))).loc (by omega) hT4.l
 have hb5 : Below w4.heap.size w4 (w4.alloc (.cells (Pt.pV p1).toArray 50)) := (Below.refl _ _).alloc (Nat.le_refl _) _
 have HT5 := Lib.hid (hTW.below hb5)
 have HO5 := Lib.hid (hO4.below (hTW.v.lt) hb5)
 have hz5 := (hb5.block (w.heap.size + 1 + 1) (by omega)).trans hz4
 have hp5 := (hb5.block w.heap.size (by omega)).trans hp4
 have hn5 := heap_alloc_new w4 (.cells (Pt.pV p1).toArray 50)
 have hs5 : w4.heap.size + 1 ≤ (w4.alloc (.cells (Pt.pV p1).toArray 50)).heap.size := by simp
 clear hTW hO4 hb5 hz4 hp4 HV0 HAD hT4 hS3 HS hb4 hbe0 HPR HDR0 hv 
 dsimp only
 go_wp2_with (first
  | (refine @wpList_store_row _ _ _ _ _ _ _ rfl 50 (.tmp 10) (.tmp 41) rfl w4.heap.size (Pt.pV p1).toArray rfl rfl 50 _ (heap_alloc_new w4 _) (Pt.sizeP' _) rfl (Pt.pV_all _) ?_; rw [World.setRow_alloc_new]; simp only [Act.put]; generalize w4.alloc (.cells (Pt.pV p1).toArray 50) = w5 at HT5 HO5 hz5 hp5 hn5 hs5 ⊢)
  | (refine wpList_buildTo rfl 50 #[] rfl _ rfl (Pt.pV Pt.pz).toArray Pt.builtZ ?_; simp only [Act.put, aI, aS, aZ])
  | (refine @wpList_store_row _ _ _ _ _ _ _ rfl 50 (.tmp 8) (.tmp 45) rfl (w.heap.size + 1 + 1) (Pt.pV Pt.pz).toArray rfl rfl 50 _ hz5 (Pt.sizeP' _) rfl (Pt.pV_all _) ?_; simp only [Act.put]))
 refine bodyPost_ret (Pt.results_2p rfl rfl rfl (setRow_heap _ _ _ _ _ _ hz5)) rfl ?_
 obtain ⟨hf1, hf2⟩ := hasVol_only HT5.out.v hk HO5.out hz5 (by decide) (by decide) (.inl hM) (grown_row (Pt.pV Pt.pz).toArray)
 exact ⟨rfl, hf1, grown_only HT5.out.g (by omega) (grown_row _), HT5.out.l.trans (Loc.same (World.cell?_of_block (setRow_other _ _ _ _ (show V.b ≠ w.heap.size + 1 + 1 by omega)))) HT5.out.g.size⟩
end Vl
end Go.Proofs.YtonhedefjmkpcaaGreatDoor
