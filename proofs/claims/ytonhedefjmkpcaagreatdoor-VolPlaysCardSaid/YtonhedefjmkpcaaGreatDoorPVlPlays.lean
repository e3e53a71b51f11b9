import Derived.Test.YtonhedefjmkpcaaGreatDoorPVlPlay
import Derived.Test.YtonhedefjmkpcaaGreatDoorPVlQ
import Derived.Test.YtonhedefjmkpcaaGreatDoorPAl
/- vol: the law VolPlays (made by tools/gen_vlplays.py). -/
namespace Go.Proofs.YtonhedefjmkpcaaGreatDoor
set_option maxRecDepth 20000
namespace Vl
open Go.RowKit Dk Gm Eqb Rm Vm Di Vp VLaw

attribute [local go_sem] zv29
attribute [local go_sem] Pt.zvP
attribute [local go_sem] zvV
attribute [local go_sem] zc29
theorem guard45 : Tryz.prog.eqGuardType Tryz.prog.depth 45 = false := by kernel_rfl
theorem hd_blk {w : World} {b o : Nat} {x : Hd} (h : w.rangeAt b o (hV x)) : w.rangeAt b (o + 34) (bl x.2) := fun j v hv => by
 have := h (34 + j) v (by
  unfold hV
  rw [List.getElem?_append_right (by rw [Pt.pV_length]; omega), Pt.pV_length, show 34 + j - 34 = j by omega]
  exact hv)
 rwa [show o + 34 + j = o + (34 + j) by omega]
/-- a volume's ten cells -/
def VC (w : World) (B : Nat) (X : Dst) (sa : Option Addr) (sc : Nat) (ca : Option Addr) (cc : Nat) (pa : Option Addr) (cap : Nat) (ao : Option Addr) (kd : Nat) : Prop :=
 w.cell? ⟨B, 0, none⟩ = some (.slice sa 332 sc) ∧ w.cell? ⟨B, 1, none⟩ = some (.slice ca X.m cc) ∧ w.cell? ⟨B, 2, none⟩ = some (.int .i64 X.f) ∧ w.cell? ⟨B, 3, none⟩ = some (.bool X.d) ∧ w.cell? ⟨B, 4, none⟩ = some (.int .i64 vM.gen) ∧ w.cell? ⟨B, 5, none⟩ = some (.slice pa vM.k cap) ∧
  w.cell? ⟨B, 6, none⟩ = some (.int .i64 28) ∧ w.cell? ⟨B, 7, none⟩ = some (.int .i64 184) ∧ w.cell? ⟨B, 8, none⟩ = some (.int .i64 128) ∧ w.cell? ⟨B, 9, none⟩ = some (.slice ao 256 kd)
theorem hF0 : ∀ i, i < vM.k → Rm.i64 (vM.F i) ∧ Rm.i64 (vM.T i) := fun i hi => by have : i < 0 := hi; omega
theorem vx_cells {w : World} {B : Nat} {X : Dst} {f : Nat → Int} {sa ca pa ao : Option Addr} {sc cc cap kd : Nat} (hx : Vx w (Pl.own B 36) 332 X vM 28 184 128 256 f sa sc ca cc pa cap ao kd) : VC w B X sa sc ca cc pa cap ao kd :=
 ⟨hx.c0, hx.c1, hx.c2, hx.c3, hx.c4, hx.c5, hx.c6, hx.c7, hx.c8, hx.c9⟩
theorem vol_right {w : World} {B : Nat} {X : Dst} {f : Nat → Int} {H : List Hd} (hv : HasVol w (Pl.own B 36) 332 X vM 28 184 128 256 f) (hP : Py X f H) :
  ∃ sa sc ca cc pa cap ao kd, w.cell? ⟨B, 0, none⟩ = some (.slice sa 332 sc) ∧ w.cell? ⟨B, 1, none⟩ = some (.slice ca X.m cc) ∧ w.cell? ⟨B, 2, none⟩ = some (.int .i64 X.f) ∧ w.cell? ⟨B, 3, none⟩ = some (.bool X.d) ∧ w.cell? ⟨B, 4, none⟩ = some (.int .i64 vM.gen) ∧ w.cell? ⟨B, 5, none⟩ = some (.slice pa vM.k cap) ∧
   w.cell? ⟨B, 6, none⟩ = some (.int .i64 28) ∧ w.cell? ⟨B, 7, none⟩ = some (.int .i64 184) ∧ w.cell? ⟨B, 8, none⟩ = some (.int .i64 128) ∧ w.cell? ⟨B, 9, none⟩ = some (.slice ao 256 kd) ∧
   Calls Tryz.prog 15 #[.agg #[.slice sa 332 sc, .slice ca X.m cc, .int .i64 X.f, .bool X.d, .int .i64 vM.gen, .slice pa vM.k cap, .int .i64 28, .int .i64 184, .int .i64 128, .slice ao 256 kd]] w fun e w' => e = .returned (.bool true) ∧ Below w.heap.size w w' := by
 obtain ⟨sa, sc, ca, cc, pa, cap, ao, kd, hx⟩ := HasVol.open' hv
 obtain ⟨c0, c1, c2, c3, c4, c5, c6, c7, c8, c9⟩ := vx_cells hx
 refine ⟨sa, sc, ca, cc, pa, cap, ao, kd, c0, c1, c2, c3, c4, c5, c6, c7, c8, c9, ?_⟩
 have := Right_any sa 332 sc ca X.m cc X.f X.d vM.gen pa vM.k cap 28 184 128 ao 256 kd B X.C vM.F vM.T f w (by omega) (by have := hx.mb; omega) hx.cs hx.ls (by show (0 : Nat) ≤ _; omega) hF0 i64_184 hx.st
 rwa [show rvB 332 X.m X.C vM.gen vM.k vM.F vM.T 28 184 128 256 f = true from rv_up hP.u hP.form] at this
theorem vol_mine {w : World} {B : Nat} {X : Dst} {f : Nat → Int} {H : List Hd} (hv : HasVol w (Pl.own B 36) 332 X vM 28 184 128 256 f) (hP : Py X f H) {x : Hd} (hx0 : x ∈ H) :
  ∃ sa sc ca cc pa cap ao kd, (∀ w', Below w.heap.size w w' → VC w' B X sa sc ca cc pa cap ao kd) ∧ ∀ w', Below w.heap.size w w' →
   Calls Tryz.prog 17 #[.agg #[.slice sa 332 sc, .slice ca X.m cc, .int .i64 X.f, .bool X.d, .int .i64 vM.gen, .slice pa vM.k cap, .int .i64 28, .int .i64 184, .int .i64 128, .slice ao 256 kd], .agg (Pt.pV x.1).toArray] w' fun e w'' => e = .returned (.bool true) ∧ Below w'.heap.size w' w'' := by
 obtain ⟨sa, sc, ca, cc, pa, cap, ao, kd, hx⟩ := HasVol.open' hv
 obtain ⟨iA, iB, _⟩ := el_i64 (hP.el x hx0)
 refine ⟨sa, sc, ca, cc, pa, cap, ao, kd, fun w' hb => vx_cells (hx.below hb), fun w' hb => ?_⟩
 have hx' := hx.below hb
 have := Mine_any sa 332 sc ca X.m cc X.f X.d vM.gen pa vM.k cap 28 184 128 ao 256 kd B X.C vM.F vM.T f x.1 w' (by omega) (by have := hx.mb; omega) hx'.cs hx'.ls (by show (0 : Nat) ≤ _; omega) hF0 i64_184 hx'.st iA iB
 rwa [show mnB 332 X.m X.C vM.gen vM.k vM.F vM.T 28 184 128 256 f x.1 = true from hP.mine hx0] at this
set_option maxRecDepth 100000 in
set_option maxHeartbeats 8000000 in
theorem volplays_any (la : Option Addr) (ln lc : Nat) (F : Nat → St9) (w : World) (hl : Lay w w.heap.size w.heap.size la ln lc 5 (fun i => s9V (F i))) (hF : ∀ i, (F i).k < 256 ∧ (F i).i < 256 ∧ (F i).p < 256 ∧ (F i).z < 256) (hkp : Rm.Kp w) :
  Calls Tryz.prog 3 #[.slice la ln lc] w fun e w' => e = .returned (.bool true) ∧ Below w.heap.size w w' := by
 have HAL := Lib.hid (alive9_any w hkp)
 by_cases hbig : 100 < ln
 ·have hx : (100 : Int) < (ln : Int) := by omega
  clear hl hF hkp
  go_enter Tryz.func3, Tryz.ntmps3
  go_wp2_with fail
  refine HAL.out.mono ?_
  rintro _ w1 ⟨rfl, hb1⟩
  dsimp only
  go_wp2_with fail
  go_ret
  exact ⟨rfl, hb1⟩
 have hx : ¬ (100 : Int) < (ln : Int) := by omega
 have HNW := Lib.hid (fun w' (hb : Below w.heap.size w w') => new_v w' (hkp.below hb))
 have HNH := Lib.hid (fun (w1 : World) (sa ca ao : Option Addr) (sc cc kc : Nat) (h : Nv w1 sa sc ca cc ao kc) (h0 : w1.heap.size ≠ 0) => h.has h0 rfl)
 have HPY := Lib.hid (fun (w1 : World) (B : Nat) (hb : Below w.heap.size w w1) (hB : w.heap.size ≤ B) (hv : HasVol w1 (Pl.own B 36) 332 vX1 vM 28 184 128 256 (fun _ => 0)) => play_any w1 (Pl.own B 36) la ln lc F false (fun e => by cases e) hv (hkp.below hb) (((hl.below hb).other (show w.heap.size ≤ B from hB)).more hb.size) hF (by omega))
 have HKB := Lib.hid (fun w1 (hb : Below w.heap.size w w1) => hkp.below hb)
 have h0 := hkp.2
 clear hl hF hkp
 go_enter Tryz.func3, Tryz.ntmps3
 go_wp2_with fail
 refine HAL.out.mono ?_
 rintro _ w1 ⟨rfl, hb1⟩
 clear HAL
 dsimp only
 go_wp2_with fail
 refine (HNW.out w1 hb1).mono ?_
 rintro _ w2 ⟨sa, sc, ca, cc, ao, kc, rfl, hn2, hb2⟩
 have hB2 := hb1.trans (hb2.mono hb1.size)
 have hb3 : Below w2.heap.size w2 (w2.alloc (.cells (nvC sa sc ca cc ao kc) 36)) := (Below.refl _ _).alloc (Nat.le_refl _) _
 have hB3 := hB2.trans (hb3.mono hB2.size)
 have HPL := Lib.hid (HPY.out _ _ hB3 hB2.size (HNH.out _ _ _ _ _ _ _ hn2 (by have := hB2.size; omega)))
 have HB3 := Lib.hid hB3
 have HK3 := Lib.hid (HKB.out _ hB3)
 have hs2 := hB2.size
 have hlt3 : w2.heap.size < (w2.alloc (.cells (nvC sa sc ca cc ao kc) 36)).heap.size := by simp
 clear HNW HNH HPY hn2 hb1 hb2 hb3 hB2 hB3 HKB
 dsimp only
 go_wp2_with (refine @wpList_store_row _ _ _ _ _ _ _ rfl 36 (.tmp 3) (.tmp 17) rfl w2.heap.size (nvC sa sc ca cc ao kc) rfl rfl 36 _ (heap_alloc_new w2 _) (vol_size _ _ _ _ _ _ _ _ _ _) rfl (vol_one _ _ _ _ _ _ _ _ _ _ _ _ _ _ _ _ _ _) ?_; rw [World.setRow_alloc_new]; simp only [Act.put]; generalize w2.alloc (.cells (nvC sa sc ca cc ao kc) 36) = w3 at HPL HB3 HK3 hlt3 ⊢)
 generalize w2.heap.size = B at HPL hs2 hlt3 ⊢
 refine HPL.out.mono ?_
 rintro _ w4 ⟨v, rfl, hA⟩
 obtain ⟨X, f, H, hP, hXm, hHl, _, hM⟩ := hA
 obtain ⟨aH, cH, rfl⟩ := hM.own.shape
 have HP := Lib.hid hP
 have HM := Lib.hid hM
 have hB0 : B ≠ 0 := by omega
 have HKT := Lib.hid (fun w' (hm : Mw w3 (Pl.own B 36) X f H (.slice aH H.length cH) w') => HK3.out.grown hm.t.g hB0)
 have HRT := Lib.hid (fun w' (hm : Mw w3 (Pl.own B 36) X f H (.slice aH H.length cH) w') => vol_right hm.t.v hP)
 clear hP hM HPL HK3
 obtain ⟨sa, sc, ca, cc, pa, cap, ao, kd, c0, c1, c2, c3, c4, c5, c6, c7, c8, c9, hRG⟩ := HRT.out w4 HM.out
 have HRG := Lib.hid hRG
 clear hRG HRT
 dsimp only
 go_wp2_with fail
 refine HRG.out.mono ?_
 rintro _ w5 ⟨rfl, hb5⟩
 have HM5 := Lib.hid (HM.out.below hb5)
 clear HRG HM c0 c1 c2 c3 c4 c5 c6 c7 c8 c9 hb5
 dsimp only
 go_wp2_with fail
 go_loopw [7] (fun i wr => ∃ m : Nat, m ≤ H.length ∧ i = .int .i64 m ∧ Hid (Mw w3 (Pl.own B 36) X f H (.slice aH H.length cH) wr)) (fun i _ => H.length - (intOf i).toNat)
 case atStart => exact ⟨0, by omega, rfl, HM5⟩
 case round =>
  clear HM5
  obtain ⟨m, hm, rfl, hR⟩ := hrel
  by_cases hlt : m < H.length
  ·obtain ⟨bH, rfl, hbH⟩ := hR.out.own.at (by omega)
   obtain ⟨x, hq⟩ : ∃ x, H[m]? = some x := ⟨_, List.getElem?_eq_getElem hlt⟩
   have hxm : x ∈ H := List.mem_of_getElem? hq
   obtain ⟨iA, iB, _⟩ := el_i64 (HP.out.el x hxm)
   obtain ⟨D, hg, hD, hyA, hyB⟩ := HP.out.get hxm
   have HGE := Lib.hid (get_ok hR.out.t.v tabM i64_184 (HKT.out wr hR.out) (HP.out.u.ok (by omega)) (by omega) x.1 iA iB (HP.out.mine hxm) hyA hyB hg ⟨_, rt0⟩)
   rw [bl_same hD] at HGE
   have HQP := Lib.hid (hd_row (OwnH.ptr hR.out.own hq).1)
   have HMI0 := Lib.hid (fun w' (hm : Mw w3 (Pl.own B 36) X f H (.slice (some ⟨bH, 0, none⟩) H.length cH) w') => vol_mine hm.t.v HP.out hxm)
   have HQQ := Lib.hid hq
   have hm0 : (0 : Int) ≤ (m : Int) := by omega
   have hm1 : (m : Int) < (H.length : Int) := by omega
   clear hq hxm iA iB hg hD hyA hyB
   go_wp2_with (refine wpList_load_mid rfl 50 (.tmp 45) rfl bH (m * 162) rfl (Pt.pV x.1) _ (by exact HQP.out) Pt.undP rfl (Pt.sizeP x.1) ?_; simp only [Act.put, aI, aS, aZ])
   refine HGE.out.mono ?_
   rintro _ w6 ⟨rfl, hT6⟩
   have HM6 := Lib.hid (hR.out.call hT6)
   have hb7 : Below w6.heap.size w6 (w6.alloc (.cells (bl x.2).toArray 45)) := (Below.refl _ _).alloc (Nat.le_refl _) _
   have HM7 := Lib.hid (HM6.out.below hb7)
   have H8 := Lib.hid (heap_alloc_new w6 (.cells (bl x.2).toArray 45))
   clear HGE HQP hT6 HM6 hb7 hR
   dsimp only
   go_upto_region 13 with (refine @wpList_store_row _ _ _ _ _ _ _ rfl 45 (.tmp 8) (.tmp 48) rfl w6.heap.size (bl x.2).toArray rfl rfl 45 _ (heap_alloc_new w6 _) (by rw [List.size_toArray]; exact size_bl _) rfl (all_oneCell_toArray (bl_one _)) ?_; rw [World.setRow_alloc_new]; simp only [Act.put]; generalize w6.alloc (.cells (bl x.2).toArray 45) = w7 at HM7 H8 ⊢)
   generalize w6.heap.size = b8 at *
   obtain ⟨sa, sc, ca, cc, pa, cap, ao, kd, hVC, hMI⟩ := HMI0.out w7 HM7.out
   have HVC := Lib.hid hVC
   have HMI := Lib.hid hMI
   have HR8 := Lib.hid (fun w' (hb : Below w7.heap.size w7 w') => row_all ((hb.block b8 (Array.getElem?_eq_some_iff.1 H8.out).1).trans H8.out))
   have HRP := Lib.hid (fun w' (hb : Below w7.heap.size w7 w') => hd_row (OwnH.ptr (HM7.out.below hb).own HQQ.out).1)
   have HRB := Lib.hid (fun w' (hb : Below w7.heap.size w7 w') => hd_blk (OwnH.ptr (HM7.out.below hb).own HQQ.out).1)
   have HEB := Lib.hid (fun W => eq_bl x.2 x.2 W)
   rw [eqB_same] at HEB
   clear hVC hMI HMI0
   refine wp_region_quiet (C := fun w' => Below w7.heap.size w7 w') (by kernel_rfl) (by kernel_rfl) ⟨rfl, rfl, rfl, Nat.le_refl _, fun _ _ => rfl⟩ ?_
   refine q_move _ rfl rfl ?_
   simp only [Act.put, aI, aS, aZ]
   refine q_val (.bool false) rfl (fun w' hw' => by go_simp) ?_
   simp only [Act.put, aI, aS, aZ]
   refine q_move _ rfl rfl ?_
   simp only [Act.put, aI, aS, aZ]
   refine q_loadB 45 (.tmp 8) rfl (by kernel_rfl) b8 0 rfl (bl x.2) _ (fun w' hw' => HR8.out w' hw') undB rfl (size_bl _) ?_
   simp only [Act.put, aI, aS, aZ]
   refine q_move _ rfl (by kernel_rfl) ?_
   simp only [Act.put, aI, aS, aZ]
   refine q_move _ rfl (by kernel_rfl) ?_
   simp only [Act.put, aI, aS, aZ]
   refine q_val (.pointer (some ⟨bH, m * 162, none⟩)) (by kernel_rfl) (fun w' hw' => by go_simp) ?_
   simp only [Act.put, aI, aS, aZ]
   refine q_val (.pointer (some ⟨bH, m * 162 + 34, none⟩)) (by kernel_rfl) (fun w' hw' => by go_simp) ?_
   simp only [Act.put, aI, aS, aZ]
   refine q_loadB 45 (.tmp 57) rfl (by kernel_rfl) bH (m * 162 + 34) rfl (bl x.2) _ (fun w' hw' => HRB.out w' hw') undB rfl (size_bl _) ?_
   simp only [Act.put, aI, aS, aZ]
   refine q_neqV 45 _ (.tmp 53) (.tmp 58) rfl (by kernel_rfl) ((bl x.2).toArray) ((bl x.2).toArray) rfl rfl (true) guard45 (fun w' _ => HEB.out w') ?_
   simp only [Act.put, aI, aS, aZ]
   refine q_val (.bool false) rfl (fun w' hw' => by go_simp) ?_
   simp only [Act.put, aI, aS, aZ]
   refine q_move _ rfl rfl ?_
   simp only [Act.put, aI, aS, aZ]
   refine q_val (.agg #[.slice sa 332 sc, .slice ca X.m cc, .int .i64 X.f, .bool X.d, .int .i64 vM.gen, .slice pa vM.k cap, .int .i64 28, .int .i64 184, .int .i64 128, .slice ao 256 kd]) (by kernel_rfl) (fun w' hw' => by obtain ⟨d0, d1, d2, d3, d4, d5, d6, d7, d8, d9⟩ := HVC.out w' hw'; go_simp) ?_
   simp only [Act.put, aI, aS, aZ]
   refine q_move _ rfl (by kernel_rfl) ?_
   simp only [Act.put, aI, aS, aZ]
   refine q_move _ rfl (by kernel_rfl) ?_
   simp only [Act.put, aI, aS, aZ]
   refine q_val (.pointer (some ⟨bH, m * 162, none⟩)) (by kernel_rfl) (fun w' hw' => by go_simp) ?_
   simp only [Act.put, aI, aS, aZ]
   refine q_val (.pointer (some ⟨bH, m * 162, none⟩)) (by kernel_rfl) (fun w' hw' => by go_simp) ?_
   simp only [Act.put, aI, aS, aZ]
   refine q_loadB 50 (.tmp 66) rfl (by kernel_rfl) bH (m * 162) rfl (Pt.pV x.1) _ (fun w' hw' => HRP.out w' hw') Pt.undP rfl (Pt.sizeP x.1) ?_
   simp only [Act.put, aI, aS, aZ]
   refine q_call 17 _ (.bool true) (by kernel_rfl) (fun w' => by go_simp) (fun w' hw' => (HMI.out w' hw').mono fun e w'' ⟨he, hb⟩ => ⟨he, hw'.trans (hb.mono hw'.size)⟩) ?_
   simp only [Act.put, aI, aS, aZ]
   refine q_val (.bool false) (by kernel_rfl) (fun w' hw' => by go_simp) ?_
   simp only [Act.put, aI, aS, aZ]
   refine q_val (.bool false) rfl (fun w' hw' => by go_simp) ?_
   simp only [Act.put, aI, aS, aZ]
   refine wpQuiet_nil ?_
   intro wz hwz
   have HM8 := Lib.hid (HM7.out.below hwz)
   clear HM7 H8 HR8 HRP HRB HEB HVC HMI hwz
   go_wp2_with fail
   go_roundw
   case rel => exact ⟨m + 1, by omega, by go_num, HM8⟩
   case measure => simp [intOf]; omega
  ·obtain rfl : m = H.length := by omega
   have HBE := Lib.hid (VlQ_below HB3.out hR.out.t.g hs2)
   clear hR
   go_wp2_with fail
   go_ret
   exact ⟨rfl, HBE.out⟩
end Vl
end Go.Proofs.YtonhedefjmkpcaaGreatDoor
