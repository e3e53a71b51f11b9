import Derived.Test.YtonhedefjmkpcaaGreatDoorPVlS
import Derived.Test.YtonhedefjmkpcaaGreatDoorPAl
/- vol: Swap (made by tools/gen_vlswap.py). -/
namespace Go.Proofs.YtonhedefjmkpcaaGreatDoor
set_option maxRecDepth 20000
namespace Vl
open Go.RowKit Dk Gm Eqb Rm Vm Di

attribute [local go_sem] zv29
attribute [local go_sem] Pt.zvP
attribute [local go_sem] zc29
/-- Sw: what holds at each moment -/
structure Sw (base : World) (V : Pl) (n : Nat) (X : Dst) (M : Tab) (A B Z : Int) (k : Nat) (f f' : Nat → Int) (E : Int) (p : Pt.Pn) (bp bn : Nat) (L : Nat → Bool) (u0 u1 u2 u3 u4 : Value) (w' : World) : Prop where
 fa0 : L 0 = true → u0 = .pointer (some ⟨V.b, V.o, none⟩)
 fa1 : L 1 = true → u1 = .pointer (some ⟨V.b, V.o, none⟩)
 fa2 : L 2 = true → u2 = .pointer (some ⟨V.b, V.o + 6, none⟩)
 fa3 : L 3 = true → u3 = .agg (Pt.pV p).toArray
 fa4 : L 4 = true → u4 = .int .i64 E
 wd : Wq base V n X M X M A B Z k f f' (L 4) w'
theorem Sw_kl {L : Nat → Bool} {i k : Nat} {Q : Prop} (h : L k = true → Q) (h1 : (k == i) = false) : (k == i || L k) = true → Q := by
 rw [h1, Bool.false_or]
 exact h
section
variable {base : World} {V : Pl} {n : Nat} {X : Dst} {M : Tab} {A B Z : Int} {k : Nat} {f f' : Nat → Int} {E : Int} {p : Pt.Pn} {bp bn : Nat} {L : Nat → Bool} {u0 u1 u2 u3 u4 : Value} {w' w'' : World}
theorem Sw.set0 (h : Sw base V n X M A B Z k f f' E p bp bn L u0 u1 u2 u3 u4 w') : Sw base V n X M A B Z k f f' E p bp bn (fun j => j == 0 || L j) (.pointer (some ⟨V.b, V.o, none⟩)) u1 u2 u3 u4 w' :=
 ⟨fun _ => rfl, Sw_kl h.fa1 rfl, Sw_kl h.fa2 rfl, Sw_kl h.fa3 rfl, Sw_kl h.fa4 rfl, h.wd⟩
theorem Sw.set1 (h : Sw base V n X M A B Z k f f' E p bp bn L u0 u1 u2 u3 u4 w') : Sw base V n X M A B Z k f f' E p bp bn (fun j => j == 1 || L j) u0 (.pointer (some ⟨V.b, V.o, none⟩)) u2 u3 u4 w' :=
 ⟨Sw_kl h.fa0 rfl, fun _ => rfl, Sw_kl h.fa2 rfl, Sw_kl h.fa3 rfl, Sw_kl h.fa4 rfl, h.wd⟩
theorem Sw.set2 (h : Sw base V n X M A B Z k f f' E p bp bn L u0 u1 u2 u3 u4 w') : Sw base V n X M A B Z k f f' E p bp bn (fun j => j == 2 || L j) u0 u1 (.pointer (some ⟨V.b, V.o + 6, none⟩)) u3 u4 w' :=
 ⟨Sw_kl h.fa0 rfl, Sw_kl h.fa1 rfl, fun _ => rfl, Sw_kl h.fa3 rfl, Sw_kl h.fa4 rfl, h.wd⟩
theorem Sw.set3 (h : Sw base V n X M A B Z k f f' E p bp bn L u0 u1 u2 u3 u4 w') : Sw base V n X M A B Z k f f' E p bp bn (fun j => j == 3 || L j) u0 u1 u2 (.agg (Pt.pV p).toArray) u4 w' :=
 ⟨Sw_kl h.fa0 rfl, Sw_kl h.fa1 rfl, Sw_kl h.fa2 rfl, fun _ => rfl, Sw_kl h.fa4 rfl, h.wd⟩
theorem Sw.set4 (h : Sw base V n X M A B Z k f f' E p bp bn L u0 u1 u2 u3 u4 w') (hw : Wq base V n X M X M A B Z k f f' true w'') : Sw base V n X M A B Z k f f' E p bp bn (fun j => j == 4 || L j) u0 u1 u2 u3 (.int .i64 E) w'' :=
 ⟨Sw_kl h.fa0 rfl, Sw_kl h.fa1 rfl, Sw_kl h.fa2 rfl, Sw_kl h.fa3 rfl, fun _ => rfl, hw⟩
end
def SwInv (x1 x2 x3 x4 x6 x7 x9 x11 x12 x13 x14 x15 x16 x17 x18 x19 x20 x21 x22 x23 x24 x25 x26 x27 x28 x29 x30 x31 x32 x33 x34 x35 x36 x37 x38 x39 x40 x41 x42 x43 x44 x45 x46 x52 : Value) (base : World) (V : Pl) (n : Nat) (X : Dst) (M : Tab) (A B Z : Int) (k : Nat) (f f' : Nat → Int) (E : Int) (p : Pt.Pn) (bp bn : Nat) (L : Nat → Bool) (a' : Act) (w' : World) : Prop :=
 ∃ u0 u1 u2 u3 u4, a' = { tmps := #[.pointer (some ⟨V.b, V.o, none⟩), x1, x2, x3, x4, .pointer (some ⟨bp, 0, none⟩), x6, x7, .pointer (some ⟨bp + 1 + 1, 0, none⟩), x9, .pointer (some ⟨bn, 0, none⟩), x11, x12, x13, x14, x15, x16, x17, x18, x19, x20, x21, x22, x23, x24, x25, x26, x27, x28, x29, x30, x31, x32, x33, x34, x35, x36, x37, x38, x39, x40, x41, x42, x43, x44, x45, x46, u0, u1, u2, u3, u4, x52], defers := [] } ∧ Sw base V n X M A B Z k f f' E p bp bn L u0 u1 u2 u3 u4 w'

set_option maxRecDepth 100000 in
set_option maxHeartbeats 4000000 in
theorem swap_ok_a {w : World} {V : Pl} {n k : Nat} {X : Dst} {M : Tab} {A B Z : Int} {f : Nat → Int} (h : HasVol w V n X M A B Z k f) (hm : TabOk M) (hB : Sp.i64 B) (hkp : Rm.Kp w) (p : Pt.Pn) (hpA : Sp.i64 p.A) (hpB : Sp.i64 p.B) (D : Nat → Int) (c : Int) (hD : byt D) (hyes : mn n X M A B Z k f p = true) (hc : alB c = true) (hk : 0 < k) (hM : M.k = 0) (hf : Pt.fitsB p D = false) {p1 : Pt.Pn} {E1 : Int} {X1 : Dst} {f1 : Nat → Int} (HAD : ∀ w', Below w.heap.size w w' → HasVol w' V n X M A B Z k f → Calls Tryz.prog 46 #[.pointer (some ⟨V.b, V.o, none⟩), .agg (bl D).toArray, .int .i64 c] w' fun e w'' => e = .returned (.tuple #[.agg (Pt.pV p1).toArray, .int .i64 E1]) ∧ Tv w' V n X1 M A B Z k f1 w'') (hE : E1 = 0) {E : Int} (hdE : Sp.drE A B Z k f1 p = E) {F : Nat → Int} (hdF : Sp.drF A B Z k f1 p = F) :
  Calls Tryz.prog 54 #[.pointer (some ⟨V.b, V.o, none⟩), .agg (Pt.pV p).toArray, .agg (bl D).toArray, .int .i64 c] w fun e w' =>  e = .returned (.tuple #[.agg (Pt.pV p1).toArray, .int .i64 0]) ∧ Tv w V n X1 M A B Z k F w' := by
 obtain ⟨W, hW, hS⟩ := sb_start w p D
 have HMI := Lib.hid (mine_v (h.below hS.be) hm hB p hpA hpB)
 rw [hyes] at HMI
 have HA := Lib.hid (allowed_any c)
 rw [hc] at HA
 have HS := Lib.hid hS
 have q0 := Pt.row_pt hS.p
 have hbe0 := hS.be
 have HPR := Lib.hid (fun w' (hb : Below W.heap.size W w') => Pt.row_pt (hS.below hb).p)
 have HDR0 := Lib.hid (fun w' (hb : Below W.heap.size W w') => row_all (hS.below hb).d)
 have HFT := Lib.hid (fun w' (hb : Below W.heap.size W w') => Pt.fits_any p D w' hD ((hkp.below hbe0).below hb))
 have HIH := Lib.hid (fun w' => Pt.ishole_any p w')
 have HCT := Lib.hid (fun w' => count_any p w')
 rw [hf] at HFT
 have HV0 := Lib.hid h
 replace HAD := Lib.hid HAD
 subst hE
 have HDR := Lib.hid (fun w' (hv : HasVol w' V n X1 M A B Z k f1) => drop_v hv hk hB p hpA hpB)
 rw [hdE, hdF] at HDR
 clear h hm hB hpA hpB hkp hD hyes hc hS hf hdE hdF
 go_enter Tryz.func54, Tryz.ntmps54
 rw [hW] at q0
 go_wp2_with (refine @wpList_loadG _ _ _ _ _ _ _ (by kernel_rfl) 50 (.tmp 5) rfl w.heap.size 0 rfl (Pt.pV p) _ q0 Pt.undP rfl (Pt.sizeP p) ?_; simp only [Act.put, aI, aS, aZ])
 try rw [Pt.zrow]
 try rw [← hW]
 clear hW q0
 refine HMI.out.mono ?_
 rintro _ w1 ⟨rfl, hb1⟩
 clear HMI
 dsimp only
 go_wp2_with fail
 refine (HA.out w1).mono ?_
 rintro _ _ ⟨rfl, rfl⟩
 clear HA
 dsimp only
 go_wp2_with (first
   | (refine @wpList_loadG _ _ _ _ _ _ _ (by kernel_rfl) 50 (.tmp 5) rfl w.heap.size 0 rfl (Pt.pV p) _ (HPR.out _ (by assumption)) Pt.undP rfl (Pt.sizeP p) ?_; simp only [Act.put, aI, aS, aZ])
   | (refine @wpList_loadG _ _ _ _ _ _ _ (by kernel_rfl) 45 (.tmp 6) rfl (w.heap.size + 1) 0 rfl (bl D) _ (HDR0.out _ (by assumption)) undB rfl (size_bl D) ?_; simp only [Act.put, aI, aS, aZ]))
 refine (HFT.out w1 hb1).mono ?_
 rintro _ w2 ⟨rfl, hb2⟩
 replace hb2 := hb1.trans (hb2.mono hb1.size)
 clear HFT hb1
 dsimp only
 clear HIH HCT
 have hv := HV0.out.below (hbe0.trans (hb2.mono hbe0.size))
 go_wp2_with fail
 refine wp_load_mid 45 (.tmp 6) rfl (w.heap.size + 1) 0 rfl (bl D) _ (HDR0.out _ hb2) undB rfl (size_bl D) ?_
 simp only [Act.put, aI, aS, aZ]
 go_wp2_with fail
 refine (HAD.out _ (hbe0.trans (hb2.mono hbe0.size)) hv).mono ?_
 rintro _ w4 ⟨rfl, hT4⟩
 have hvl := HV0.out.lt
 have hsW := HS.out.sz
 have hs3 := hb2.size
 have hs4 := hT4.g.size
 have hS3 := HS.out.below hb2
 have hz4 := (hT4.g.block (w.heap.size + 1 + 1) (by omega) (by simp; omega)).trans hS3.r
 have hp4 := (hT4.g.block w.heap.size (by omega) (by simp; omega)).trans hS3.p
 have hTW : Tv w V n X1 M A B Z k f1 w4 := (Tv.of HV0.out (hbe0.trans (hb2.mono hbe0.size))).trans hT4
 have hO4 := ((Off.new (b := w.heap.size + 1 + 1) HV0.out hk (by omega)).below hvl (hbe0.trans (hb2.mono hbe0.size))).loc (by omega) hT4.l
 have hb5 : Below w4.heap.size w4 (w4.alloc (.cells (Pt.pV p1).toArray 50)) := (Below.refl _ _).alloc (Nat.le_refl _) _
 have HT5 := Lib.hid (hTW.below hb5)
 have HO5 := Lib.hid (hO4.below (hTW.v.lt) hb5)
 have hz5 := (hb5.block (w.heap.size + 1 + 1) (by omega)).trans hz4
 have hp5 := (hb5.block w.heap.size (by omega)).trans hp4
 have hn5 := heap_alloc_new w4 (.cells (Pt.pV p1).toArray 50)
 have hs5 : w4.heap.size + 1 ≤ (w4.alloc (.cells (Pt.pV p1).toArray 50)).heap.size := by simp
 clear hTW hO4 hb5 hz4 hp4 HV0 HAD hT4 hS3 HS hb2 hbe0 HPR HDR0 hv 
 dsimp only
 go_wp2_with (refine @wpList_store_row _ _ _ _ _ _ _ rfl 50 (.tmp 10) (.tmp 41) rfl w4.heap.size (Pt.pV p1).toArray rfl rfl 50 _ (heap_alloc_new w4 _) (Pt.sizeP' _) rfl (Pt.pV_all _) ?_; rw [World.setRow_alloc_new]; simp only [Act.put]; generalize w4.alloc (.cells (Pt.pV p1).toArray 50) = w5 at HT5 HO5 hz5 hp5 hn5 hs5 ⊢)
 have hbn : ∃ bn, w4.heap.size = bn ∧ w.heap.size + 3 ≤ bn := ⟨_, rfl, by omega⟩
 obtain ⟨bn, hbn, hbn3⟩ := hbn
 rw [hbn] at hn5 hs5 ⊢
 clear hbn hs3 hs4
 have HZ5 := Lib.hid hz5
 have HN5 := Lib.hid hn5
 have HPB := Lib.hid (fun w' (hg : w5.grownBy w' (some V.b)) => Pt.row_pt ((hg.block w.heap.size (by omega) (by simp; omega)).trans hp5))
 have HSTART := Lib.hid (Wq.start (X' := X1) (M' := M) (f' := F) HT5.out.v)
 clear hz5 hn5 hp5
 try go_wp2_with fail
 refine QuietTail2.regionInv (n := 5) (Inv := SwInv _ _ _ _ _ _ _ _ _ _ _ _ _ _ _ _ _ _ _ _ _ _ _ _ _ _ _ _ _ _ _ _ _ _ _ _ _ _ _ _ _ _ _ _ w5 V n X1 M A B Z k (f1) (F) E p w.heap.size bn) (by kernel_rfl) (by decide) (by kernel_rfl) ⟨_, _, _, _, _, rfl, ⟨by simp, by simp, by simp, by simp, by simp, ?_⟩⟩ ?step ?fin
 exact HSTART.out
 case step =>
  rintro i o hi ho L a' w' ⟨u0, u1, u2, u3, u4, rfl, TT⟩ hL hpre
  match i, hi with
  | 0, _ =>
   simp at ho
   subst ho
   go_simp
   exact ⟨_, u1, u2, u3, u4, rfl, TT.set0⟩
  | 1, _ =>
   simp at ho
   subst ho
   obtain rfl := TT.fa0 (hpre 0 (by kernel_rfl))
   go_simp
   exact ⟨_, _, u2, u3, u4, rfl, TT.set1⟩
  | 2, _ =>
   simp at ho
   subst ho
   obtain rfl := TT.fa1 (hpre 1 (by kernel_rfl))
   go_simp
   exact ⟨u0, _, _, u3, u4, rfl, TT.set2⟩
  | 3, _ =>
   simp at ho
   subst ho
   refine wp_load_mid 50 (.tmp 5) rfl w.heap.size 0 rfl (Pt.pV p) _ (HPB.out w' TT.wd.g) Pt.undP rfl (Pt.sizeP p) ?_
   simp only [Act.put, aI, aS, aZ]
   exact ⟨u0, u1, u2, _, u4, rfl, TT.set3⟩
  | 4, _ =>
   simp at ho
   subst ho
   obtain rfl := TT.fa2 (hpre 2 (by kernel_rfl))
   obtain rfl := TT.fa3 (hpre 3 (by kernel_rfl))
   go_simp
   refine (HDR.out w' (TT.wd.p0 hL)).mono ?_
   rintro _ w'' ⟨rfl, hT⟩
   exact ⟨u0, u1, _, _, _, rfl, TT.set4 (TT.wd.call hL hT)⟩
  | i + 5, h => omega
 case fin =>
  rintro L a' w' hall ⟨u0, u1, u2, u3, u4, rfl, TT⟩
  have hWD : Wq w5 V n X1 M X1 M A B Z k f1 F true w' := by have := TT.wd; rwa [hall 4 (by omega)] at this
  have hT : Tv w5 V n X1 M A B Z k F w' := ⟨hWD.p1 rfl, hWD.g, hWD.l⟩
  have HT6 := Lib.hid (HT5.out.trans hT)
  have HO6 := Lib.hid (HO5.out.loc (by omega) hT.l)
  have hz6 := (hWD.g.block (w.heap.size + 1 + 1) (by omega) (by simp; omega)).trans HZ5.out
  have hn6 := Pt.row_pt ((hWD.g.block bn (by omega) (by simp; omega)).trans HN5.out)
  clear TT hWD HPB HDR HT5 HO5 HSTART HZ5 HN5 hT
  refine wpList_nil ?_
  go_wp2_with (first
   | (refine @wpList_loadG _ _ _ _ _ _ _ (by kernel_rfl) 50 (.tmp 10) rfl bn 0 rfl (Pt.pV p1) _ hn6 Pt.undP rfl (Pt.sizeP _) ?_; simp only [Act.put, aI, aS, aZ])
   | (refine @wpList_store_row _ _ _ _ _ _ _ rfl 50 (.tmp 8) (.tmp 52) rfl (w.heap.size + 1 + 1) (Pt.pV p1).toArray rfl rfl 50 _ hz6 (Pt.sizeP' _) rfl (Pt.pV_all _) ?_; simp only [Act.put]))
  refine bodyPost_ret (Pt.results_2p rfl rfl rfl (setRow_heap _ _ _ _ _ _ hz6)) rfl ?_
  obtain ⟨hf1, hf2⟩ := hasVol_only HT6.out.v hk HO6.out hz6 (by decide) (by decide) (.inl hM) (grown_row (Pt.pV p1).toArray)
  exact ⟨rfl, hf1, grown_only HT6.out.g (by omega) (grown_row _), HT6.out.l.trans (Loc.same (World.cell?_of_block (setRow_other _ _ _ _ (show V.b ≠ w.heap.size + 1 + 1 by omega)))) HT6.out.g.size⟩
end Vl
end Go.Proofs.YtonhedefjmkpcaaGreatDoor
/- vol: Swap (made by tools/gen_vlswap.py). -/
namespace Go.Proofs.YtonhedefjmkpcaaGreatDoor
set_option maxRecDepth 20000
namespace Vl
open Go.RowKit Dk Gm Eqb Rm Vm Di

attribute [local go_sem] zv29
attribute [local go_sem] Pt.zvP
attribute [local go_sem] zc29
set_option maxRecDepth 100000 in
set_option maxHeartbeats 4000000 in
theorem swap_ok_b {w : World} {V : Pl} {n k : Nat} {X : Dst} {M : Tab} {A B Z : Int} {f : Nat → Int} (h : HasVol w V n X M A B Z k f) (hm : TabOk M) (hB : Sp.i64 B) (hkp : Rm.Kp w) (p : Pt.Pn) (hpA : Sp.i64 p.A) (hpB : Sp.i64 p.B) (D : Nat → Int) (c : Int) (hD : byt D) (hyes : mn n X M A B Z k f p = true) (hc : alB c = true) (hk : 0 < k) (hM : M.k = 0) (hf : Pt.fitsB p D = true) (hi : Pt.isHole p = false) (hq : (cntI p == c) = false) {p1 : Pt.Pn} {E1 : Int} {X1 : Dst} {f1 : Nat → Int} (HAD : ∀ w', Below w.heap.size w w' → HasVol w' V n X M A B Z k f → Calls Tryz.prog 46 #[.pointer (some ⟨V.b, V.o, none⟩), .agg (bl D).toArray, .int .i64 c] w' fun e w'' => e = .returned (.tuple #[.agg (Pt.pV p1).toArray, .int .i64 E1]) ∧ Tv w' V n X1 M A B Z k f1 w'') (hE : E1 = 0) {E : Int} (hdE : Sp.drE A B Z k f1 p = E) {F : Nat → Int} (hdF : Sp.drF A B Z k f1 p = F) :
  Calls Tryz.prog 54 #[.pointer (some ⟨V.b, V.o, none⟩), .agg (Pt.pV p).toArray, .agg (bl D).toArray, .int .i64 c] w fun e w' =>  e = .returned (.tuple #[.agg (Pt.pV p1).toArray, .int .i64 0]) ∧ Tv w V n X1 M A B Z k F w' := by
 obtain ⟨W, hW, hS⟩ := sb_start w p D
 have HMI := Lib.hid (mine_v (h.below hS.be) hm hB p hpA hpB)
 rw [hyes] at HMI
 have HA := Lib.hid (allowed_any c)
 rw [hc] at HA
 have HS := Lib.hid hS
 have q0 := Pt.row_pt hS.p
 have hbe0 := hS.be
 have HPR := Lib.hid (fun w' (hb : Below W.heap.size W w') => Pt.row_pt (hS.below hb).p)
 have HDR0 := Lib.hid (fun w' (hb : Below W.heap.size W w') => row_all (hS.below hb).d)
 have HFT := Lib.hid (fun w' (hb : Below W.heap.size W w') => Pt.fits_any p D w' hD ((hkp.below hbe0).below hb))
 have HIH := Lib.hid (fun w' => Pt.ishole_any p w')
 have HCT := Lib.hid (fun w' => count_any p w')
 rw [hf] at HFT
 have HV0 := Lib.hid h
 replace HAD := Lib.hid HAD
 subst hE
 have HDR := Lib.hid (fun w' (hv : HasVol w' V n X1 M A B Z k f1) => drop_v hv hk hB p hpA hpB)
 rw [hdE, hdF] at HDR
 clear h hm hB hpA hpB hkp hD hyes hc hS hf hdE hdF
 go_enter Tryz.func54, Tryz.ntmps54
 rw [hW] at q0
 go_wp2_with (refine @wpList_loadG _ _ _ _ _ _ _ (by kernel_rfl) 50 (.tmp 5) rfl w.heap.size 0 rfl (Pt.pV p) _ q0 Pt.undP rfl (Pt.sizeP p) ?_; simp only [Act.put, aI, aS, aZ])
 try rw [Pt.zrow]
 try rw [← hW]
 clear hW q0
 refine HMI.out.mono ?_
 rintro _ w1 ⟨rfl, hb1⟩
 clear HMI
 dsimp only
 go_wp2_with fail
 refine (HA.out w1).mono ?_
 rintro _ _ ⟨rfl, rfl⟩
 clear HA
 dsimp only
 go_wp2_with (first
   | (refine @wpList_loadG _ _ _ _ _ _ _ (by kernel_rfl) 50 (.tmp 5) rfl w.heap.size 0 rfl (Pt.pV p) _ (HPR.out _ (by assumption)) Pt.undP rfl (Pt.sizeP p) ?_; simp only [Act.put, aI, aS, aZ])
   | (refine @wpList_loadG _ _ _ _ _ _ _ (by kernel_rfl) 45 (.tmp 6) rfl (w.heap.size + 1) 0 rfl (bl D) _ (HDR0.out _ (by assumption)) undB rfl (size_bl D) ?_; simp only [Act.put, aI, aS, aZ]))
 refine (HFT.out w1 hb1).mono ?_
 rintro _ w2 ⟨rfl, hb2⟩
 replace hb2 := hb1.trans (hb2.mono hb1.size)
 clear HFT hb1
 dsimp only
 go_wp2_with (first
   | (refine @wpList_loadG _ _ _ _ _ _ _ (by kernel_rfl) 50 (.tmp 5) rfl w.heap.size 0 rfl (Pt.pV p) _ (HPR.out _ (by assumption)) Pt.undP rfl (Pt.sizeP p) ?_; simp only [Act.put, aI, aS, aZ])
   | (refine @wpList_loadG _ _ _ _ _ _ _ (by kernel_rfl) 45 (.tmp 6) rfl (w.heap.size + 1) 0 rfl (bl D) _ (HDR0.out _ (by assumption)) undB rfl (size_bl D) ?_; simp only [Act.put, aI, aS, aZ]))
 refine (HIH.out w2).mono ?_
 rintro _ w3 ⟨rfl, hb3⟩
 replace hb3 := hb2.trans (hb3.mono hb2.size)
 clear HIH hb2
 rw [hi]
 dsimp only
 go_wp2_with (first
   | (refine @wpList_loadG _ _ _ _ _ _ _ (by kernel_rfl) 50 (.tmp 5) rfl w.heap.size 0 rfl (Pt.pV p) _ (HPR.out _ (by assumption)) Pt.undP rfl (Pt.sizeP p) ?_; simp only [Act.put, aI, aS, aZ])
   | (refine @wpList_loadG _ _ _ _ _ _ _ (by kernel_rfl) 45 (.tmp 6) rfl (w.heap.size + 1) 0 rfl (bl D) _ (HDR0.out _ (by assumption)) undB rfl (size_bl D) ?_; simp only [Act.put, aI, aS, aZ]))
 refine (HCT.out w3).mono ?_
 rintro _ w4 ⟨rfl, hb4⟩
 replace hb4 := hb3.trans (hb4.mono hb3.size)
 clear HCT hb3
 dsimp only
 have hv := HV0.out.below (hbe0.trans (hb4.mono hbe0.size))
 go_wp2_with (first
   | (refine @wpList_loadG _ _ _ _ _ _ _ (by kernel_rfl) 50 (.tmp 5) rfl w.heap.size 0 rfl (Pt.pV p) _ (HPR.out _ (by assumption)) Pt.undP rfl (Pt.sizeP p) ?_; simp only [Act.put, aI, aS, aZ])
   | (refine @wpList_loadG _ _ _ _ _ _ _ (by kernel_rfl) 45 (.tmp 6) rfl (w.heap.size + 1) 0 rfl (bl D) _ (HDR0.out _ (by assumption)) undB rfl (size_bl D) ?_; simp only [Act.put, aI, aS, aZ]))
 refine (HAD.out _ (hbe0.trans (hb4.mono hbe0.size)) hv).mono ?_
 rintro _ w4 ⟨rfl, hT4⟩
 have hvl := HV0.out.lt
 have hsW := HS.out.sz
 have hs3 := hb4.size
 have hs4 := hT4.g.size
 have hS3 := HS.out.below hb4
 have hz4 := (hT4.g.block (w.heap.size + 1 + 1) (by omega) (by simp; omega)).trans hS3.r
 have hp4 := (hT4.g.block w.heap.size (by omega) (by simp; omega)).trans hS3.p
 have hTW : Tv w V n X1 M A B Z k f1 w4 := (Tv.of HV0.out (hbe0.trans (hb4.mono hbe0.size))).trans hT4
 have hO4 := ((Off.new (b := w.heap.size + 1 + 1) HV0.out hk (by omega)).below hvl (hbe0.trans (hb4.mono hbe0.size))).loc (by omega) hT4.l
 have hb5 : Below w4.heap.size w4 (w4.alloc (.cells (Pt.pV p1).toArray 50)) := (Below.refl _ _).alloc (Nat.le_refl _) _
 have HT5 := Lib.hid (hTW.below hb5)
 have HO5 := Lib.hid (hO4.below (hTW.v.lt) hb5)
 have hz5 := (hb5.block (w.heap.size + 1 + 1) (by omega)).trans hz4
 have hp5 := (hb5.block w.heap.size (by omega)).trans hp4
 have hn5 := heap_alloc_new w4 (.cells (Pt.pV p1).toArray 50)
 have hs5 : w4.heap.size + 1 ≤ (w4.alloc (.cells (Pt.pV p1).toArray 50)).heap.size := by simp
 clear hTW hO4 hb5 hz4 hp4 HV0 HAD hT4 hS3 HS hb4 hbe0 HPR HDR0 hv 
 dsimp only
 go_wp2_with (refine @wpList_store_row _ _ _ _ _ _ _ rfl 50 (.tmp 10) (.tmp 41) rfl w4.heap.size (Pt.pV p1).toArray rfl rfl 50 _ (heap_alloc_new w4 _) (Pt.sizeP' _) rfl (Pt.pV_all _) ?_; rw [World.setRow_alloc_new]; simp only [Act.put]; generalize w4.alloc (.cells (Pt.pV p1).toArray 50) = w5 at HT5 HO5 hz5 hp5 hn5 hs5 ⊢)
 have hbn : ∃ bn, w4.heap.size = bn ∧ w.heap.size + 3 ≤ bn := ⟨_, rfl, by omega⟩
 obtain ⟨bn, hbn, hbn3⟩ := hbn
 rw [hbn] at hn5 hs5 ⊢
 clear hbn hs3 hs4
 have HZ5 := Lib.hid hz5
 have HN5 := Lib.hid hn5
 have HPB := Lib.hid (fun w' (hg : w5.grownBy w' (some V.b)) => Pt.row_pt ((hg.block w.heap.size (by omega) (by simp; omega)).trans hp5))
 have HSTART := Lib.hid (Wq.start (X' := X1) (M' := M) (f' := F) HT5.out.v)
 clear hz5 hn5 hp5
 try go_wp2_with fail
 refine QuietTail2.regionInv (n := 5) (Inv := SwInv _ _ _ _ _ _ _ _ _ _ _ _ _ _ _ _ _ _ _ _ _ _ _ _ _ _ _ _ _ _ _ _ _ _ _ _ _ _ _ _ _ _ _ _ w5 V n X1 M A B Z k (f1) (F) E p w.heap.size bn) (by kernel_rfl) (by decide) (by kernel_rfl) ⟨_, _, _, _, _, rfl, ⟨by simp, by simp, by simp, by simp, by simp, ?_⟩⟩ ?step ?fin
 exact HSTART.out
 case step =>
  rintro i o hi ho L a' w' ⟨u0, u1, u2, u3, u4, rfl, TT⟩ hL hpre
  match i, hi with
  | 0, _ =>
   simp at ho
   subst ho
   go_simp
   exact ⟨_, u1, u2, u3, u4, rfl, TT.set0⟩
  | 1, _ =>
   simp at ho
   subst ho
   obtain rfl := TT.fa0 (hpre 0 (by kernel_rfl))
   go_simp
   exact ⟨_, _, u2, u3, u4, rfl, TT.set1⟩
  | 2, _ =>
   simp at ho
   subst ho
   obtain rfl := TT.fa1 (hpre 1 (by kernel_rfl))
   go_simp
   exact ⟨u0, _, _, u3, u4, rfl, TT.set2⟩
  | 3, _ =>
   simp at ho
   subst ho
   refine wp_load_mid 50 (.tmp 5) rfl w.heap.size 0 rfl (Pt.pV p) _ (HPB.out w' TT.wd.g) Pt.undP rfl (Pt.sizeP p) ?_
   simp only [Act.put, aI, aS, aZ]
   exact ⟨u0, u1, u2, _, u4, rfl, TT.set3⟩
  | 4, _ =>
   simp at ho
   subst ho
   obtain rfl := TT.fa2 (hpre 2 (by kernel_rfl))
   obtain rfl := TT.fa3 (hpre 3 (by kernel_rfl))
   go_simp
   refine (HDR.out w' (TT.wd.p0 hL)).mono ?_
   rintro _ w'' ⟨rfl, hT⟩
   exact ⟨u0, u1, _, _, _, rfl, TT.set4 (TT.wd.call hL hT)⟩
  | i + 5, h => omega
 case fin =>
  rintro L a' w' hall ⟨u0, u1, u2, u3, u4, rfl, TT⟩
  have hWD : Wq w5 V n X1 M X1 M A B Z k f1 F true w' := by have := TT.wd; rwa [hall 4 (by omega)] at this
  have hT : Tv w5 V n X1 M A B Z k F w' := ⟨hWD.p1 rfl, hWD.g, hWD.l⟩
  have HT6 := Lib.hid (HT5.out.trans hT)
  have HO6 := Lib.hid (HO5.out.loc (by omega) hT.l)
  have hz6 := (hWD.g.block (w.heap.size + 1 + 1) (by omega) (by simp; omega)).trans HZ5.out
  have hn6 := Pt.row_pt ((hWD.g.block bn (by omega) (by simp; omega)).trans HN5.out)
  clear TT hWD HPB HDR HT5 HO5 HSTART HZ5 HN5 hT
  refine wpList_nil ?_
  go_wp2_with (first
   | (refine @wpList_loadG _ _ _ _ _ _ _ (by kernel_rfl) 50 (.tmp 10) rfl bn 0 rfl (Pt.pV p1) _ hn6 Pt.undP rfl (Pt.sizeP _) ?_; simp only [Act.put, aI, aS, aZ])
   | (refine @wpList_store_row _ _ _ _ _ _ _ rfl 50 (.tmp 8) (.tmp 52) rfl (w.heap.size + 1 + 1) (Pt.pV p1).toArray rfl rfl 50 _ hz6 (Pt.sizeP' _) rfl (Pt.pV_all _) ?_; simp only [Act.put]))
  refine bodyPost_ret (Pt.results_2p rfl rfl rfl (setRow_heap _ _ _ _ _ _ hz6)) rfl ?_
  obtain ⟨hf1, hf2⟩ := hasVol_only HT6.out.v hk HO6.out hz6 (by decide) (by decide) (.inl hM) (grown_row (Pt.pV p1).toArray)
  exact ⟨rfl, hf1, grown_only HT6.out.g (by omega) (grown_row _), HT6.out.l.trans (Loc.same (World.cell?_of_block (setRow_other _ _ _ _ (show V.b ≠ w.heap.size + 1 + 1 by omega)))) HT6.out.g.size⟩
end Vl
end Go.Proofs.YtonhedefjmkpcaaGreatDoor
