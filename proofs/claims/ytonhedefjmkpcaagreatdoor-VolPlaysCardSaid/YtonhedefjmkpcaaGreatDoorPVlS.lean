import Derived.Test.YtonhedefjmkpcaaGreatDoorPVlL
import Derived.Test.YtonhedefjmkpcaaGreatDoorPAl
/- vol: what Drop and Swap refuse. -/
namespace Go.Proofs.YtonhedefjmkpcaaGreatDoor
set_option maxRecDepth 20000
namespace Vl
open Go.RowKit Dk Gm Eqb Rm Vm Di

attribute [local go_sem] zv29
attribute [local go_sem] Pt.zvP
attribute [local go_sem] zc29
/-- the boxes of Swap -/
structure Sb (w : World) (p : Pt.Pn) (D : Nat → Int) (w' : World) : Prop where
 be : Below w.heap.size w w'
 sz : w.heap.size + 3 ≤ w'.heap.size
 p : w'.heap[w.heap.size]? = some (.cells (Pt.pV p).toArray 50 (0, 0))
 d : w'.heap[w.heap.size + 1]? = some (.cells (bl D).toArray 45 (0, 0))
 r : w'.heap[w.heap.size + 1 + 1]? = some (.cells (Pt.pV Pt.pz).toArray 50 (0, 0))
theorem Sb.below {w w' w'' : World} {p : Pt.Pn} {D : Nat → Int} (h : Sb w p D w') (hb : Below w'.heap.size w' w'') : Sb w p D w'' :=
 ⟨h.be.trans (hb.mono h.be.size), Nat.le_trans h.sz hb.size, (hb.block _ (by have := h.sz; omega)).trans h.p, (hb.block _ (by have := h.sz; omega)).trans h.d, (hb.block _ (by have := h.sz; omega)).trans h.r⟩
theorem sb_start (w : World) (p : Pt.Pn) (D : Nat → Int) : ∃ W, W = ((w.alloc (.cells (Pt.pV p).toArray 50)).alloc (.cells (bl D).toArray 45)).alloc (.cells (Pt.pV Pt.pz).toArray 50) ∧ Sb w p D W := by
 have b1 : Below w.heap.size w (w.alloc (.cells (Pt.pV p).toArray 50)) := (Below.refl _ _).alloc (Nat.le_refl _) _
 have h1 := heap_alloc_new w (.cells (Pt.pV p).toArray 50)
 have s1 : (w.alloc (.cells (Pt.pV p).toArray 50)).heap.size = w.heap.size + 1 := by simp
 generalize w.alloc (.cells (Pt.pV p).toArray 50) = w1 at *
 have b2 : Below w1.heap.size w1 (w1.alloc (.cells (bl D).toArray 45)) := (Below.refl _ _).alloc (Nat.le_refl _) _
 have h2 := heap_alloc_new w1 (.cells (bl D).toArray 45)
 have s2 : (w1.alloc (.cells (bl D).toArray 45)).heap.size = w.heap.size + 2 := by simp [s1]
 generalize w1.alloc (.cells (bl D).toArray 45) = w2 at *
 refine ⟨_, rfl, ?_⟩
 have b3 : Below w2.heap.size w2 (w2.alloc (.cells (Pt.pV Pt.pz).toArray 50)) := (Below.refl _ _).alloc (Nat.le_refl _) _
 have h3 := heap_alloc_new w2 (.cells (Pt.pV Pt.pz).toArray 50)
 have s3 : (w2.alloc (.cells (Pt.pV Pt.pz).toArray 50)).heap.size = w.heap.size + 3 := by simp [s2]
 rw [s1] at h2
 rw [s2] at h3
 refine ⟨(b1.trans (b2.mono (by omega))).trans (b3.mono (by omega)), by omega, ?_, ?_, h3⟩
 ·exact (b3.block _ (by omega)).trans ((b2.block _ (by omega)).trans h1)
 ·exact (b3.block _ (by omega)).trans h2

end Vl
end Go.Proofs.YtonhedefjmkpcaaGreatDoor
/- vol: one writing call in a drawn region; Drop, count (made by tools/gen_vlswap.py). -/
namespace Go.Proofs.YtonhedefjmkpcaaGreatDoor
set_option maxRecDepth 20000
namespace Vl
open Go.RowKit Dk Gm Eqb Rm Vm Di

attribute [local go_sem] zv29
attribute [local go_sem] Pt.zvP
attribute [local go_sem] zc29
/-- what holds at each moment: is the call done? -/
structure Wq (base : World) (V : Pl) (n : Nat) (X : Dst) (M : Tab) (X' : Dst) (M' : Tab) (A B Z : Int) (k : Nat) (f f' : Nat → Int) (bc : Bool) (w' : World) : Prop where
 g : base.grownBy w' (some V.b)
 l : Loc base V w'
 p0 : bc = false → HasVol w' V n X M A B Z k f
 p1 : bc = true → HasVol w' V n X' M' A B Z k f'
section
variable {base : World} {V : Pl} {n : Nat} {X X' : Dst} {M M' : Tab} {A B Z : Int} {k : Nat} {f f' : Nat → Int} {bc : Bool} {w' w'' : World}
theorem Wq.start (h : HasVol base V n X M A B Z k f) : Wq base V n X M X' M' A B Z k f f' false { base with drawn := base.drawn + 1 } :=
 ⟨⟨rfl, rfl, rfl, Nat.le_refl _, fun _ _ _ => rfl⟩, fun _ _ _ k c e => .inr ⟨k, c, e⟩, fun _ => h.below ⟨rfl, rfl, rfl, Nat.le_refl _, fun _ _ => rfl⟩, (fun e => by cases e)⟩
theorem Wq.call (h : Wq base V n X M X' M' A B Z k f f' bc w') (_hc : bc = false) (ht : Tv w' V n X' M' A B Z k f' w'') : Wq base V n X M X' M' A B Z k f f' true w'' :=
 ⟨Dk.only_trans h.g ht.g, h.l.trans ht.l h.g.size, (fun e => by cases e), fun _ => ht.v⟩
end
/-- Dp: what holds at each moment -/
structure Dp (base : World) (V : Pl) (n : Nat) (X : Dst) (M : Tab) (A B Z : Int) (k : Nat) (f f' : Nat → Int) (E : Int) (p : Pt.Pn) (bp : Nat) (L : Nat → Bool) (u0 u1 u2 u3 u4 u5 : Value) (w' : World) : Prop where
 fa0 : L 0 = true → u0 = .pointer (some ⟨V.b, V.o, none⟩)
 fa1 : L 1 = true → u1 = .pointer (some ⟨V.b, V.o, none⟩)
 fa2 : L 2 = true → u2 = .pointer (some ⟨V.b, V.o + 6, none⟩)
 fa3 : L 3 = true → u3 = .agg (Pt.pV p).toArray
 fa4 : L 4 = true → u4 = .int .i64 E
 fa5 : L 5 = true → u5 = .int .i64 E
 wd : Wq base V n X M X M A B Z k f f' (L 4) w'
theorem Dp_kl {L : Nat → Bool} {i k : Nat} {Q : Prop} (h : L k = true → Q) (h1 : (k == i) = false) : (k == i || L k) = true → Q := by
 rw [h1, Bool.false_or]
 exact h
section
variable {base : World} {V : Pl} {n : Nat} {X : Dst} {M : Tab} {A B Z : Int} {k : Nat} {f f' : Nat → Int} {E : Int} {p : Pt.Pn} {bp : Nat} {L : Nat → Bool} {u0 u1 u2 u3 u4 u5 : Value} {w' w'' : World}
theorem Dp.set0 (h : Dp base V n X M A B Z k f f' E p bp L u0 u1 u2 u3 u4 u5 w') : Dp base V n X M A B Z k f f' E p bp (fun j => j == 0 || L j) (.pointer (some ⟨V.b, V.o, none⟩)) u1 u2 u3 u4 u5 w' :=
 ⟨fun _ => rfl, Dp_kl h.fa1 rfl, Dp_kl h.fa2 rfl, Dp_kl h.fa3 rfl, Dp_kl h.fa4 rfl, Dp_kl h.fa5 rfl, h.wd⟩
theorem Dp.set1 (h : Dp base V n X M A B Z k f f' E p bp L u0 u1 u2 u3 u4 u5 w') : Dp base V n X M A B Z k f f' E p bp (fun j => j == 1 || L j) u0 (.pointer (some ⟨V.b, V.o, none⟩)) u2 u3 u4 u5 w' :=
 ⟨Dp_kl h.fa0 rfl, fun _ => rfl, Dp_kl h.fa2 rfl, Dp_kl h.fa3 rfl, Dp_kl h.fa4 rfl, Dp_kl h.fa5 rfl, h.wd⟩
theorem Dp.set2 (h : Dp base V n X M A B Z k f f' E p bp L u0 u1 u2 u3 u4 u5 w') : Dp base V n X M A B Z k f f' E p bp (fun j => j == 2 || L j) u0 u1 (.pointer (some ⟨V.b, V.o + 6, none⟩)) u3 u4 u5 w' :=
 ⟨Dp_kl h.fa0 rfl, Dp_kl h.fa1 rfl, fun _ => rfl, Dp_kl h.fa3 rfl, Dp_kl h.fa4 rfl, Dp_kl h.fa5 rfl, h.wd⟩
theorem Dp.set3 (h : Dp base V n X M A B Z k f f' E p bp L u0 u1 u2 u3 u4 u5 w') : Dp base V n X M A B Z k f f' E p bp (fun j => j == 3 || L j) u0 u1 u2 (.agg (Pt.pV p).toArray) u4 u5 w' :=
 ⟨Dp_kl h.fa0 rfl, Dp_kl h.fa1 rfl, Dp_kl h.fa2 rfl, fun _ => rfl, Dp_kl h.fa4 rfl, Dp_kl h.fa5 rfl, h.wd⟩
theorem Dp.set4 (h : Dp base V n X M A B Z k f f' E p bp L u0 u1 u2 u3 u4 u5 w') (hw : Wq base V n X M X M A B Z k f f' true w'') : Dp base V n X M A B Z k f f' E p bp (fun j => j == 4 || L j) u0 u1 u2 u3 (.int .i64 E) u5 w'' :=
 ⟨Dp_kl h.fa0 rfl, Dp_kl h.fa1 rfl, Dp_kl h.fa2 rfl, Dp_kl h.fa3 rfl, fun _ => rfl, Dp_kl h.fa5 rfl, hw⟩
theorem Dp.set5 (h : Dp base V n X M A B Z k f f' E p bp L u0 u1 u2 u3 u4 u5 w') : Dp base V n X M A B Z k f f' E p bp (fun j => j == 5 || L j) u0 u1 u2 u3 u4 (.int .i64 E) w' :=
 ⟨Dp_kl h.fa0 rfl, Dp_kl h.fa1 rfl, Dp_kl h.fa2 rfl, Dp_kl h.fa3 rfl, Dp_kl h.fa4 rfl, fun _ => rfl, h.wd⟩
end
def DpInv (x2 x5 x6 x7 x8 : Value) (base : World) (V : Pl) (n : Nat) (X : Dst) (M : Tab) (A B Z : Int) (k : Nat) (f f' : Nat → Int) (E : Int) (p : Pt.Pn) (bp : Nat) (L : Nat → Bool) (a' : Act) (w' : World) : Prop :=
 ∃ u0 u1 u2 u3 u4 u5, a' = { tmps := #[.pointer (some ⟨V.b, V.o, none⟩), .agg (Pt.pV p).toArray, x2, .pointer (some ⟨bp, 0, none⟩), u5, x5, x6, x7, x8, u0, u1, u2, u3, u4], defers := [] } ∧ Dp base V n X M A B Z k f f' E p bp L u0 u1 u2 u3 u4 u5 w'

set_option maxRecDepth 100000 in
set_option maxHeartbeats 4000000 in
theorem drop_ok {w : World} {V : Pl} {n k : Nat} {X : Dst} {M : Tab} {A B Z : Int} {f : Nat → Int} (h : HasVol w V n X M A B Z k f) (hm : TabOk M) (hB : Sp.i64 B) (hk : 0 < k) (p : Pt.Pn) (hpA : Sp.i64 p.A) (hpB : Sp.i64 p.B) (hyes : mn n X M A B Z k f p = true) {E : Int} (hE : Sp.drE A B Z k f p = E) {F : Nat → Int} (hF : Sp.drF A B Z k f p = F) :
  Calls Tryz.prog 55 #[.pointer (some ⟨V.b, V.o, none⟩), .agg (Pt.pV p).toArray] w fun e w' => e = .returned (.int .i64 E) ∧ Tv w V n X M A B Z k F w' := by
 obtain ⟨hb0, hx0, hs0⟩ := Pt.box_pt w p
 have HMI := Lib.hid (mine_v (h.below hb0) hm hB p hpA hpB)
 rw [hyes] at HMI
 have q0 := Pt.row_pt hx0
 have HX0 := Lib.hid hx0
 have HB0 := Lib.hid hb0
 have HV0 := Lib.hid h
 have hvl := h.lt
 have HDR := Lib.hid (fun w' (hv : HasVol w' V n X M A B Z k f) => drop_v hv hk hB p hpA hpB)
 rw [hE, hF] at HDR
 clear h hm hB hyes hx0 hE hF hb0
 go_enter Tryz.func55, Tryz.ntmps55
 go_wp2_with (refine @wpList_loadG _ _ _ _ _ _ _ (by kernel_rfl) 50 (.tmp 3) rfl w.heap.size 0 rfl (Pt.pV p) _ q0 Pt.undP rfl (Pt.sizeP p) ?_; simp only [Act.put, aI, aS, aZ])
 refine HMI.out.mono ?_
 rintro _ w1 ⟨rfl, hb1⟩
 have hs1 := hb1.size
 have hp1 := (hb1.block w.heap.size (by omega)).trans HX0.out
 have HT1 : Hid (Tv w V n X M A B Z k f w1) := Lib.hid (Tv.of HV0.out (HB0.out.trans (hb1.mono HB0.out.size)))
 have HPB := Lib.hid (fun w' (hg : w1.grownBy w' (some V.b)) => Pt.row_pt ((hg.block w.heap.size (by omega) (by simp; omega)).trans hp1))
 have HSTART := Lib.hid (Wq.start (X' := X) (M' := M) (f' := F) HT1.out.v)
 clear HMI q0 HX0 HB0 HV0 hb1 hp1
 dsimp only
 go_wp2_with fail
 refine QuietTail2.regionInv (n := 6) (Inv := DpInv _ _ _ _ _ w1 V n X M A B Z k (f) (F) E p (w.heap.size)) (by kernel_rfl) (by decide) (by kernel_rfl) ⟨_, _, _, _, _, _, rfl, ⟨by simp, by simp, by simp, by simp, by simp, by simp, ?_⟩⟩ ?step ?fin
 exact HSTART.out
 case step =>
  rintro i o hi ho L a' w' ⟨u0, u1, u2, u3, u4, u5, rfl, TT⟩ hL hpre
  match i, hi with
  | 0, _ =>
   simp at ho
   subst ho
   go_simp
   exact ⟨_, u1, u2, u3, u4, u5, rfl, TT.set0⟩
  | 1, _ =>
   simp at ho
   subst ho
   obtain rfl := TT.fa0 (hpre 0 (by kernel_rfl))
   go_simp
   exact ⟨_, _, u2, u3, u4, u5, rfl, TT.set1⟩
  | 2, _ =>
   simp at ho
   subst ho
   obtain rfl := TT.fa1 (hpre 1 (by kernel_rfl))
   go_simp
   exact ⟨u0, _, _, u3, u4, u5, rfl, TT.set2⟩
  | 3, _ =>
   simp at ho
   subst ho
   refine wp_load_mid 50 (.tmp 3) rfl w.heap.size 0 rfl (Pt.pV p) _ (HPB.out w' TT.wd.g) Pt.undP rfl (Pt.sizeP p) ?_
   simp only [Act.put, aI, aS, aZ]
   exact ⟨u0, u1, u2, _, u4, u5, rfl, TT.set3⟩
  | 4, _ =>
   simp at ho
   subst ho
   obtain rfl := TT.fa2 (hpre 2 (by kernel_rfl))
   obtain rfl := TT.fa3 (hpre 3 (by kernel_rfl))
   go_simp
   refine (HDR.out w' (TT.wd.p0 hL)).mono ?_
   rintro _ w'' ⟨rfl, hT⟩
   exact ⟨u0, u1, _, _, _, u5, rfl, TT.set4 (TT.wd.call hL hT)⟩
  | 5, _ =>
   simp at ho
   subst ho
   obtain rfl := TT.fa4 (hpre 4 (by kernel_rfl))
   go_simp
   exact ⟨u0, u1, u2, u3, _, _, rfl, TT.set5⟩
  | i + 6, h => omega
 case fin =>
  rintro L a' w' hall ⟨u0, u1, u2, u3, u4, u5, rfl, TT⟩
  have hWD : Wq w1 V n X M X M A B Z k f F true w' := by have := TT.wd; rwa [hall 4 (by omega)] at this
  obtain rfl := TT.fa5 (hall 5 (by omega))
  have hT := HT1.out.trans (⟨hWD.p1 rfl, hWD.g, hWD.l⟩ : Tv w1 V n X M A B Z k F w')
  clear TT hWD HPB HDR HT1 HSTART
  refine wpList_nil ?_
  go_wp2_with fail
  go_ret
  exact ⟨rfl, hT⟩
def cntI (p : Pt.Pn) : Int := if p.B = -1 then 1 else 2
set_option maxRecDepth 100000 in
theorem count_any (p : Pt.Pn) (w : World) : Calls Tryz.prog 121 #[.agg (Pt.pV p).toArray] w fun e w' => e = .returned (.int .i64 (cntI p)) ∧ Below w.heap.size w w' := by
 obtain ⟨hb0, hx0, hs0⟩ := Pt.box_pt w p
 have hc : (w.alloc (.cells (Pt.pV p).toArray 50)).cell? ⟨w.heap.size, 1, none⟩ = some (.int .i64 p.B) := by rw [cell_of_row _ _ _ _ _ _ hx0]; rfl
 clear hx0
 by_cases hp : p.B = -1
 ·have hd : decide (p.B = -1) = true := by simpa using hp
  have hv : cntI p = 1 := by unfold cntI; rw [if_pos hp]
  go_enter Tryz.func121, Tryz.ntmps121
  go_wp2_with fail
  go_ret
  exact ⟨by rw [hv]; rfl, hb0⟩
 ·have hd : decide (p.B = -1) = false := by simpa using hp
  have hv : cntI p = 2 := by unfold cntI; rw [if_neg hp]
  go_enter Tryz.func121, Tryz.ntmps121
  go_wp2_with fail
  go_ret
  exact ⟨by rw [hv]; rfl, hb0⟩
end Vl
end Go.Proofs.YtonhedefjmkpcaaGreatDoor
/- vol: Swap (made by tools/gen_vlswap.py). -/
namespace Go.Proofs.YtonhedefjmkpcaaGreatDoor
set_option maxRecDepth 20000
namespace Vl
open Go.RowKit Dk Gm Eqb Rm Vm Di

attribute [local go_sem] zv29
attribute [local go_sem] Pt.zvP
attribute [local go_sem] zc29
set_option maxRecDepth 100000 in
set_option maxHeartbeats 4000000 in
theorem swap_same_hole {w : World} {V : Pl} {n k : Nat} {X : Dst} {M : Tab} {A B Z : Int} {f : Nat → Int} (h : HasVol w V n X M A B Z k f) (hm : TabOk M) (hB : Sp.i64 B) (hkp : Rm.Kp w) (p : Pt.Pn) (hpA : Sp.i64 p.A) (hpB : Sp.i64 p.B) (D : Nat → Int) (c : Int) (hD : byt D) (hyes : mn n X M A B Z k f p = true) (hc : alB c = true) (hf : Pt.fitsB p D = true) (hi : Pt.isHole p = true) :
  Calls Tryz.prog 54 #[.pointer (some ⟨V.b, V.o, none⟩), .agg (Pt.pV p).toArray, .agg (bl D).toArray, .int .i64 c] w fun e w' =>  e = .returned (.tuple #[.agg (Pt.pV p).toArray, .int .i64 0]) ∧ Below w.heap.size w w' := by
 obtain ⟨W, hW, hS⟩ := sb_start w p D
 have HMI := Lib.hid (mine_v (h.below hS.be) hm hB p hpA hpB)
 rw [hyes] at HMI
 have HA := Lib.hid (allowed_any c)
 rw [hc] at HA
 have HS := Lib.hid hS
 have q0 := Pt.row_pt hS.p
 have hbe0 := hS.be
 have HPR := Lib.hid (fun w' (hb : Below W.heap.size W w') => Pt.row_pt (hS.below hb).p)
 have HDR0 := Lib.hid (fun w' (hb : Below W.heap.size W w') => row_all (hS.below hb).d)
 have HFT := Lib.hid (fun w' (hb : Below W.heap.size W w') => Pt.fits_any p D w' hD ((hkp.below hbe0).below hb))
 have HIH := Lib.hid (fun w' => Pt.ishole_any p w')
 have HCT := Lib.hid (fun w' => count_any p w')
 rw [hf] at HFT
 clear h hm hB hpA hpB hkp hD hyes hc hS hf
 go_enter Tryz.func54, Tryz.ntmps54
 rw [hW] at q0
 go_wp2_with (refine @wpList_loadG _ _ _ _ _ _ _ (by kernel_rfl) 50 (.tmp 5) rfl w.heap.size 0 rfl (Pt.pV p) _ q0 Pt.undP rfl (Pt.sizeP p) ?_; simp only [Act.put, aI, aS, aZ])
 try rw [Pt.zrow]
 try rw [← hW]
 clear hW q0
 refine HMI.out.mono ?_
 rintro _ w1 ⟨rfl, hb1⟩
 clear HMI
 dsimp only
 go_wp2_with fail
 refine (HA.out w1).mono ?_
 rintro _ _ ⟨rfl, rfl⟩
 clear HA
 dsimp only
 go_wp2_with (first
   | (refine @wpList_loadG _ _ _ _ _ _ _ (by kernel_rfl) 50 (.tmp 5) rfl w.heap.size 0 rfl (Pt.pV p) _ (HPR.out _ (by assumption)) Pt.undP rfl (Pt.sizeP p) ?_; simp only [Act.put, aI, aS, aZ])
   | (refine @wpList_loadG _ _ _ _ _ _ _ (by kernel_rfl) 45 (.tmp 6) rfl (w.heap.size + 1) 0 rfl (bl D) _ (HDR0.out _ (by assumption)) undB rfl (size_bl D) ?_; simp only [Act.put, aI, aS, aZ]))
 refine (HFT.out w1 hb1).mono ?_
 rintro _ w2 ⟨rfl, hb2⟩
 replace hb2 := hb1.trans (hb2.mono hb1.size)
 clear HFT hb1
 dsimp only
 go_wp2_with (first
   | (refine @wpList_loadG _ _ _ _ _ _ _ (by kernel_rfl) 50 (.tmp 5) rfl w.heap.size 0 rfl (Pt.pV p) _ (HPR.out _ (by assumption)) Pt.undP rfl (Pt.sizeP p) ?_; simp only [Act.put, aI, aS, aZ])
   | (refine @wpList_loadG _ _ _ _ _ _ _ (by kernel_rfl) 45 (.tmp 6) rfl (w.heap.size + 1) 0 rfl (bl D) _ (HDR0.out _ (by assumption)) undB rfl (size_bl D) ?_; simp only [Act.put, aI, aS, aZ]))
 refine (HIH.out w2).mono ?_
 rintro _ w3 ⟨rfl, hb3⟩
 replace hb3 := hb2.trans (hb3.mono hb2.size)
 clear HIH hb2
 rw [hi]
 dsimp only
 have hz := (HS.out.below hb3).r
 have hbe := (HS.out.below hb3).be
 clear HS
 go_wp2_with (first
   | (refine @wpList_loadG _ _ _ _ _ _ _ (by rfl) 50 (.tmp 5) rfl w.heap.size 0 rfl (Pt.pV p) _ (HPR.out _ (by assumption)) Pt.undP rfl (Pt.sizeP p) ?_; simp only [Act.put, aI, aS, aZ])
   | (refine @wpList_store_row _ _ _ _ _ _ _ rfl 50 (.tmp 8) (.tmp 35) rfl (w.heap.size + 1 + 1) (Pt.pV p).toArray rfl rfl 50 _ hz (Pt.sizeP' _) rfl (Pt.pV_all _) ?_; simp only [Act.put]))
 refine bodyPost_ret (Pt.results_2p rfl rfl rfl (setRow_heap _ _ _ _ _ _ hz)) rfl ?_
 exact ⟨rfl, below_only hbe (by omega) (grown_row _)⟩

set_option maxRecDepth 100000 in
set_option maxHeartbeats 4000000 in
theorem swap_same_count {w : World} {V : Pl} {n k : Nat} {X : Dst} {M : Tab} {A B Z : Int} {f : Nat → Int} (h : HasVol w V n X M A B Z k f) (hm : TabOk M) (hB : Sp.i64 B) (hkp : Rm.Kp w) (p : Pt.Pn) (hpA : Sp.i64 p.A) (hpB : Sp.i64 p.B) (D : Nat → Int) (c : Int) (hD : byt D) (hyes : mn n X M A B Z k f p = true) (hc : alB c = true) (hf : Pt.fitsB p D = true) (hi : Pt.isHole p = false) (hq : cntI p = c) :
  Calls Tryz.prog 54 #[.pointer (some ⟨V.b, V.o, none⟩), .agg (Pt.pV p).toArray, .agg (bl D).toArray, .int .i64 c] w fun e w' =>  e = .returned (.tuple #[.agg (Pt.pV p).toArray, .int .i64 0]) ∧ Below w.heap.size w w' := by
 obtain ⟨W, hW, hS⟩ := sb_start w p D
 have HMI := Lib.hid (mine_v (h.below hS.be) hm hB p hpA hpB)
 rw [hyes] at HMI
 have HA := Lib.hid (allowed_any c)
 rw [hc] at HA
 have HS := Lib.hid hS
 have q0 := Pt.row_pt hS.p
 have hbe0 := hS.be
 have HPR := Lib.hid (fun w' (hb : Below W.heap.size W w') => Pt.row_pt (hS.below hb).p)
 have HDR0 := Lib.hid (fun w' (hb : Below W.heap.size W w') => row_all (hS.below hb).d)
 have HFT := Lib.hid (fun w' (hb : Below W.heap.size W w') => Pt.fits_any p D w' hD ((hkp.below hbe0).below hb))
 have HIH := Lib.hid (fun w' => Pt.ishole_any p w')
 have HCT := Lib.hid (fun w' => count_any p w')
 rw [hf] at HFT
 clear h hm hB hpA hpB hkp hD hyes hc hS hf
 go_enter Tryz.func54, Tryz.ntmps54
 rw [hW] at q0
 go_wp2_with (refine @wpList_loadG _ _ _ _ _ _ _ (by kernel_rfl) 50 (.tmp 5) rfl w.heap.size 0 rfl (Pt.pV p) _ q0 Pt.undP rfl (Pt.sizeP p) ?_; simp only [Act.put, aI, aS, aZ])
 try rw [Pt.zrow]
 try rw [← hW]
 clear hW q0
 refine HMI.out.mono ?_
 rintro _ w1 ⟨rfl, hb1⟩
 clear HMI
 dsimp only
 go_wp2_with fail
 refine (HA.out w1).mono ?_
 rintro _ _ ⟨rfl, rfl⟩
 clear HA
 dsimp only
 go_wp2_with (first
   | (refine @wpList_loadG _ _ _ _ _ _ _ (by kernel_rfl) 50 (.tmp 5) rfl w.heap.size 0 rfl (Pt.pV p) _ (HPR.out _ (by assumption)) Pt.undP rfl (Pt.sizeP p) ?_; simp only [Act.put, aI, aS, aZ])
   | (refine @wpList_loadG _ _ _ _ _ _ _ (by kernel_rfl) 45 (.tmp 6) rfl (w.heap.size + 1) 0 rfl (bl D) _ (HDR0.out _ (by assumption)) undB rfl (size_bl D) ?_; simp only [Act.put, aI, aS, aZ]))
 refine (HFT.out w1 hb1).mono ?_
 rintro _ w2 ⟨rfl, hb2⟩
 replace hb2 := hb1.trans (hb2.mono hb1.size)
 clear HFT hb1
 dsimp only
 go_wp2_with (first
   | (refine @wpList_loadG _ _ _ _ _ _ _ (by kernel_rfl) 50 (.tmp 5) rfl w.heap.size 0 rfl (Pt.pV p) _ (HPR.out _ (by assumption)) Pt.undP rfl (Pt.sizeP p) ?_; simp only [Act.put, aI, aS, aZ])
   | (refine @wpList_loadG _ _ _ _ _ _ _ (by kernel_rfl) 45 (.tmp 6) rfl (w.heap.size + 1) 0 rfl (bl D) _ (HDR0.out _ (by assumption)) undB rfl (size_bl D) ?_; simp only [Act.put, aI, aS, aZ]))
 refine (HIH.out w2).mono ?_
 rintro _ w3 ⟨rfl, hb3⟩
 replace hb3 := hb2.trans (hb3.mono hb2.size)
 clear HIH hb2
 rw [hi]
 dsimp only
 go_wp2_with (first
   | (refine @wpList_loadG _ _ _ _ _ _ _ (by kernel_rfl) 50 (.tmp 5) rfl w.heap.size 0 rfl (Pt.pV p) _ (HPR.out _ (by assumption)) Pt.undP rfl (Pt.sizeP p) ?_; simp only [Act.put, aI, aS, aZ])
   | (refine @wpList_loadG _ _ _ _ _ _ _ (by kernel_rfl) 45 (.tmp 6) rfl (w.heap.size + 1) 0 rfl (bl D) _ (HDR0.out _ (by assumption)) undB rfl (size_bl D) ?_; simp only [Act.put, aI, aS, aZ]))
 refine (HCT.out w3).mono ?_
 rintro _ w4 ⟨rfl, hb4⟩
 replace hb4 := hb3.trans (hb4.mono hb3.size)
 clear HCT hb3
 rw [hq]
 dsimp only
 have hz := (HS.out.below hb4).r
 have hbe := (HS.out.below hb4).be
 clear HS
 go_wp2_with (first
   | (refine @wpList_loadG _ _ _ _ _ _ _ (by kernel_rfl) 50 (.tmp 5) rfl w.heap.size 0 rfl (Pt.pV p) _ (HPR.out _ (by assumption)) Pt.undP rfl (Pt.sizeP p) ?_; simp only [Act.put, aI, aS, aZ])
   | (refine @wpList_store_row _ _ _ _ _ _ _ rfl 50 (.tmp 8) (.tmp 35) rfl (w.heap.size + 1 + 1) (Pt.pV p).toArray rfl rfl 50 _ hz (Pt.sizeP' _) rfl (Pt.pV_all _) ?_; simp only [Act.put]))
 refine bodyPost_ret (Pt.results_2p rfl rfl rfl (setRow_heap _ _ _ _ _ _ hz)) rfl ?_
 exact ⟨rfl, below_only hbe (by omega) (grown_row _)⟩
end Vl
end Go.Proofs.YtonhedefjmkpcaaGreatDoor
