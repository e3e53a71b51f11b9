/- SpaceSettles: the law's walk (made by tools/gen_splaws.py). -/
import Derived.Test.YtdbmdocmnhgbpaaSpTw
import Derived.Test.YtdbmdocmnhgbpaaSpTakes
namespace Go.Proofs.Ytdbmdocmnhgbpaa
set_option maxRecDepth 20000
namespace Sp
open Go.RowKit Dk Eqb Byt

attribute [local irreducible] wpQuiet
theorem seF_bd {A B Z : Int} {n : Nat} {f : Nat → Int} (hf : ∀ i, i < n → 0 ≤ f i ∧ f i < 256) : ∀ i, i < n → 0 ≤ swF seN A B Z n f i ∧ swF seN A B Z n f i < 256 := by
  intro i hi
  unfold swF
  cases h : formB A B Z n f with
  | false => exact hf i hi
  | true =>
    have h1 := bd_of h hf i hi
    have := se_bd (f i).toNat (by omega)
    simp only [if_true]
    unfold alT
    omega
/-- settled, as many are in use -/
theorem settled_used (A B Z : Int) (n : Nat) (f : Nat → Int) (hf : ∀ i, i < n → 0 ≤ f i ∧ f i < 256) : usedN A B Z n (swF seN A B Z n f) = usedN A B Z n f := by
  unfold swF
  cases h : formB A B Z n f with
  | false => rfl
  | true =>
    simp only [if_true]
    have hb := bd_of h hf
    have key : ∀ k, k ≤ n → usN (alT seN f) k = usN f k := by
      intro k
      induction k with
      | zero => intro _; rfl
      | succ k ih =>
        intro hk
        have h1 := hb k (by omega)
        rw [usN, usN, ih (by omega)]
        congr 1
        unfold alT
        obtain e | e | e | e | e : f k = 0 ∨ f k = 1 ∨ f k = 2 ∨ f k = 3 ∨ f k = 4 := by omega
        all_goals rw [e]; rfl
    have hfm : formB A B Z n (alT seN f) = true := by
      obtain ⟨h1, h2, h3⟩ := formB_iff.1 h
      refine formB_iff.2 ⟨h1, h2, fun i hi => ?_⟩
      have h4 := hb i hi
      exact (se_bd (f i).toNat (by omega)).2
    unfold usedN
    rw [h, hfm, key n (Nat.le_refl _)]
def SetInv1 (x0 x2 x5 x6 x7 x8 x9 x10 x11 x12 x17 x18 x19 x20 x21 x22 x23 x24 x25 x26 x27 x28 x29 x30 x31 x32 x33 x34 x35 x36 x37 x38 x39 x40 x41 x42 x43 x44 x45 x46 x47 x48 x49 : Value) (bx : Nat) (dv : Value) (A B Z : Int) (n : Nat) (f : Nat → Int) (W : World) (L : Nat → Bool) (a' : Act) (w' : World) : Prop :=
  ∃ u0 u1 u2 u3 u4 u5, a' = { tmps := #[x0, .pointer (some ⟨bx, 0, none⟩), x2, u4, u5, x5, x6, x7, x8, x9, x10, x11, x12, u0, u1, u2, u3, x17, x18, x19, x20, x21, x22, x23, x24, x25, x26, x27, x28, x29, x30, x31, x32, x33, x34, x35, x36, x37, x38, x39, x40, x41, x42, x43, x44, x45, x46, x47, x48, x49], defers := [] } ∧ TwS.Tw (fun v w' => CopS W.heap.size A B Z n f v w') 26 4 dv W L u0 u1 u2 u3 u4 u5 w'
def SetInv2 (x0 x2 x3 x4 x7 x8 x9 x10 x11 x12 x13 x14 x15 x16 x21 x22 x23 x24 x25 x26 x27 x28 x29 x30 x31 x32 x33 x34 x35 x36 x37 x38 x39 x40 x41 x42 x43 x44 x45 x46 x47 x48 x49 : Value) (bx : Nat) (dv : Value) (A B Z : Int) (n : Nat) (f : Nat → Int) (W : World) (L : Nat → Bool) (a' : Act) (w' : World) : Prop :=
  ∃ u0 u1 u2 u3 u4 u5, a' = { tmps := #[x0, .pointer (some ⟨bx, 0, none⟩), x2, x3, x4, u4, u5, x7, x8, x9, x10, x11, x12, x13, x14, x15, x16, u0, u1, u2, u3, x21, x22, x23, x24, x25, x26, x27, x28, x29, x30, x31, x32, x33, x34, x35, x36, x37, x38, x39, x40, x41, x42, x43, x44, x45, x46, x47, x48, x49], defers := [] } ∧ TwS.Tw (fun v w' => CopS W.heap.size A B Z n f v w') 26 4 dv W L u0 u1 u2 u3 u4 u5 w'

section
attribute [local go_sem] zvSp
set_option maxRecDepth 100000 in
set_option maxHeartbeats 4000000 in
theorem settles7_any (A B Z : Int) (ao : Option Addr) (n cap : Nat) (f : Nat → Int) (w : World) (hB : i64 B) (hs : St w w.heap.size ao n cap f) : Calls Try.prog 7 #[.agg #[.int .i64 A, .int .i64 B, .int .i64 Z, .slice ao n cap]] w fun e w' => e = .returned (.bool true) ∧ Below w.heap.size w w' := by
  obtain ⟨W, hW, hbW, hsW, hxW⟩ := box_sp w A B Z ao n cap
  have HA := Lib.hid (alive7_any W)
  have hby := hs.byte
  have hrm := hs.room
  have HST0 := Lib.hid (fun w' (hb : Below w.heap.size w w') => hs.later hb)
  clear hs
  go_enter Try.func7, Try.ntmps7
  go_wp2_with (rw [← hW])
  clear hW
  refine HA.out.mono ?_
  rintro _ w1 ⟨rfl, hb1⟩
  dsimp only
  have HB1 := Lib.hid (hbW.trans (hb1.mono (by omega)))
  have HLT := Lib.hid (show w.heap.size < w1.heap.size by have := hb1.size; omega)
  have HBX := Lib.hid (fun w' (hw' : Below w1.heap.size w1 w') => (hxW.below hb1 (by omega)).below hw' (by have := hb1.size; omega))
  have HST := Lib.hid (fun w' (hw' : Below w1.heap.size w1 w') => HST0.out w' (HB1.out.trans (hw'.mono HB1.out.size)))
  clear hb1 HA hxW hbW
  go_wp2_with fail
  refine QuietTail2.regionInv (n := 8) (Inv := SetInv1 _ _ _ _ _ _ _ _ _ _ _ _ _ _ _ _ _ _ _ _ _ _ _ _ _ _ _ _ _ _ _ _ _ _ _ _ _ _ _ _ _ _ _ w.heap.size (.agg #[.int .i64 A, .int .i64 B, .int .i64 Z, .slice ao n cap]) A B Z n f w1) (by kernel_rfl) (by decide) (by kernel_rfl) ⟨_, _, _, _, _, _, rfl, TwS.Tw.start⟩ ?stepA ?finA
  case stepA =>
    rintro i o hi ho L a' w' ⟨u0, u1, u2, u3, u4, u5, rfl, TT⟩ hL hpre
    match i, hi with
    | 0, _ =>
      simp at ho
      subst ho
      have hH := HBX.out w' TT.be; have k0 := hH.c0; have k1 := hH.c1; have k2 := hH.c2; have k3 := hH.c3; clear hH
      go_simp
      exact ⟨_, u1, u2, u3, u4, u5, rfl, TT.load0⟩
    | 1, _ =>
      simp at ho
      subst ho
      obtain rfl := TT.a0 (hpre 0 (by kernel_rfl))
      go_simp
      refine (Copy_any A B Z ao n cap f w' (HST.out w' TT.be)).mono ?_
      rintro _ w'' ⟨ao', cap', rfl, hv, hb⟩
      exact ⟨_, _, u2, u3, u4, u5, rfl, TT.call1 hL ⟨ao', cap', rfl, hv.more TT.be.size⟩ hb (fun _ _ _ h hb => CopS.below h hb)⟩
    | 2, _ =>
      simp at ho
      subst ho
      have hH := HBX.out w' TT.be; have k0 := hH.c0; have k1 := hH.c1; have k2 := hH.c2; have k3 := hH.c3; clear hH
      go_simp
      exact ⟨u0, u1, _, u3, u4, u5, rfl, TT.load2⟩
    | 3, _ =>
      simp at ho
      subst ho
      obtain rfl := TT.a2 (hpre 2 (by kernel_rfl))
      go_simp
      refine (Copy_any A B Z ao n cap f w' (HST.out w' TT.be)).mono ?_
      rintro _ w'' ⟨ao', cap', rfl, hv, hb⟩
      exact ⟨u0, u1, _, _, u4, u5, rfl, TT.call3 hL ⟨ao', cap', rfl, hv.more TT.be.size⟩ hb (fun _ _ _ h hb => CopS.below h hb)⟩
    | 4, _ =>
      simp at ho
      subst ho
      go_simp
      exact ⟨u0, u1, u2, u3, _, u5, rfl, TT.alloc4 hL rfl (fun _ _ _ h hb => CopS.below h hb)⟩
    | 5, _ =>
      simp at ho
      subst ho
      go_simp
      exact ⟨u0, u1, u2, u3, u4, _, rfl, TT.alloc5 hL rfl (fun _ _ _ h hb => CopS.below h hb)⟩
    | 6, _ =>
      simp at ho
      subst ho
      have h1 := hpre 1 (by kernel_rfl)
      have h4 := hpre 4 (by kernel_rfl)
      obtain ⟨b, c0, e4, _, hb, hs, _⟩ := TT.a4 h4
      obtain ⟨ao1, cap1, rfl, q1⟩ := TT.a1 h1
      subst e4
      refine wp_store_row 26 (.tmp 3) (.tmp 14) rfl b #[.int .i64 A, .int .i64 B, .int .i64 Z, .slice ao1 n cap1] rfl rfl 26 c0 hb (by kernel_rfl) hs (sp_one _ _ _ _ _ _) ?_
      exact ⟨u0, _, u2, u3, _, u5, rfl, TT.store6 h1 h4 rfl rfl hb rfl (fun _ _ _ _ c h hb => CopS.row h hb c)⟩
    | 7, _ =>
      simp at ho
      subst ho
      have h1 := hpre 3 (by kernel_rfl)
      have h4 := hpre 5 (by kernel_rfl)
      obtain ⟨b, c0, e4, _, hb, hs, _⟩ := TT.a5 h4
      obtain ⟨ao1, cap1, rfl, q1⟩ := TT.a3 h1
      subst e4
      refine wp_store_row 26 (.tmp 4) (.tmp 16) rfl b #[.int .i64 A, .int .i64 B, .int .i64 Z, .slice ao1 n cap1] rfl rfl 26 c0 hb (by kernel_rfl) hs (sp_one _ _ _ _ _ _) ?_
      exact ⟨u0, u1, u2, _, u4, _, rfl, TT.store7 h1 h4 rfl rfl hb rfl (fun _ _ _ _ c h hb => CopS.row h hb c)⟩
    | i + 8, h => omega
  rintro L a' w5A hall ⟨u0, u1, u2, u3, u4, u5, rfl, TT⟩
  obtain ⟨bA, cA, bB, cB, rfl, rfl, lA, lB, hneA, hA, hB, pA, pB, hbeA⟩ := TT.fin hall
  clear TT hall
  obtain ⟨aoA, capA, xA, sA⟩ := CopS.laid pA hA hby hrm
  obtain ⟨aoB, capB, xB, sB⟩ := CopS.laid pB hB hby hrm
  clear hA hB pA pB
  simp only [List.drop_succ_cons, List.drop_zero]
  refine wpList_nil ?_
  have HB5 := Lib.hid (HB1.out.trans (hbeA.mono HB1.out.size))
  have hlw : w.heap.size < w1.heap.size := HLT.out
  have hxs := HBX.out w5A hbeA
  have HXA := Lib.hid xA
  have HSA := Lib.hid sA
  have HXB := Lib.hid xB
  have HSB := Lib.hid sB
  have hlA := xA.lt
  have hlB := xB.lt
  clear HBX HST xA sA xB sB hbeA
  have HBX := Lib.hid (fun w' (hw' : Below w5A.heap.size w5A w') => hxs.below hw' (by have := HB5.out.size; omega))
  have HST := Lib.hid (fun w' (hw' : Below w5A.heap.size w5A w') => HST0.out w' (HB5.out.trans (hw'.mono HB5.out.size)))
  clear hxs
  go_wp2_with fail
  refine QuietTail2.regionInv (n := 8) (Inv := SetInv2 _ _ _ _ _ _ _ _ _ _ _ _ _ _ _ _ _ _ _ _ _ _ _ _ _ _ _ _ _ _ _ _ _ _ _ _ _ _ _ _ _ _ _ w.heap.size (.agg #[.int .i64 A, .int .i64 B, .int .i64 Z, .slice ao n cap]) A B Z n f w5A) (by kernel_rfl) (by decide) (by kernel_rfl) ⟨_, _, _, _, _, _, rfl, TwS.Tw.start⟩ ?stepC ?finC
  case stepC =>
    rintro i o hi ho L a' w' ⟨u0, u1, u2, u3, u4, u5, rfl, TT⟩ hL hpre
    match i, hi with
    | 0, _ =>
      simp at ho
      subst ho
      have hH := HBX.out w' TT.be; have k0 := hH.c0; have k1 := hH.c1; have k2 := hH.c2; have k3 := hH.c3; clear hH
      go_simp
      exact ⟨_, u1, u2, u3, u4, u5, rfl, TT.load0⟩
    | 1, _ =>
      simp at ho
      subst ho
      obtain rfl := TT.a0 (hpre 0 (by kernel_rfl))
      go_simp
      refine (Copy_any A B Z ao n cap f w' (HST.out w' TT.be)).mono ?_
      rintro _ w'' ⟨ao', cap', rfl, hv, hb⟩
      exact ⟨_, _, u2, u3, u4, u5, rfl, TT.call1 hL ⟨ao', cap', rfl, hv.more TT.be.size⟩ hb (fun _ _ _ h hb => CopS.below h hb)⟩
    | 2, _ =>
      simp at ho
      subst ho
      have hH := HBX.out w' TT.be; have k0 := hH.c0; have k1 := hH.c1; have k2 := hH.c2; have k3 := hH.c3; clear hH
      go_simp
      exact ⟨u0, u1, _, u3, u4, u5, rfl, TT.load2⟩
    | 3, _ =>
      simp at ho
      subst ho
      obtain rfl := TT.a2 (hpre 2 (by kernel_rfl))
      go_simp
      refine (Copy_any A B Z ao n cap f w' (HST.out w' TT.be)).mono ?_
      rintro _ w'' ⟨ao', cap', rfl, hv, hb⟩
      exact ⟨u0, u1, _, _, u4, u5, rfl, TT.call3 hL ⟨ao', cap', rfl, hv.more TT.be.size⟩ hb (fun _ _ _ h hb => CopS.below h hb)⟩
    | 4, _ =>
      simp at ho
      subst ho
      go_simp
      exact ⟨u0, u1, u2, u3, _, u5, rfl, TT.alloc4 hL rfl (fun _ _ _ h hb => CopS.below h hb)⟩
    | 5, _ =>
      simp at ho
      subst ho
      go_simp
      exact ⟨u0, u1, u2, u3, u4, _, rfl, TT.alloc5 hL rfl (fun _ _ _ h hb => CopS.below h hb)⟩
    | 6, _ =>
      simp at ho
      subst ho
      have h1 := hpre 1 (by kernel_rfl)
      have h4 := hpre 4 (by kernel_rfl)
      obtain ⟨b, c0, e4, _, hb, hs, _⟩ := TT.a4 h4
      obtain ⟨ao1, cap1, rfl, q1⟩ := TT.a1 h1
      subst e4
      refine wp_store_row 26 (.tmp 5) (.tmp 18) rfl b #[.int .i64 A, .int .i64 B, .int .i64 Z, .slice ao1 n cap1] rfl rfl 26 c0 hb (by kernel_rfl) hs (sp_one _ _ _ _ _ _) ?_
      exact ⟨u0, _, u2, u3, _, u5, rfl, TT.store6 h1 h4 rfl rfl hb rfl (fun _ _ _ _ c h hb => CopS.row h hb c)⟩
    | 7, _ =>
      simp at ho
      subst ho
      have h1 := hpre 3 (by kernel_rfl)
      have h4 := hpre 5 (by kernel_rfl)
      obtain ⟨b, c0, e4, _, hb, hs, _⟩ := TT.a5 h4
      obtain ⟨ao1, cap1, rfl, q1⟩ := TT.a3 h1
      subst e4
      refine wp_store_row 26 (.tmp 6) (.tmp 20) rfl b #[.int .i64 A, .int .i64 B, .int .i64 Z, .slice ao1 n cap1] rfl rfl 26 c0 hb (by kernel_rfl) hs (sp_one _ _ _ _ _ _) ?_
      exact ⟨u0, u1, u2, _, u4, _, rfl, TT.store7 h1 h4 rfl rfl hb rfl (fun _ _ _ _ c h hb => CopS.row h hb c)⟩
    | i + 8, h => omega
  rintro L a' w5C hall ⟨u0, u1, u2, u3, u4, u5, rfl, TT⟩
  obtain ⟨bC, cC, bD, cD, rfl, rfl, lC, lD, hneC, hC, hD, pC, pD, hbeC⟩ := TT.fin hall
  clear TT hall
  obtain ⟨aoC, capC, xC, sC⟩ := CopS.laid pC hC hby hrm
  obtain ⟨aoD, capD, xD, sD⟩ := CopS.laid pD hD hby hrm
  clear hC hD pC pD
  simp only [List.drop_succ_cons, List.drop_zero]
  refine wpList_nil ?_
  have HB6 := Lib.hid (HB5.out.trans (hbeC.mono HB5.out.size))
  have hlw5 : w.heap.size ≤ w5A.heap.size := HB5.out.size
  have hxs := HBX.out w5C hbeC
  have hss := HST.out w5C hbeC
  have xA0 := HXA.out.below hbeC hlA
  have sA0 := HSA.out.later hbeC
  have xB0 := HXB.out.below hbeC hlB
  have sB0 := HSB.out.later hbeC
  have T1 := Lib.hid (Sweep_any bC A B Z aoC n capC f w5C xC hB sC)
  have HE := Lib.hid (settled_used A B Z n f hby)
  have hbs := seF_bd (A := A) (B := B) (Z := Z) (n := n) (f := f) hby
  have U0 := Lib.hid hbs
  have neAC : bA ≠ bC := by omega
  have neAD : bA ≠ bD := by omega
  have neBC : bB ≠ bC := by omega
  have neBD : bB ≠ bD := by omega
  have neSA : w.heap.size ≠ bA := by omega
  have neSB : w.heap.size ≠ bB := by omega
  have neSC : w.heap.size ≠ bC := by omega
  have neSD : w.heap.size ≠ bD := by omega
  have lwA : w.heap.size ≤ bA := by omega
  have lwB : w.heap.size ≤ bB := by omega
  have lwC : w.heap.size ≤ bC := by omega
  have lwD : w.heap.size ≤ bD := by omega
  obtain ⟨er, her⟩ : ∃ er, er = okE (formB A B Z n f) := ⟨_, rfl⟩
  rw [← her] at T1
  have HER := Lib.hid her
  clear her hbs
  have HP5 := Lib.hid (And.intro (And.intro hxs hss) (And.intro (And.intro xA0 sA0) (And.intro (And.intro xB0 sB0) (And.intro (And.intro xC sC) (And.intro xD sD)))))
  clear hxs hss xA0 sA0 xB0 sB0 xC sC xD sD HBX HST HXA HSA HXB HSB hbeC
  go_wp2_with fail
  refine T1.out.mono ?_
  rintro _ w6 ⟨rfl, hT⟩
  dsimp only
  obtain ⟨⟨hxs, hss⟩, ⟨xA0, sA0⟩, ⟨xB0, sB0⟩, ⟨xC, sC⟩, xD, sD⟩ := HP5.out
  have ks := hT.other xC hxs hss neSC
  have kA := hT.other xC xA0 sA0 neAC
  have kB := hT.other xC xB0 sB0 neBC
  have kD := hT.other xC xD sD (Ne.symm hneC)
  have HB7 := Lib.hid (hT.below HB6.out lwC)
  obtain ⟨⟨ao1, cap1, kC⟩, _⟩ := hT
  have T2 := Lib.hid (refSweep_any bD A B Z aoD n capD f w6 kD.1 kD.2)
  rw [← HER.out] at T2
  have HP6 := Lib.hid (And.intro ks (And.intro kA (And.intro kB (And.intro kC kD))))
  clear ks kA kB kC kD hxs hss xA0 sA0 xB0 sB0 xC sC xD sD T1 HP5
  go_wp2_with fail
  refine T2.out.mono ?_
  rintro _ w7 ⟨rfl, hT⟩
  dsimp only
  obtain ⟨ks, kA, kB, kC, kD⟩ := HP6.out
  replace ks := hT.other kD.1 ks.1 ks.2 neSD
  replace kA := hT.other kD.1 kA.1 kA.2 neAD
  replace kB := hT.other kD.1 kB.1 kB.2 neBD
  replace kC := hT.other kD.1 kC.1 kC.2 hneC
  have HB8 := Lib.hid (hT.below HB7.out lwD)
  obtain ⟨⟨ao2, cap2, kD⟩, _⟩ := hT
  have T3 := Lib.hid (Settle_any bA A B Z aoA n capA f w7 kA.1 hB kA.2)
  rw [← HER.out] at T3
  have HP7 := Lib.hid (And.intro ks (And.intro kA (And.intro kB (And.intro kC kD))))
  clear ks kA kB kC kD T2 HP6
  go_wp2_with fail
  refine T3.out.mono ?_
  rintro _ w8 ⟨rfl, hT⟩
  dsimp only
  obtain ⟨ks, kA, kB, kC, kD⟩ := HP7.out
  replace ks := hT.other kA.1 ks.1 ks.2 neSA
  replace kB := hT.other kA.1 kB.1 kB.2 (Ne.symm hneA)
  replace kC := hT.other kA.1 kC.1 kC.2 (Ne.symm neAC)
  replace kD := hT.other kA.1 kD.1 kD.2 (Ne.symm neAD)
  have HB9 := Lib.hid (hT.below HB8.out lwA)
  obtain ⟨⟨ao3, cap3, kA⟩, _⟩ := hT
  have T4 := Lib.hid (refSettle_any bB A B Z aoB n capB f w8 kB.1 kB.2)
  rw [← HER.out] at T4
  have HP8 := Lib.hid (And.intro ks (And.intro kA (And.intro kB (And.intro kC kD))))
  clear ks kA kB kC kD T3 HP7
  go_wp2_with fail
  refine T4.out.mono ?_
  rintro _ w9 ⟨rfl, hT⟩
  dsimp only
  obtain ⟨ks, kA, kB, kC, kD⟩ := HP8.out
  replace ks := hT.other kB.1 ks.1 ks.2 neSB
  replace kA := hT.other kB.1 kA.1 kA.2 hneA
  replace kC := hT.other kB.1 kC.1 kC.2 (Ne.symm neBC)
  replace kD := hT.other kB.1 kD.1 kD.2 (Ne.symm neBD)
  have HBA := Lib.hid (hT.below HB9.out lwB)
  obtain ⟨⟨ao4, cap4, kB⟩, _⟩ := hT
  have HS9 := Lib.hid (fun w' (hw' : Below w9.heap.size w9 w') => ks.1.below hw' ks.1.lt)
  have HA9 := Lib.hid (fun w' (hw' : Below w9.heap.size w9 w') => kA.1.below hw' kA.1.lt)
  have HB9' := Lib.hid (fun w' (hw' : Below w9.heap.size w9 w') => kB.1.below hw' kB.1.lt)
  have HC9 := Lib.hid (fun w' (hw' : Below w9.heap.size w9 w') => kC.1.below hw' kC.1.lt)
  have HD9 := Lib.hid (fun w' (hw' : Below w9.heap.size w9 w') => kD.1.below hw' kD.1.lt)
  have HSM1 := Lib.hid (fun w' (hw' : Below w9.heap.size w9 w') => Same_any A B Z ao3 ao4 n cap3 cap4 _ _ w' (kA.2.later hw') (kB.2.later hw') (fun _ _ => rfl))
  have HSM2 := Lib.hid (fun w' (hw' : Below w9.heap.size w9 w') => Same_any A B Z ao1 ao2 n cap1 cap2 _ _ w' (kC.2.later hw') (kD.2.later hw') (fun _ _ => rfl))
  have HU1 := Lib.hid (fun w' (hw' : Below w9.heap.size w9 w') => Used_any A B Z ao3 n cap3 _ w' hB (kA.2.later hw'))
  have HU2 := Lib.hid (fun w' (hw' : Below w9.heap.size w9 w') => Used_any A B Z ao n cap f w' hB (ks.2.later hw'))
  rw [HE.out] at HU1
  generalize usedN A B Z n f = ud at *
  clear ks kA kB kC kD T4 HP8
  go_wp2_with fail
  refine wp_region_quiet (C := fun w' => Below w9.heap.size w9 w') (by kernel_rfl) (by kernel_rfl) ⟨rfl, rfl, rfl, Nat.le_refl _, fun _ _ => rfl⟩ ?_
  refine q_move _ rfl rfl ?_
  simp only [Act.put, List.setIfInBounds_toArray, List.set_cons_succ, List.set_cons_zero]
  refine q_move _ rfl rfl ?_
  simp only [Act.put, List.setIfInBounds_toArray, List.set_cons_succ, List.set_cons_zero]
  refine q_val (.bool true) rfl (fun w' hw' => by go_simp) ?_
  simp only [Act.put, List.setIfInBounds_toArray, List.set_cons_succ, List.set_cons_zero]
  refine q_move _ rfl rfl ?_
  simp only [Act.put, List.setIfInBounds_toArray, List.set_cons_succ, List.set_cons_zero]
  refine q_val (.agg #[.int .i64 A, .int .i64 B, .int .i64 Z, .slice ao3 n cap3]) (by kernel_rfl) (fun w' hw' => by have k0 := (HA9.out w' hw').c0; have k1 := (HA9.out w' hw').c1; have k2 := (HA9.out w' hw').c2; have k3 := (HA9.out w' hw').c3; go_simp) ?_
  simp only [Act.put, List.setIfInBounds_toArray, List.set_cons_succ, List.set_cons_zero]
  refine q_val (.agg #[.int .i64 A, .int .i64 B, .int .i64 Z, .slice ao4 n cap4]) (by kernel_rfl) (fun w' hw' => by have k0 := (HB9'.out w' hw').c0; have k1 := (HB9'.out w' hw').c1; have k2 := (HB9'.out w' hw').c2; have k3 := (HB9'.out w' hw').c3; go_simp) ?_
  simp only [Act.put, List.setIfInBounds_toArray, List.set_cons_succ, List.set_cons_zero]
  refine q_call 12 _ (.bool true) (by kernel_rfl) (fun w' => by go_simp) (fun w' hw' => (HSM1.out w' hw').mono fun e w'' ⟨he, hb⟩ => ⟨he, hw'.trans (hb.mono hw'.size)⟩) ?_
  simp only [Act.put, List.setIfInBounds_toArray, List.set_cons_succ, List.set_cons_zero]
  refine q_val (.bool true) rfl (fun w' hw' => by go_simp) ?_
  simp only [Act.put, List.setIfInBounds_toArray, List.set_cons_succ, List.set_cons_zero]
  refine q_move _ rfl rfl ?_
  simp only [Act.put, List.setIfInBounds_toArray, List.set_cons_succ, List.set_cons_zero]
  refine q_val (.agg #[.int .i64 A, .int .i64 B, .int .i64 Z, .slice ao3 n cap3]) (by kernel_rfl) (fun w' hw' => by have k0 := (HA9.out w' hw').c0; have k1 := (HA9.out w' hw').c1; have k2 := (HA9.out w' hw').c2; have k3 := (HA9.out w' hw').c3; go_simp) ?_
  simp only [Act.put, List.setIfInBounds_toArray, List.set_cons_succ, List.set_cons_zero]
  refine q_call 18 _ (.int .i64 ud) (by kernel_rfl) (fun w' => by go_simp) (fun w' hw' => (HU1.out w' hw').mono fun e w'' ⟨he, hb⟩ => ⟨he, hw'.trans (hb.mono hw'.size)⟩) ?_
  simp only [Act.put, List.setIfInBounds_toArray, List.set_cons_succ, List.set_cons_zero]
  refine q_val (.agg #[.int .i64 A, .int .i64 B, .int .i64 Z, .slice ao n cap]) (by kernel_rfl) (fun w' hw' => by have k0 := (HS9.out w' hw').c0; have k1 := (HS9.out w' hw').c1; have k2 := (HS9.out w' hw').c2; have k3 := (HS9.out w' hw').c3; go_simp) ?_
  simp only [Act.put, List.setIfInBounds_toArray, List.set_cons_succ, List.set_cons_zero]
  refine q_call 18 _ (.int .i64 ud) (by kernel_rfl) (fun w' => by go_simp) (fun w' hw' => (HU2.out w' hw').mono fun e w'' ⟨he, hb⟩ => ⟨he, hw'.trans (hb.mono hw'.size)⟩) ?_
  simp only [Act.put, List.setIfInBounds_toArray, List.set_cons_succ, List.set_cons_zero]
  refine q_val (.bool true) (by kernel_rfl) (fun w' hw' => by go_simp) ?_
  simp only [Act.put, List.setIfInBounds_toArray, List.set_cons_succ, List.set_cons_zero]
  refine q_val (.bool true) rfl (fun w' hw' => by go_simp) ?_
  simp only [Act.put, List.setIfInBounds_toArray, List.set_cons_succ, List.set_cons_zero]
  refine q_move _ rfl rfl ?_
  simp only [Act.put, List.setIfInBounds_toArray, List.set_cons_succ, List.set_cons_zero]
  refine q_move _ rfl (by kernel_rfl) ?_
  simp only [Act.put, List.setIfInBounds_toArray, List.set_cons_succ, List.set_cons_zero]
  refine q_move _ rfl (by kernel_rfl) ?_
  simp only [Act.put, List.setIfInBounds_toArray, List.set_cons_succ, List.set_cons_zero]
  refine q_val (.bool true) (by kernel_rfl) (fun w' hw' => by go_simp) ?_
  simp only [Act.put, List.setIfInBounds_toArray, List.set_cons_succ, List.set_cons_zero]
  refine q_val (.bool true) rfl (fun w' hw' => by go_simp) ?_
  simp only [Act.put, List.setIfInBounds_toArray, List.set_cons_succ, List.set_cons_zero]
  refine q_move _ rfl rfl ?_
  simp only [Act.put, List.setIfInBounds_toArray, List.set_cons_succ, List.set_cons_zero]
  refine q_val (.agg #[.int .i64 A, .int .i64 B, .int .i64 Z, .slice ao1 n cap1]) (by kernel_rfl) (fun w' hw' => by have k0 := (HC9.out w' hw').c0; have k1 := (HC9.out w' hw').c1; have k2 := (HC9.out w' hw').c2; have k3 := (HC9.out w' hw').c3; go_simp) ?_
  simp only [Act.put, List.setIfInBounds_toArray, List.set_cons_succ, List.set_cons_zero]
  refine q_val (.agg #[.int .i64 A, .int .i64 B, .int .i64 Z, .slice ao2 n cap2]) (by kernel_rfl) (fun w' hw' => by have k0 := (HD9.out w' hw').c0; have k1 := (HD9.out w' hw').c1; have k2 := (HD9.out w' hw').c2; have k3 := (HD9.out w' hw').c3; go_simp) ?_
  simp only [Act.put, List.setIfInBounds_toArray, List.set_cons_succ, List.set_cons_zero]
  refine q_call 12 _ (.bool true) (by kernel_rfl) (fun w' => by go_simp) (fun w' hw' => (HSM2.out w' hw').mono fun e w'' ⟨he, hb⟩ => ⟨he, hw'.trans (hb.mono hw'.size)⟩) ?_
  simp only [Act.put, List.setIfInBounds_toArray, List.set_cons_succ, List.set_cons_zero]
  refine q_val (.bool true) rfl (fun w' hw' => by go_simp) ?_
  simp only [Act.put, List.setIfInBounds_toArray, List.set_cons_succ, List.set_cons_zero]
  refine q_val (.bool true) rfl (fun w' hw' => by go_simp) ?_
  simp only [Act.put, List.setIfInBounds_toArray, List.set_cons_succ, List.set_cons_zero]
  refine wpQuiet_nil ?_
  intro w' hw'
  go_wp2_with fail
  go_ret
  exact ⟨rfl, HBA.out.trans (hw'.mono HBA.out.size)⟩
end
end Sp
end Go.Proofs.Ytdbmdocmnhgbpaa
