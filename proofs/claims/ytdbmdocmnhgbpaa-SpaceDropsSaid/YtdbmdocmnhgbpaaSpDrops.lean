/- SpaceDrops: the law's walk (made by tools/gen_splaws.py). -/
import Derived.Test.YtdbmdocmnhgbpaaSpTw
import Derived.Test.YtdbmdocmnhgbpaaSpSettles
namespace Go.Proofs.Ytdbmdocmnhgbpaa
set_option maxRecDepth 20000
namespace Sp
open Go.RowKit Dk Eqb Byt

attribute [local irreducible] wpQuiet
/-- x and y in the same call: neither is done, x alone, both -/
def DrW (W : World) (bx bz : Nat) (A B Z : Int) (n : Nat) (F : Nat → Int) (a b : Bool) (w' : World) : Prop :=
  match a, b with
  | false, false => Below W.heap.size W w'
  | true, false => Turn W bx A B Z n F w'
  | true, true => ∃ w6, Turn W bx A B Z n F w6 ∧ Turn w6 bz A B Z n F w'
  | false, true => False
theorem DrW.blk {W : World} {bx bz : Nat} {A B Z : Int} {n : Nat} {F : Nat → Int} {a b : Bool} {w' : World} (h : DrW W bx bz A B Z n F a b w') {k : Nat} (hk : k < W.heap.size) (h1 : k ≠ bx) (h2 : k ≠ bz) : w'.heap[k]? = W.heap[k]? := by
  match a, b, h with
  | false, false, h => exact Below.block h k hk
  | true, false, h => exact (Turn.only h).block k hk (by simpa using h1)
  | true, true, ⟨w6, h3, h4⟩ => exact (h4.only.block k (by have := h3.only.size; omega) (by simpa using h2)).trans (h3.only.block k hk (by simpa using h1))
def DropInv1 (x0 x1 x3 x4 x7 x8 x9 x10 x11 x12 x13 x14 x19 x20 x21 x22 x23 x24 x25 x26 x27 x28 x29 x30 x31 x32 x33 x34 x35 x36 x37 x38 x39 x40 x41 x42 x43 x44 x45 x46 x47 x48 : Value) (bx : Nat) (dv : Value) (A B Z : Int) (n : Nat) (f : Nat → Int) (W : World) (L : Nat → Bool) (a' : Act) (w' : World) : Prop :=
  ∃ u0 u1 u2 u3 u4 u5, a' = { tmps := #[x0, x1, .pointer (some ⟨bx, 0, none⟩), x3, x4, u4, u5, x7, x8, x9, x10, x11, x12, x13, x14, u0, u1, u2, u3, x19, x20, x21, x22, x23, x24, x25, x26, x27, x28, x29, x30, x31, x32, x33, x34, x35, x36, x37, x38, x39, x40, x41, x42, x43, x44, x45, x46, x47, x48], defers := [] } ∧ TwS.Tw (fun v w' => CopS W.heap.size A B Z n f v w') 26 4 dv W L u0 u1 u2 u3 u4 u5 w'
def DropInv2 (x0 x1 x3 x4 x5 x6 x7 x8 x11 x12 x13 x14 x15 x16 x17 x18 x19 x20 x21 x22 x27 x28 x29 x30 x31 x32 x33 x34 x35 x36 x37 x38 x39 x40 x41 x42 x43 x44 x45 x46 x47 x48 : Value) (bx : Nat) (dv : Value) (A B Z : Int) (n : Nat) (f : Nat → Int) (W : World) (L : Nat → Bool) (a' : Act) (w' : World) : Prop :=
  ∃ u0 u1 u2 u3 u4 u5, a' = { tmps := #[x0, x1, .pointer (some ⟨bx, 0, none⟩), x3, x4, x5, x6, x7, x8, u4, u5, x11, x12, x13, x14, x15, x16, x17, x18, x19, x20, x21, x22, u0, u1, u2, u3, x27, x28, x29, x30, x31, x32, x33, x34, x35, x36, x37, x38, x39, x40, x41, x42, x43, x44, x45, x46, x47, x48], defers := [] } ∧ TwS.Tw (fun v w' => CopS W.heap.size A B Z n f v w') 26 4 dv W L u0 u1 u2 u3 u4 u5 w'
def DropCall1 (x0 x1 x2 x4 x9 x10 x11 x12 x13 x14 x15 x16 x17 x18 x23 x24 x25 x26 x27 x28 x29 x30 x31 x32 x33 x34 x35 x36 x37 x38 x39 x40 x41 x42 x43 x44 x45 x46 x47 x48 : Value) (q bx bz : Nat) (er : Int) (p : Pt.Pn) (A B Z : Int) (n : Nat) (F : Nat → Int) (W : World) (L : Nat → Bool) (a' : Act) (w' : World) : Prop :=
  ∃ u0 u1 u2 u3 u4 u5, a' = { tmps := #[x0, x1, x2, .pointer (some ⟨q + 1, 0, none⟩), x4, .pointer (some ⟨bx, 0, none⟩), .pointer (some ⟨bz, 0, none⟩), u4, u5, x9, x10, x11, x12, x13, x14, x15, x16, x17, x18, u0, u1, u2, u3, x23, x24, x25, x26, x27, x28, x29, x30, x31, x32, x33, x34, x35, x36, x37, x38, x39, x40, x41, x42, x43, x44, x45, x46, x47, x48], defers := [] } ∧ (L 0 = true → u0 = .agg (Pt.pV p).toArray) ∧ (L 1 = true → u1 = .int .i64 er) ∧ (L 2 = true → u2 = .agg (Pt.pV p).toArray) ∧ (L 3 = true → u3 = .int .i64 er) ∧ (L 4 = true → u4 = .int .i64 er) ∧ (L 5 = true → u5 = .int .i64 er) ∧ DrW W bx bz A B Z n F (L 1) (L 3) w'
theorem DropCall1_kl {L : Nat → Bool} {i k : Nat} {Q : Prop} (h : L k = true → Q) (h1 : (k == i) = false) : (k == i || L k) = true → Q := by
  rw [h1, Bool.false_or]
  exact h
def DropCall2 (x0 x1 x2 x4 x5 x6 x7 x8 x13 x14 x15 x16 x17 x18 x19 x20 x21 x22 x23 x24 x25 x26 x31 x32 x33 x34 x35 x36 x37 x38 x39 x40 x41 x42 x43 x44 x45 x46 x47 x48 : Value) (q bx bz : Nat) (er : Int) (p : Pt.Pn) (A B Z : Int) (n : Nat) (F : Nat → Int) (W : World) (L : Nat → Bool) (a' : Act) (w' : World) : Prop :=
  ∃ u0 u1 u2 u3 u4 u5, a' = { tmps := #[x0, x1, x2, .pointer (some ⟨q + 1, 0, none⟩), x4, x5, x6, x7, x8, .pointer (some ⟨bx, 0, none⟩), .pointer (some ⟨bz, 0, none⟩), u4, u5, x13, x14, x15, x16, x17, x18, x19, x20, x21, x22, x23, x24, x25, x26, u0, u1, u2, u3, x31, x32, x33, x34, x35, x36, x37, x38, x39, x40, x41, x42, x43, x44, x45, x46, x47, x48], defers := [] } ∧ (L 0 = true → u0 = .agg (Pt.pV p).toArray) ∧ (L 1 = true → u1 = .int .i64 er) ∧ (L 2 = true → u2 = .agg (Pt.pV p).toArray) ∧ (L 3 = true → u3 = .int .i64 er) ∧ (L 4 = true → u4 = .int .i64 er) ∧ (L 5 = true → u5 = .int .i64 er) ∧ DrW W bx bz A B Z n F (L 1) (L 3) w'
theorem DropCall2_kl {L : Nat → Bool} {i k : Nat} {Q : Prop} (h : L k = true → Q) (h1 : (k == i) = false) : (k == i || L k) = true → Q := by
  rw [h1, Bool.false_or]
  exact h

section
attribute [local go_sem] zvSp
set_option maxRecDepth 100000 in
set_option maxHeartbeats 8000000 in
theorem drops7_any (A B Z : Int) (ao : Option Addr) (n cap : Nat) (f : Nat → Int) (p : Pt.Pn) (w : World) (hB : i64 B) (hs : St w w.heap.size ao n cap f) (hpA : i64 p.A) (hpB : i64 p.B) : Calls Try.prog 6 #[.agg #[.int .i64 A, .int .i64 B, .int .i64 Z, .slice ao n cap], .agg (Pt.pV p).toArray] w fun e w' => e = .returned (.bool true) ∧ Below w.heap.size w w' := by
  obtain ⟨W, hW, hbW, hsW, hxW, hpW⟩ := box_two w A B Z ao n cap p
  have HA := Lib.hid (alive7_any W)
  have hby := hs.byte
  have hrm := hs.room
  have HST0 := Lib.hid (fun w' (hb : Below w.heap.size w w') => hs.later hb)
  clear hs
  go_enter Try.func6, Try.ntmps6
  go_wp2_with (rw [← hW])
  clear hW
  refine HA.out.mono ?_
  rintro _ w1 ⟨rfl, hb1⟩
  dsimp only
  have HB1 := Lib.hid (hbW.trans (hb1.mono (by omega)))
  have HLT := Lib.hid (show w.heap.size + 1 < w1.heap.size by have := hb1.size; omega)
  have HBX := Lib.hid (fun w' (hw' : Below w1.heap.size w1 w') => (hxW.below hb1 (by omega)).below hw' (by have := hb1.size; omega))
  have HPB := Lib.hid (fun w' (hw' : Below w1.heap.size w1 w') => (hw'.block (w.heap.size + 1) (by have := hb1.size; omega)).trans ((hb1.block (w.heap.size + 1) (by omega)).trans hpW))
  have HST := Lib.hid (fun w' (hw' : Below w1.heap.size w1 w') => HST0.out w' (HB1.out.trans (hw'.mono HB1.out.size)))
  clear hb1 HA hxW hbW hpW
  go_wp2_with fail
  refine QuietTail2.regionInv (n := 8) (Inv := DropInv1 _ _ _ _ _ _ _ _ _ _ _ _ _ _ _ _ _ _ _ _ _ _ _ _ _ _ _ _ _ _ _ _ _ _ _ _ _ _ _ _ _ _ w.heap.size (.agg #[.int .i64 A, .int .i64 B, .int .i64 Z, .slice ao n cap]) A B Z n f w1) (by kernel_rfl) (by decide) (by kernel_rfl) ⟨_, _, _, _, _, _, rfl, TwS.Tw.start⟩ ?stepA ?finA
  case stepA =>
    rintro i o hi ho L a' w' ⟨u0, u1, u2, u3, u4, u5, rfl, TT⟩ hL hpre
    match i, hi with
    | 0, _ =>
      simp at ho
      subst ho
      have hH := HBX.out w' TT.be; have k0 := hH.c0; have k1 := hH.c1; have k2 := hH.c2; have k3 := hH.c3; clear hH
      go_simp
      exact ⟨_, u1, u2, u3, u4, u5, rfl, TT.load0⟩
    | 1, _ =>
      simp at ho
      subst ho
      obtain rfl := TT.a0 (hpre 0 (by kernel_rfl))
      go_simp
      refine (Copy_any A B Z ao n cap f w' (HST.out w' TT.be)).mono ?_
      rintro _ w'' ⟨ao', cap', rfl, hv, hb⟩
      exact ⟨_, _, u2, u3, u4, u5, rfl, TT.call1 hL ⟨ao', cap', rfl, hv.more TT.be.size⟩ hb (fun _ _ _ h hb => CopS.below h hb)⟩
    | 2, _ =>
      simp at ho
      subst ho
      have hH := HBX.out w' TT.be; have k0 := hH.c0; have k1 := hH.c1; have k2 := hH.c2; have k3 := hH.c3; clear hH
      go_simp
      exact ⟨u0, u1, _, u3, u4, u5, rfl, TT.load2⟩
    | 3, _ =>
      simp at ho
      subst ho
      obtain rfl := TT.a2 (hpre 2 (by kernel_rfl))
      go_simp
      refine (Copy_any A B Z ao n cap f w' (HST.out w' TT.be)).mono ?_
      rintro _ w'' ⟨ao', cap', rfl, hv, hb⟩
      exact ⟨u0, u1, _, _, u4, u5, rfl, TT.call3 hL ⟨ao', cap', rfl, hv.more TT.be.size⟩ hb (fun _ _ _ h hb => CopS.below h hb)⟩
    | 4, _ =>
      simp at ho
      subst ho
      go_simp
      exact ⟨u0, u1, u2, u3, _, u5, rfl, TT.alloc4 hL rfl (fun _ _ _ h hb => CopS.below h hb)⟩
    | 5, _ =>
      simp at ho
      subst ho
      go_simp
      exact ⟨u0, u1, u2, u3, u4, _, rfl, TT.alloc5 hL rfl (fun _ _ _ h hb => CopS.below h hb)⟩
    | 6, _ =>
      simp at ho
      subst ho
      have h1 := hpre 1 (by kernel_rfl)
      have h4 := hpre 4 (by kernel_rfl)
      obtain ⟨b, c0, e4, _, hb, hs, _⟩ := TT.a4 h4
      obtain ⟨ao1, cap1, rfl, q1⟩ := TT.a1 h1
      subst e4
      refine wp_store_row 26 (.tmp 5) (.tmp 16) rfl b #[.int .i64 A, .int .i64 B, .int .i64 Z, .slice ao1 n cap1] rfl rfl 26 c0 hb (by kernel_rfl) hs (sp_one _ _ _ _ _ _) ?_
      exact ⟨u0, _, u2, u3, _, u5, rfl, TT.store6 h1 h4 rfl rfl hb rfl (fun _ _ _ _ c h hb => CopS.row h hb c)⟩
    | 7, _ =>
      simp at ho
      subst ho
      have h1 := hpre 3 (by kernel_rfl)
      have h4 := hpre 5 (by kernel_rfl)
      obtain ⟨b, c0, e4, _, hb, hs, _⟩ := TT.a5 h4
      obtain ⟨ao1, cap1, rfl, q1⟩ := TT.a3 h1
      subst e4
      refine wp_store_row 26 (.tmp 6) (.tmp 18) rfl b #[.int .i64 A, .int .i64 B, .int .i64 Z, .slice ao1 n cap1] rfl rfl 26 c0 hb (by kernel_rfl) hs (sp_one _ _ _ _ _ _) ?_
      exact ⟨u0, u1, u2, _, u4, _, rfl, TT.store7 h1 h4 rfl rfl hb rfl (fun _ _ _ _ c h hb => CopS.row h hb c)⟩
    | i + 8, h => omega
  rintro L a' w5A hall ⟨u0, u1, u2, u3, u4, u5, rfl, TT⟩
  obtain ⟨bA, cA, bB, cB, rfl, rfl, lA, lB, hneA, hA, hB, pA, pB, hbeA⟩ := TT.fin hall
  clear TT hall
  obtain ⟨aoA, capA, xA, sA⟩ := CopS.laid pA hA hby hrm
  obtain ⟨aoB, capB, xB, sB⟩ := CopS.laid pB hB hby hrm
  clear hA hB pA pB
  simp only [List.drop_succ_cons, List.drop_zero]
  refine wpList_nil ?_
  have HB5 := Lib.hid (HB1.out.trans (hbeA.mono HB1.out.size))
  have hlw := HLT.out
  have hs5 := hbeA.size
  have hlA := xA.lt
  have hlB := xB.lt
  have hxs := HBX.out w5A hbeA
  have hss := HST.out w5A hbeA
  have hpb := HPB.out w5A hbeA
  have HPP := Lib.hid (fun (w' : World) (hr : w'.heap[w.heap.size + 1]? = w5A.heap[w.heap.size + 1]?) => Pt.row_pt (hr.trans hpb))
  obtain ⟨er, her⟩ : ∃ er, er = drE A B Z n f p := ⟨_, rfl⟩
  obtain ⟨F, hFF⟩ : ∃ F, F = drF A B Z n f p := ⟨_, rfl⟩
  have H1 := Lib.hid (fun (w' : World) (hw' : Below w5A.heap.size w5A w') => Drop_any bA A B Z p aoA n capA f w' (xA.below hw' xA.lt) hB (sA.later hw') hpA hpB)
  have H2 := Lib.hid (fun (w' : World) (hT : Turn w5A bA A B Z n (drF A B Z n f p) w') => refDrop_any bB A B Z p aoB n capB f w' (hT.other xA xB sB (Ne.symm hneA)).1 (hT.other xA xB sB (Ne.symm hneA)).2 hpA hpB)
  rw [← her, ← hFF] at H1 H2
  clear her hFF
  have HKA := Lib.hid (And.intro xA sA)
  have HKB := Lib.hid (And.intro xB sB)
  have HKS := Lib.hid (And.intro hxs hss)
  have HPb := Lib.hid hpb
  clear HBX HST HPB hbeA xA sA xB sB hxs hss hpb
  go_wp2_with fail
  refine QuietTail2.regionInv (n := 6) (Inv := DropCall1 _ _ _ _ _ _ _ _ _ _ _ _ _ _ _ _ _ _ _ _ _ _ _ _ _ _ _ _ _ _ _ _ _ _ _ _ _ _ _ _ w.heap.size bA bB er p A B Z n F w5A) (by kernel_rfl) (by decide) (by kernel_rfl) ⟨_, _, _, _, _, _, rfl, by simp, by simp, by simp, by simp, by simp, by simp, ⟨rfl, rfl, rfl, Nat.le_refl _, fun _ _ => rfl⟩⟩ ?stepP ?finP
  case stepP =>
    rintro i o hi ho L a' w' ⟨u0, u1, u2, u3, u4, u5, rfl, i0, i1, i2, i3, i4, i5, iW⟩ hL hpre
    match i, hi with
    | 0, _ =>
      simp at ho
      subst ho
      refine wp_load_mid 44 (.tmp 3) rfl (w.heap.size + 1) 0 rfl (Pt.pV p) _ (HPP.out w' (DrW.blk iW (by omega) (by omega) (by omega))) Pt.undP rfl (Pt.sizeP p) ?_
      simp only [Act.put, List.setIfInBounds_toArray, List.set_cons_succ, List.set_cons_zero]
      exact ⟨_, u1, u2, u3, u4, u5, rfl, fun _ => rfl, DropCall1_kl i1 rfl, DropCall1_kl i2 rfl, DropCall1_kl i3 rfl, DropCall1_kl i4 rfl, DropCall1_kl i5 rfl, iW⟩
    | 1, _ =>
      simp at ho
      subst ho
      obtain rfl := i0 (hpre 0 (by kernel_rfl))
      go_simp
      cases h3 : L 3 with
      | true => rw [hL, h3] at iW; exact iW.elim
      | false =>
        rw [hL, h3] at iW
        refine (H1.out w' iW).mono ?_
        rintro _ w'' ⟨rfl, hT⟩
        exact ⟨_, _, u2, u3, u4, u5, rfl, DropCall1_kl i0 rfl, fun _ => rfl, DropCall1_kl i2 rfl, DropCall1_kl i3 rfl, DropCall1_kl i4 rfl, DropCall1_kl i5 rfl, (by show DrW _ _ _ _ _ _ _ _ true (L 3) w''; rw [h3]; exact hT.after iW)⟩
    | 2, _ =>
      simp at ho
      subst ho
      refine wp_load_mid 44 (.tmp 3) rfl (w.heap.size + 1) 0 rfl (Pt.pV p) _ (HPP.out w' (DrW.blk iW (by omega) (by omega) (by omega))) Pt.undP rfl (Pt.sizeP p) ?_
      simp only [Act.put, List.setIfInBounds_toArray, List.set_cons_succ, List.set_cons_zero]
      exact ⟨u0, u1, _, u3, u4, u5, rfl, DropCall1_kl i0 rfl, DropCall1_kl i1 rfl, fun _ => rfl, DropCall1_kl i3 rfl, DropCall1_kl i4 rfl, DropCall1_kl i5 rfl, iW⟩
    | 3, _ =>
      simp at ho
      subst ho
      obtain rfl := i2 (hpre 2 (by kernel_rfl))
      obtain rfl := i1 (hpre 1 (by kernel_rfl))
      have h1 := hpre 1 (by kernel_rfl)
      go_simp
      rw [hL, h1] at iW
      refine (H2.out w' iW).mono ?_
      rintro _ w'' ⟨rfl, hT⟩
      exact ⟨u0, _, _, _, u4, u5, rfl, DropCall1_kl i0 rfl, DropCall1_kl i1 rfl, DropCall1_kl i2 rfl, fun _ => rfl, DropCall1_kl i4 rfl, DropCall1_kl i5 rfl, (by show DrW _ _ _ _ _ _ _ _ (L 1) true w''; rw [h1]; exact ⟨w', iW, hT⟩)⟩
    | 4, _ =>
      simp at ho
      subst ho
      obtain rfl := i1 (hpre 1 (by kernel_rfl))
      go_simp
      exact ⟨u0, _, u2, u3, _, u5, rfl, DropCall1_kl i0 rfl, DropCall1_kl i1 rfl, DropCall1_kl i2 rfl, DropCall1_kl i3 rfl, fun _ => rfl, DropCall1_kl i5 rfl, iW⟩
    | 5, _ =>
      simp at ho
      subst ho
      obtain rfl := i3 (hpre 3 (by kernel_rfl))
      go_simp
      exact ⟨u0, u1, u2, _, u4, _, rfl, DropCall1_kl i0 rfl, DropCall1_kl i1 rfl, DropCall1_kl i2 rfl, DropCall1_kl i3 rfl, DropCall1_kl i4 rfl, fun _ => rfl, iW⟩
    | i + 6, h => omega
  case finP =>
    rintro L a' w6 hall ⟨u0, u1, u2, u3, u4, u5, rfl, i0, i1, i2, i3, i4, i5, iW⟩
    obtain rfl := i0 (hall 0 (by omega))
    obtain rfl := i1 (hall 1 (by omega))
    obtain rfl := i2 (hall 2 (by omega))
    obtain rfl := i3 (hall 3 (by omega))
    obtain rfl := i4 (hall 4 (by omega))
    obtain rfl := i5 (hall 5 (by omega))
    rw [hall 1 (by omega), hall 3 (by omega)] at iW
    obtain ⟨wP, hP, hQ⟩ := iW
    clear i0 i1 i2 i3 i4 i5 hall
    simp only [List.drop_succ_cons, List.drop_zero]
    refine wpList_nil ?_
    obtain ⟨aoP, capP, xP, sP⟩ := hP.sp
    have kB1 := hP.other HKA.out.1 HKB.out.1 HKB.out.2 (Ne.symm hneA)
    have kS1 := hP.other HKA.out.1 HKS.out.1 HKS.out.2 (show w.heap.size ≠ bA by omega)
    have kA := hQ.other kB1.1 xP sP hneA
    have kS := hQ.other kB1.1 kS1.1 kS1.2 (show w.heap.size ≠ bB by omega)
    obtain ⟨aoQ, capQ, xQ, sQ⟩ := hQ.sp
    have hpb : w6.heap[w.heap.size + 1]? = some (.cells (Pt.pV p).toArray 44 (0, 0)) := (hQ.only.block _ (by have := hP.only.size; omega) (by simp; omega)).trans ((hP.only.block _ (by omega) (by simp; omega)).trans HPb.out)
    have HB6 := Lib.hid (hQ.below (hP.below HB5.out (by omega)) (by omega))
    have hs6 : w5A.heap.size ≤ w6.heap.size := by have := hP.only.size; have := hQ.only.size; omega
    have HBX := Lib.hid (fun w' (hw' : Below w6.heap.size w6 w') => kS.1.below hw' (by omega))
    have HST := Lib.hid (fun w' (hw' : Below w6.heap.size w6 w') => kS.2.later hw')
    have HPB := Lib.hid (fun w' (hw' : Below w6.heap.size w6 w') => (hw'.block (w.heap.size + 1) (by omega)).trans hpb)
    have HKA2 := Lib.hid kA
    have HKB2 := Lib.hid (And.intro xQ sQ)
    clear hP hQ xP sP kB1 kS1 kA kS xQ sQ hpb HKA HKB HKS HPb HPP H1 H2
    go_wp2_with fail
    refine QuietTail2.regionInv (n := 8) (Inv := DropInv2 _ _ _ _ _ _ _ _ _ _ _ _ _ _ _ _ _ _ _ _ _ _ _ _ _ _ _ _ _ _ _ _ _ _ _ _ _ _ _ _ _ _ w.heap.size (.agg #[.int .i64 A, .int .i64 B, .int .i64 Z, .slice ao n cap]) A B Z n f w6) (by kernel_rfl) (by decide) (by kernel_rfl) ⟨_, _, _, _, _, _, rfl, TwS.Tw.start⟩ ?stepC ?finC
    case stepC =>
      rintro i o hi ho L a' w' ⟨u0, u1, u2, u3, u4, u5, rfl, TT⟩ hL hpre
      match i, hi with
      | 0, _ =>
        simp at ho
        subst ho
        have hH := HBX.out w' TT.be; have k0 := hH.c0; have k1 := hH.c1; have k2 := hH.c2; have k3 := hH.c3; clear hH
        go_simp
        exact ⟨_, u1, u2, u3, u4, u5, rfl, TT.load0⟩
      | 1, _ =>
        simp at ho
        subst ho
        obtain rfl := TT.a0 (hpre 0 (by kernel_rfl))
        go_simp
        refine (Copy_any A B Z ao n cap f w' (HST.out w' TT.be)).mono ?_
        rintro _ w'' ⟨ao', cap', rfl, hv, hb⟩
        exact ⟨_, _, u2, u3, u4, u5, rfl, TT.call1 hL ⟨ao', cap', rfl, hv.more TT.be.size⟩ hb (fun _ _ _ h hb => CopS.below h hb)⟩
      | 2, _ =>
        simp at ho
        subst ho
        have hH := HBX.out w' TT.be; have k0 := hH.c0; have k1 := hH.c1; have k2 := hH.c2; have k3 := hH.c3; clear hH
        go_simp
        exact ⟨u0, u1, _, u3, u4, u5, rfl, TT.load2⟩
      | 3, _ =>
        simp at ho
        subst ho
        obtain rfl := TT.a2 (hpre 2 (by kernel_rfl))
        go_simp
        refine (Copy_any A B Z ao n cap f w' (HST.out w' TT.be)).mono ?_
        rintro _ w'' ⟨ao', cap', rfl, hv, hb⟩
        exact ⟨u0, u1, _, _, u4, u5, rfl, TT.call3 hL ⟨ao', cap', rfl, hv.more TT.be.size⟩ hb (fun _ _ _ h hb => CopS.below h hb)⟩
      | 4, _ =>
        simp at ho
        subst ho
        go_simp
        exact ⟨u0, u1, u2, u3, _, u5, rfl, TT.alloc4 hL rfl (fun _ _ _ h hb => CopS.below h hb)⟩
      | 5, _ =>
        simp at ho
        subst ho
        go_simp
        exact ⟨u0, u1, u2, u3, u4, _, rfl, TT.alloc5 hL rfl (fun _ _ _ h hb => CopS.below h hb)⟩
      | 6, _ =>
        simp at ho
        subst ho
        have h1 := hpre 1 (by kernel_rfl)
        have h4 := hpre 4 (by kernel_rfl)
        obtain ⟨b, c0, e4, _, hb, hs, _⟩ := TT.a4 h4
        obtain ⟨ao1, cap1, rfl, q1⟩ := TT.a1 h1
        subst e4
        refine wp_store_row 26 (.tmp 9) (.tmp 24) rfl b #[.int .i64 A, .int .i64 B, .int .i64 Z, .slice ao1 n cap1] rfl rfl 26 c0 hb (by kernel_rfl) hs (sp_one _ _ _ _ _ _) ?_
        exact ⟨u0, _, u2, u3, _, u5, rfl, TT.store6 h1 h4 rfl rfl hb rfl (fun _ _ _ _ c h hb => CopS.row h hb c)⟩
      | 7, _ =>
        simp at ho
        subst ho
        have h1 := hpre 3 (by kernel_rfl)
        have h4 := hpre 5 (by kernel_rfl)
        obtain ⟨b, c0, e4, _, hb, hs, _⟩ := TT.a5 h4
        obtain ⟨ao1, cap1, rfl, q1⟩ := TT.a3 h1
        subst e4
        refine wp_store_row 26 (.tmp 10) (.tmp 26) rfl b #[.int .i64 A, .int .i64 B, .int .i64 Z, .slice ao1 n cap1] rfl rfl 26 c0 hb (by kernel_rfl) hs (sp_one _ _ _ _ _ _) ?_
        exact ⟨u0, u1, u2, _, u4, _, rfl, TT.store7 h1 h4 rfl rfl hb rfl (fun _ _ _ _ c h hb => CopS.row h hb c)⟩
      | i + 8, h => omega
    rintro L a' w5C hall ⟨u0, u1, u2, u3, u4, u5, rfl, TT⟩
    obtain ⟨bC, cC, bD, cD, rfl, rfl, lC, lD, hneC, hC, hD, pC, pD, hbeC⟩ := TT.fin hall
    clear TT hall
    obtain ⟨aoC, capC, xC, sC⟩ := CopS.laid pC hC hby hrm
    obtain ⟨aoD, capD, xD, sD⟩ := CopS.laid pD hD hby hrm
    clear hC hD pC pD
    simp only [List.drop_succ_cons, List.drop_zero]
    refine wpList_nil ?_
    have HB7 := Lib.hid (HB6.out.trans (hbeC.mono HB6.out.size))
    have hs7 := hbeC.size
    have hlC := xC.lt
    have hlD := xD.lt
    have hpb := HPB.out w5C hbeC
    have xA := HKA2.out.1.below hbeC (by omega)
    have sA := HKA2.out.2.later hbeC
    have xB := HKB2.out.1.below hbeC (by omega)
    have sB := HKB2.out.2.later hbeC
    have HPP := Lib.hid (fun (w' : World) (hr : w'.heap[w.heap.size + 1]? = w5C.heap[w.heap.size + 1]?) => Pt.row_pt (hr.trans hpb))
    obtain ⟨er2, her⟩ : ∃ er, er = mkE A B Z n f p := ⟨_, rfl⟩
    obtain ⟨F2, hFF⟩ : ∃ F, F = mkF A B Z n f p := ⟨_, rfl⟩
    have H1 := Lib.hid (fun (w' : World) (hw' : Below w5C.heap.size w5C w') => Mark_any bC A B Z p aoC n capC f w' (xC.below hw' xC.lt) hB (sC.later hw') hpA hpB)
    have H2 := Lib.hid (fun (w' : World) (hT : Turn w5C bC A B Z n (mkF A B Z n f p) w') => refMark_any bD A B Z p aoD n capD f w' (hT.other xC xD sD (Ne.symm hneC)).1 (hT.other xC xD sD (Ne.symm hneC)).2 hpA hpB)
    rw [← her, ← hFF] at H1 H2
    clear her hFF
    have HKC := Lib.hid (And.intro xC sC)
    have HKD := Lib.hid (And.intro xD sD)
    have HKA := Lib.hid (And.intro xA sA)
    have HKB := Lib.hid (And.intro xB sB)
    clear HBX HST HPB hbeC xA sA xB sB xC sC xD sD HKA2 HKB2 hpb
    go_wp2_with fail
    refine QuietTail2.regionInv (n := 6) (Inv := DropCall2 _ _ _ _ _ _ _ _ _ _ _ _ _ _ _ _ _ _ _ _ _ _ _ _ _ _ _ _ _ _ _ _ _ _ _ _ _ _ _ _ w.heap.size bC bD er2 p A B Z n F2 w5C) (by kernel_rfl) (by decide) (by kernel_rfl) ⟨_, _, _, _, _, _, rfl, by simp, by simp, by simp, by simp, by simp, by simp, ⟨rfl, rfl, rfl, Nat.le_refl _, fun _ _ => rfl⟩⟩ ?stepQ ?finQ
    case stepQ =>
      rintro i o hi ho L a' w' ⟨u0, u1, u2, u3, u4, u5, rfl, i0, i1, i2, i3, i4, i5, iW⟩ hL hpre
      match i, hi with
      | 0, _ =>
        simp at ho
        subst ho
        refine wp_load_mid 44 (.tmp 3) rfl (w.heap.size + 1) 0 rfl (Pt.pV p) _ (HPP.out w' (DrW.blk iW (by omega) (by omega) (by omega))) Pt.undP rfl (Pt.sizeP p) ?_
        simp only [Act.put, List.setIfInBounds_toArray, List.set_cons_succ, List.set_cons_zero]
        exact ⟨_, u1, u2, u3, u4, u5, rfl, fun _ => rfl, DropCall2_kl i1 rfl, DropCall2_kl i2 rfl, DropCall2_kl i3 rfl, DropCall2_kl i4 rfl, DropCall2_kl i5 rfl, iW⟩
      | 1, _ =>
        simp at ho
        subst ho
        obtain rfl := i0 (hpre 0 (by kernel_rfl))
        go_simp
        cases h3 : L 3 with
        | true => rw [hL, h3] at iW; exact iW.elim
        | false =>
          rw [hL, h3] at iW
          refine (H1.out w' iW).mono ?_
          rintro _ w'' ⟨rfl, hT⟩
          exact ⟨_, _, u2, u3, u4, u5, rfl, DropCall2_kl i0 rfl, fun _ => rfl, DropCall2_kl i2 rfl, DropCall2_kl i3 rfl, DropCall2_kl i4 rfl, DropCall2_kl i5 rfl, (by show DrW _ _ _ _ _ _ _ _ true (L 3) w''; rw [h3]; exact hT.after iW)⟩
      | 2, _ =>
        simp at ho
        subst ho
        refine wp_load_mid 44 (.tmp 3) rfl (w.heap.size + 1) 0 rfl (Pt.pV p) _ (HPP.out w' (DrW.blk iW (by omega) (by omega) (by omega))) Pt.undP rfl (Pt.sizeP p) ?_
        simp only [Act.put, List.setIfInBounds_toArray, List.set_cons_succ, List.set_cons_zero]
        exact ⟨u0, u1, _, u3, u4, u5, rfl, DropCall2_kl i0 rfl, DropCall2_kl i1 rfl, fun _ => rfl, DropCall2_kl i3 rfl, DropCall2_kl i4 rfl, DropCall2_kl i5 rfl, iW⟩
      | 3, _ =>
        simp at ho
        subst ho
        obtain rfl := i2 (hpre 2 (by kernel_rfl))
        obtain rfl := i1 (hpre 1 (by kernel_rfl))
        have h1 := hpre 1 (by kernel_rfl)
        go_simp
        rw [hL, h1] at iW
        refine (H2.out w' iW).mono ?_
        rintro _ w'' ⟨rfl, hT⟩
        exact ⟨u0, _, _, _, u4, u5, rfl, DropCall2_kl i0 rfl, DropCall2_kl i1 rfl, DropCall2_kl i2 rfl, fun _ => rfl, DropCall2_kl i4 rfl, DropCall2_kl i5 rfl, (by show DrW _ _ _ _ _ _ _ _ (L 1) true w''; rw [h1]; exact ⟨w', iW, hT⟩)⟩
      | 4, _ =>
        simp at ho
        subst ho
        obtain rfl := i1 (hpre 1 (by kernel_rfl))
        go_simp
        exact ⟨u0, _, u2, u3, _, u5, rfl, DropCall2_kl i0 rfl, DropCall2_kl i1 rfl, DropCall2_kl i2 rfl, DropCall2_kl i3 rfl, fun _ => rfl, DropCall2_kl i5 rfl, iW⟩
      | 5, _ =>
        simp at ho
        subst ho
        obtain rfl := i3 (hpre 3 (by kernel_rfl))
        go_simp
        exact ⟨u0, u1, u2, _, u4, _, rfl, DropCall2_kl i0 rfl, DropCall2_kl i1 rfl, DropCall2_kl i2 rfl, DropCall2_kl i3 rfl, DropCall2_kl i4 rfl, fun _ => rfl, iW⟩
      | i + 6, h => omega
    case finQ =>
      rintro L a' w7 hall ⟨u0, u1, u2, u3, u4, u5, rfl, i0, i1, i2, i3, i4, i5, iW⟩
      obtain rfl := i0 (hall 0 (by omega))
      obtain rfl := i1 (hall 1 (by omega))
      obtain rfl := i2 (hall 2 (by omega))
      obtain rfl := i3 (hall 3 (by omega))
      obtain rfl := i4 (hall 4 (by omega))
      obtain rfl := i5 (hall 5 (by omega))
      rw [hall 1 (by omega), hall 3 (by omega)] at iW
      obtain ⟨wR, hR, hS⟩ := iW
      clear i0 i1 i2 i3 i4 i5 hall
      simp only [List.drop_succ_cons, List.drop_zero]
      refine wpList_nil ?_
      obtain ⟨aoR, capR, xR, sR⟩ := hR.sp
      have kD1 := hR.other HKC.out.1 HKD.out.1 HKD.out.2 (Ne.symm hneC)
      have kA1 := hR.other HKC.out.1 HKA.out.1 HKA.out.2 (show bA ≠ bC by omega)
      have kB1 := hR.other HKC.out.1 HKB.out.1 HKB.out.2 (show bB ≠ bC by omega)
      have kC := hS.other kD1.1 xR sR hneC
      have kA := hS.other kD1.1 kA1.1 kA1.2 (show bA ≠ bD by omega)
      have kB := hS.other kD1.1 kB1.1 kB1.2 (show bB ≠ bD by omega)
      obtain ⟨aoS, capS, xS, sS⟩ := hS.sp
      have HB8 := Lib.hid (hS.below (hR.below HB7.out (by omega)) (by omega))
      have hs8 : w5C.heap.size ≤ w7.heap.size := by have := hR.only.size; have := hS.only.size; omega
      have HSM1 := Lib.hid (Same_any A B Z _ _ n _ _ F F w7 kA.2 kB.2 (fun _ _ => rfl))
      have HSM2 := Lib.hid (fun w' (hw' : Below w7.heap.size w7 w') => Same_any A B Z _ _ n _ _ F2 F2 w' (kC.2.later hw') (sS.later hw') (fun _ _ => rfl))
      have d0 := kA.1.c0
      have d1 := kA.1.c1
      have d2 := kA.1.c2
      have d3 := kA.1.c3
      have e0 := kB.1.c0
      have e1 := kB.1.c1
      have e2 := kB.1.c2
      have e3 := kB.1.c3
      have HC := Lib.hid (fun w' (hw' : Below w7.heap.size w7 w') => And.intro (kC.1.below hw' (by omega)) (xS.below hw' (by omega)))
      clear hR hS xR sR kD1 kA1 kB1 kC kA kB xS sS HKA HKB HKC HKD HPP H1 H2
      go_wp2_with fail
      refine HSM1.out.mono ?_
      rintro _ w8 ⟨rfl, hb8⟩
      dsimp only
      obtain ⟨xc, xd⟩ := HC.out w8 hb8
      have HSM3 := Lib.hid (HSM2.out w8 hb8)
      have HB9 := Lib.hid (HB8.out.trans (hb8.mono HB8.out.size))
      clear d0 d1 d2 d3 e0 e1 e2 e3 hb8
      have d0 := xc.c0
      have d1 := xc.c1
      have d2 := xc.c2
      have d3 := xc.c3
      have e0 := xd.c0
      have e1 := xd.c1
      have e2 := xd.c2
      have e3 := xd.c3
      clear xc xd
      go_wp2_with fail
      refine HSM3.out.mono ?_
      rintro _ w9 ⟨rfl, hb9⟩
      dsimp only
      go_wp2_with fail
      go_ret
      exact ⟨rfl, HB9.out.trans (hb9.mono HB9.out.size)⟩
end
end Sp
end Go.Proofs.Ytdbmdocmnhgbpaa
