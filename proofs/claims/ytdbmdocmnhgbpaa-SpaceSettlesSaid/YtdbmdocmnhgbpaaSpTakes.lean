/- SpaceTakes: the law's walk (made by tools/gen_splaws.py). -/
import Derived.Test.YtdbmdocmnhgbpaaSpTw
import Derived.Test.YtdbmdocmnhgbpaaSpAsks
namespace Go.Proofs.Ytdbmdocmnhgbpaa
set_option maxRecDepth 20000
namespace Sp
open Go.RowKit Dk Eqb Byt

attribute [local irreducible] wpQuiet
theorem Turn.other {w w' : World} {g g2 n n2 cap cap2 : Nat} {A B Z A2 B2 Z2 : Int} {ao ao2 : Option Addr} {f f2 : Nat → Int} (h : Turn w g A B Z n f w') (hx : Bs w g A B Z ao n cap) (hx2 : Bs w g2 A2 B2 Z2 ao2 n2 cap2) (hs2 : St w w.heap.size ao2 n2 cap2 f2) (hne : g2 ≠ g) : Bs w' g2 A2 B2 Z2 ao2 n2 cap2 ∧ St w' w'.heap.size ao2 n2 cap2 f2 :=
  ⟨hx2.block (h.only.block g2 hx2.lt (by simpa using hne)), hs2.keepG (Nat.le_refl _) hx h.only⟩
theorem Turn.below {w0 w w' : World} {g n : Nat} {A B Z : Int} {f : Nat → Int} (h : Turn w g A B Z n f w') (hb : Below w0.heap.size w0 w) (hg : w0.heap.size ≤ g) : Below w0.heap.size w0 w' :=
  hb.grown h.only hb.size fun k hk => by injection hk with hk; omega
def TakesInv (x0 x1 x3 x4 x7 x8 x9 x10 x11 x12 x13 x14 x19 x20 x21 x22 x23 x24 x25 x26 x27 x28 x29 x30 x31 x32 x33 x34 x35 x36 x37 x38 x39 x40 x41 x42 x43 x44 x45 x46 x47 x48 : Value) (bx : Nat) (dv : Value) (A B Z : Int) (n : Nat) (f : Nat → Int) (W : World) (L : Nat → Bool) (a' : Act) (w' : World) : Prop :=
  ∃ u0 u1 u2 u3 u4 u5, a' = { tmps := #[x0, x1, .pointer (some ⟨bx, 0, none⟩), x3, x4, u4, u5, x7, x8, x9, x10, x11, x12, x13, x14, u0, u1, u2, u3, x19, x20, x21, x22, x23, x24, x25, x26, x27, x28, x29, x30, x31, x32, x33, x34, x35, x36, x37, x38, x39, x40, x41, x42, x43, x44, x45, x46, x47, x48], defers := [] } ∧ TwS.Tw (fun v w' => CopS W.heap.size A B Z n f v w') 26 4 dv W L u0 u1 u2 u3 u4 u5 w'

section
attribute [local go_sem] zvSp
set_option maxRecDepth 100000 in
set_option maxHeartbeats 4000000 in
theorem takes7_any (A B Z x : Int) (ao : Option Addr) (n cap : Nat) (f : Nat → Int) (w : World) (hB : i64 B) (hs : St w w.heap.size ao n cap f) : Calls Try.prog 5 #[.agg #[.int .i64 A, .int .i64 B, .int .i64 Z, .slice ao n cap], .int .i64 x] w fun e w' => e = .returned (.bool true) ∧ Below w.heap.size w w' := by
  obtain ⟨W, hW, hbW, hsW, hxW⟩ := box_sp w A B Z ao n cap
  have HA := Lib.hid (alive7_any W)
  have hby := hs.byte
  have hrm := hs.room
  have HST0 := Lib.hid (fun w' (hb : Below w.heap.size w w') => hs.later hb)
  clear hs
  go_enter Try.func5, Try.ntmps5
  go_wp2_with (rw [← hW])
  clear hW
  refine HA.out.mono ?_
  rintro _ w1 ⟨rfl, hb1⟩
  dsimp only
  have HB1 := Lib.hid (hbW.trans (hb1.mono (by omega)))
  have HLT := Lib.hid (show w.heap.size < w1.heap.size by have := hb1.size; omega)
  have HBX := Lib.hid (fun w' (hw' : Below w1.heap.size w1 w') => (hxW.below hb1 (by omega)).below hw' (by have := hb1.size; omega))
  have HST := Lib.hid (fun w' (hw' : Below w1.heap.size w1 w') => HST0.out w' (HB1.out.trans (hw'.mono HB1.out.size)))
  clear hb1 HA hxW hbW
  go_wp2_with fail
  refine QuietTail2.regionInv (n := 8) (Inv := TakesInv _ _ _ _ _ _ _ _ _ _ _ _ _ _ _ _ _ _ _ _ _ _ _ _ _ _ _ _ _ _ _ _ _ _ _ _ _ _ _ _ _ _ w.heap.size (.agg #[.int .i64 A, .int .i64 B, .int .i64 Z, .slice ao n cap]) A B Z n f w1) (by kernel_rfl) (by decide) (by kernel_rfl) ⟨_, _, _, _, _, _, rfl, TwS.Tw.start⟩ ?stepA ?finA
  case stepA =>
    rintro i o hi ho L a' w' ⟨u0, u1, u2, u3, u4, u5, rfl, TT⟩ hL hpre
    match i, hi with
    | 0, _ =>
      simp at ho
      subst ho
      have hH := HBX.out w' TT.be; have k0 := hH.c0; have k1 := hH.c1; have k2 := hH.c2; have k3 := hH.c3; clear hH
      go_simp
      exact ⟨_, u1, u2, u3, u4, u5, rfl, TT.load0⟩
    | 1, _ =>
      simp at ho
      subst ho
      obtain rfl := TT.a0 (hpre 0 (by kernel_rfl))
      go_simp
      refine (Copy_any A B Z ao n cap f w' (HST.out w' TT.be)).mono ?_
      rintro _ w'' ⟨ao', cap', rfl, hv, hb⟩
      exact ⟨_, _, u2, u3, u4, u5, rfl, TT.call1 hL ⟨ao', cap', rfl, hv.more TT.be.size⟩ hb (fun _ _ _ h hb => CopS.below h hb)⟩
    | 2, _ =>
      simp at ho
      subst ho
      have hH := HBX.out w' TT.be; have k0 := hH.c0; have k1 := hH.c1; have k2 := hH.c2; have k3 := hH.c3; clear hH
      go_simp
      exact ⟨u0, u1, _, u3, u4, u5, rfl, TT.load2⟩
    | 3, _ =>
      simp at ho
      subst ho
      obtain rfl := TT.a2 (hpre 2 (by kernel_rfl))
      go_simp
      refine (Copy_any A B Z ao n cap f w' (HST.out w' TT.be)).mono ?_
      rintro _ w'' ⟨ao', cap', rfl, hv, hb⟩
      exact ⟨u0, u1, _, _, u4, u5, rfl, TT.call3 hL ⟨ao', cap', rfl, hv.more TT.be.size⟩ hb (fun _ _ _ h hb => CopS.below h hb)⟩
    | 4, _ =>
      simp at ho
      subst ho
      go_simp
      exact ⟨u0, u1, u2, u3, _, u5, rfl, TT.alloc4 hL rfl (fun _ _ _ h hb => CopS.below h hb)⟩
    | 5, _ =>
      simp at ho
      subst ho
      go_simp
      exact ⟨u0, u1, u2, u3, u4, _, rfl, TT.alloc5 hL rfl (fun _ _ _ h hb => CopS.below h hb)⟩
    | 6, _ =>
      simp at ho
      subst ho
      have h1 := hpre 1 (by kernel_rfl)
      have h4 := hpre 4 (by kernel_rfl)
      obtain ⟨b, c0, e4, _, hb, hs, _⟩ := TT.a4 h4
      obtain ⟨ao1, cap1, rfl, q1⟩ := TT.a1 h1
      subst e4
      refine wp_store_row 26 (.tmp 5) (.tmp 16) rfl b #[.int .i64 A, .int .i64 B, .int .i64 Z, .slice ao1 n cap1] rfl rfl 26 c0 hb (by kernel_rfl) hs (sp_one _ _ _ _ _ _) ?_
      exact ⟨u0, _, u2, u3, _, u5, rfl, TT.store6 h1 h4 rfl rfl hb rfl (fun _ _ _ _ c h hb => CopS.row h hb c)⟩
    | 7, _ =>
      simp at ho
      subst ho
      have h1 := hpre 3 (by kernel_rfl)
      have h4 := hpre 5 (by kernel_rfl)
      obtain ⟨b, c0, e4, _, hb, hs, _⟩ := TT.a5 h4
      obtain ⟨ao1, cap1, rfl, q1⟩ := TT.a3 h1
      subst e4
      refine wp_store_row 26 (.tmp 6) (.tmp 18) rfl b #[.int .i64 A, .int .i64 B, .int .i64 Z, .slice ao1 n cap1] rfl rfl 26 c0 hb (by kernel_rfl) hs (sp_one _ _ _ _ _ _) ?_
      exact ⟨u0, u1, u2, _, u4, _, rfl, TT.store7 h1 h4 rfl rfl hb rfl (fun _ _ _ _ c h hb => CopS.row h hb c)⟩
    | i + 8, h => omega
  rintro L a' w5A hall ⟨u0, u1, u2, u3, u4, u5, rfl, TT⟩
  obtain ⟨bA, cA, bB, cB, rfl, rfl, lA, lB, hneA, hA, hB, pA, pB, hbeA⟩ := TT.fin hall
  clear TT hall
  obtain ⟨aoA, capA, xA, sA⟩ := CopS.laid pA hA hby hrm
  obtain ⟨aoB, capB, xB, sB⟩ := CopS.laid pB hB hby hrm
  clear hA hB pA pB
  simp only [List.drop_succ_cons, List.drop_zero]
  refine wpList_nil ?_
  have HB5 := Lib.hid (HB1.out.trans (hbeA.mono HB1.out.size))
  have hlw : w.heap.size < w1.heap.size := HLT.out
  have HF := Lib.hid (tkF_bd (A := A) (B := B) (Z := Z) (x := x) hby)
  have HT := Lib.hid (Take_any bA A B Z x aoA n capA f w5A xA hB sA)
  have HRT := Lib.hid (fun (w' : World) (hx' : Bs w' bB A B Z aoB n capB) (hs' : St w' w'.heap.size aoB n capB f) => refTake_any bB A B Z x aoB n capB f w' hx' hs')
  generalize tkp A B Z n f x = tp at *
  generalize tkq A B Z n f x = tq at *
  generalize tkE A B Z n f x = te at *
  generalize tkF A B Z n f x = F at *
  have HXA := Lib.hid xA
  have HXB := Lib.hid xB
  have HSB := Lib.hid sB
  clear xA xB sA sB hbeA
  go_wp2_with fail
  refine HT.out.mono ?_
  rintro _ w6 ⟨rfl, hT⟩
  dsimp only
  obtain ⟨xB6, sB6⟩ := hT.other HXA.out HXB.out HSB.out (Ne.symm hneA)
  have HB6 := Lib.hid (hT.below HB5.out (by omega))
  obtain ⟨⟨aoC, capC, xA6, sA6⟩, _⟩ := hT
  have HRT2 := Lib.hid (HRT.out w6 xB6 sB6)
  have HXA6 := Lib.hid xA6
  have HSA6 := Lib.hid sA6
  have HXB6 := Lib.hid xB6
  clear xA6 sA6 xB6 sB6 HT HRT
  go_wp2_with fail
  refine HRT2.out.mono ?_
  rintro _ w7 ⟨rfl, hT⟩
  dsimp only
  obtain ⟨xA7, sA7⟩ := hT.other HXB6.out HXA6.out HSA6.out hneA
  have HB7 := Lib.hid (hT.below HB6.out (by omega))
  obtain ⟨⟨aoD, capD, xB7, sB7⟩, _⟩ := hT
  have HS := Lib.hid (Same_any A B Z aoC aoD n capC capD F F w7 sA7 sB7 (fun _ _ => rfl))
  have d0 := xA7.c0
  have d1 := xA7.c1
  have d2 := xA7.c2
  have d3 := xA7.c3
  have e0 := xB7.c0
  have e1 := xB7.c1
  have e2 := xB7.c2
  have e3 := xB7.c3
  clear xA7 sA7 xB7 sB7 HRT2
  go_wp2_with fail
  refine HS.out.mono ?_
  rintro _ w8 ⟨rfl, hb8⟩
  dsimp only
  go_wp2_with fail
  go_ret
  exact ⟨rfl, HB7.out.trans (hb8.mono HB7.out.size)⟩
end
end Sp
end Go.Proofs.Ytdbmdocmnhgbpaa
