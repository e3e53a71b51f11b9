import Derived.Test.YtonhedefjmkpcaaGreatDoorPJSpB
import Derived.Test.YtonhedefjmkpcaaGreatDoorPQTail2
/- space: Take (made by tools/gen_sptk.py). -/
namespace Go.Proofs.YtonhedefjmkpcaaGreatDoor
set_option maxRecDepth 20000
namespace Sp
open Go.RowKit Dk Eqb Byt

theorem R2.cj {w : World} {g : Nat} {x y : Int} (h : R2 w g x y) {j : Nat} (hj : j < 2) : w.cell? ⟨g, j, none⟩ = some (.int .i64 (if j = 0 then x else y)) := by
 obtain rfl | rfl : j = 0 ∨ j = 1 := by omega
 ·exact h.c0
 ·exact h.c1
/-- in Take's loop: the two sectors, the places that were found -/
structure TkR (w1 : World) (bk : Nat) (p0 p1 : Int) (base : Nat) (L : Nat → Nat) (j : Nat) (v : Value) (wr : World) : Prop where
 be : Below w1.heap.size w1 wr
 ar : R2 wr bk p0 p1
 ow : OwnI wr base v ((List.range j).map fun i => (L i : Int))
 lt : base ≤ wr.heap.size
theorem TkR.next {w1 wr w2 w3 : World} {bk base j : Nat} {p0 p1 : Int} {L : Nat → Nat} {v v' : Value} {o : Obj} (h : TkR w1 bk p0 p1 base L j v wr) (hbb : bk < base) (h1 : w1.heap.size ≤ base) (hb : Below wr.heap.size wr w2) (hown : OwnI w3 base v' ((List.range (j + 1)).map fun i => (L i : Int))) (hg : (w2.alloc o).grownBy w3 v.ownBlock) : TkR w1 bk p0 p1 base L (j + 1) v' w3 := by
 have hBA : Below wr.heap.size wr (w2.alloc o) := hb.alloc hb.size _
 have hk : ∀ k, v.ownBlock = some k → base ≤ k := fun k hk => (World.ownsRow.lt h.ow k hk).1
 have hs := h.ar.lt
 refine ⟨?_, h.ar.block ?_, hown, ?_⟩
 ·exact (h.be.trans (hBA.mono h.be.size)).grown hg (by have := hBA.size; have := h.be.size; omega) fun k hk' => by have := hk k hk'; omega
 ·refine (hg.block bk (by have := hBA.size; omega) fun e => ?_).trans (hBA.block bk hs)
  have := hk bk e.symm
  omega
 ·have := hg.size
  have := hBA.size
  have := h.lt
  omega
theorem tk_no {A B : Int} {z n c : Nat} {f : Nat → Int} (hp : formB A B z n f = true) (hc : c = 1 ∨ c = 2) (h : tpOk A B z f c = false) : tkp A B z n f c = 0 ∧ tkq A B z n f c = 0 ∧ tkE A B z n f c = 9 ∧ tkF A B z n f c = f := by
 have hb : tkB A B z n f c = true := by
  unfold tkB
  rw [hp]
  rcases hc with rfl | rfl <;> rfl
 unfold tkp tkq tkE tkF
 rw [hb, Int.toNat_natCast, Int.toNat_natCast, h]
 exact ⟨rfl, rfl, rfl, rfl⟩
theorem tk_yes {A B : Int} {z n c : Nat} {f : Nat → Int} (hp : formB A B z n f = true) (hc : c = 1 ∨ c = 2) (h : tpOk A B z f c = true) : tkp A B z n f c = tp0 A B z f c ∧ tkq A B z n f c = tp1 B z f c ∧ tkE A B z n f c = 0 ∧ tkF A B z n f c = bec (nx 2 0 0 0 0) (tpL A B z f c) f c := by
 have hb : tkB A B z n f c = true := by
  unfold tkB
  rw [hp]
  rcases hc with rfl | rfl <;> rfl
 unfold tkp tkq tkE tkF
 rw [hb, Int.toNat_natCast, Int.toNat_natCast, h]
 exact ⟨rfl, rfl, rfl, rfl⟩
theorem tk_bad {A B Z x : Int} {n : Nat} {f : Nat → Int} (h : tkB A B Z n f x = false) : tkp A B Z n f x = 0 ∧ tkq A B Z n f x = 0 ∧ tkE A B Z n f x = 1 ∧ tkF A B Z n f x = f := by
 unfold tkp tkq tkE tkF
 rw [h]
 exact ⟨rfl, rfl, rfl, rfl⟩

def TkInv (x2 x3 x4 x5 x6 x8 x9 x10 x11 x12 x13 x14 x15 x16 x17 x18 x19 x20 x21 x22 x23 x33 x34 x35 x36 x37 x38 x39 x40 x41 x42 x43 x44 x45 x46 x47 x48 x49 x50 x51 x52 x53 x54 x55 x56 x57 x58 x59 x60 x61 x62 x63 x64 x65 x66 x67 x68 x69 x70 x71 : Value) (g : Pl) (A B fa fb x : Int) (z b off n cap : Nat) (w0 : World) (L : Nat → Bool) (a' : Act) (w' : World) : Prop :=
 ∃ u0 u1 u2 u3 u4 u5 u6 u7 u8 u9, a' = { tmps := #[.pointer (some ⟨g.b, g.o, none⟩), .int .i64 x, x2, x3, x4, x5, x6, u9, x8, x9, x10, x11, x12, x13, x14, x15, x16, x17, x18, x19, x20, x21, x22, x23, u0, u1, u2, u3, u4, u5, u6, u7, u8, x33, x34, x35, x36, x37, x38, x39, x40, x41, x42, x43, x44, x45, x46, x47, x48, x49, x50, x51, x52, x53, x54, x55, x56, x57, x58, x59, x60, x61, x62, x63, x64, x65, x66, x67, x68, x69, x70, x71], defers := [] } ∧ (L 0 = true → u0 = .pointer (some ⟨g.b, g.o, none⟩)) ∧ (L 1 = true → u1 = .pointer (some ⟨g.b, g.o, none⟩)) ∧ (L 2 = true → u2 = .agg #[.int .i64 A, .int .i64 B, .int .i64 z, .slice (some ⟨b, off, none⟩) n cap]) ∧ (L 3 = true → u3 = .int .i64 fa) ∧ (L 4 = true → u4 = .pointer (some ⟨g.b, g.o, none⟩)) ∧ (L 5 = true → u5 = .pointer (some ⟨g.b, g.o, none⟩)) ∧ (L 6 = true → u6 = .agg #[.int .i64 A, .int .i64 B, .int .i64 z, .slice (some ⟨b, off, none⟩) n cap]) ∧ (L 7 = true → u7 = .int .i64 fb) ∧ (L 8 = true → u8 = .agg #[.int .i64 fa, .int .i64 fb]) ∧ (L 9 = true → ∃ bk, u9 = .pointer (some ⟨bk, 0, none⟩) ∧ w0.heap.size ≤ bk ∧ w'.heap[bk]? = some (.cells #[.int .i64 0, .int .i64 0] 31 (0, 0))) ∧ Below w0.heap.size w0 w'
theorem TkInv_al {L : Nat → Bool} {i : Nat} {P : Nat → Prop} {u : Value} (h : L 9 = true → ∃ bk, u = .pointer (some ⟨bk, 0, none⟩) ∧ P bk) (h1 : (9 == i) = false) : (9 == i || L 9) = true → ∃ bk, u = .pointer (some ⟨bk, 0, none⟩) ∧ P bk := by
 rw [h1, Bool.false_or]
 exact h
theorem TkInv_kl {L : Nat → Bool} {i k : Nat} {Q : Prop} (h : L k = true → Q) (h1 : (k == i) = false) : (k == i || L k) = true → Q := by
 rw [h1, Bool.false_or]
 exact h

section
attribute [local go_sem] zvS2
set_option maxRecDepth 100000 in
set_option maxHeartbeats 8000000 in
theorem Take_any (g : Pl) (A B Z x : Int) (ao : Option Addr) (n cap : Nat) (f : Nat → Int) (w : World) (hx : Bs w g A B Z ao n cap) (hB : i64 B) (hs : St w w.heap.size ao n cap f) :
  Calls Tryz.prog 111 #[.pointer (some ⟨g.b, g.o, none⟩), .int .i64 x] w fun e w' => e = .returned (.tuple #[.int .i64 (tkp A B Z n f x), .int .i64 (tkq A B Z n f x), .int .i64 (tkE A B Z n f x)]) ∧ Turn w g A B Z n (tkF A B Z n f x) w' := by
 have HF := Lib.hid (formed_any g A B Z ao n cap f w hx hB hs)
 cases hp : formB A B Z n f with
 | false =>
  rw [hp] at HF
  have HV := Lib.hid (tk_bad (x := x) (show tkB A B Z n f x = false by unfold tkB; rw [hp]; rfl))
  clear hp
  go_enter Tryz.func111, Tryz.ntmps111
  go_wp2_with fail
  refine HF.out.mono ?_
  rintro _ w1 ⟨rfl, hb1⟩
  dsimp only
  go_wp2_with fail
  go_ret3
  exact ⟨by rw [HV.out.1, HV.out.2.1, HV.out.2.2.1]; rfl, by rw [HV.out.2.2.2]; exact Turn.same hx hs hb1⟩
 | true =>
  rw [hp] at HF
  by_cases h1 : x < 1
  ·have HV := Lib.hid (tk_bad (x := x) (show tkB A B Z n f x = false by unfold tkB; rw [hp, show (x == 1) = false from beq_eq_false_iff_ne.2 (by omega), show (x == 2) = false from beq_eq_false_iff_ne.2 (by omega)]; rfl))
   clear hp
   go_enter Tryz.func111, Tryz.ntmps111
   go_wp2_with fail
   refine HF.out.mono ?_
   rintro _ w1 ⟨rfl, hb1⟩
   dsimp only
   go_wp2_with fail
   go_ret3
   exact ⟨by rw [HV.out.1, HV.out.2.1, HV.out.2.2.1]; rfl, by rw [HV.out.2.2.2]; exact Turn.same hx hs hb1⟩
  by_cases h2 : 2 < x
  ·have HV := Lib.hid (tk_bad (x := x) (show tkB A B Z n f x = false by unfold tkB; rw [hp, show (x == 1) = false from beq_eq_false_iff_ne.2 (by omega), show (x == 2) = false from beq_eq_false_iff_ne.2 (by omega)]; rfl))
   clear hp
   go_enter Tryz.func111, Tryz.ntmps111
   go_wp2_with fail
   refine HF.out.mono ?_
   rintro _ w1 ⟨rfl, hb1⟩
   dsimp only
   go_wp2_with fail
   go_ret3
   exact ⟨by rw [HV.out.1, HV.out.2.1, HV.out.2.2.1]; rfl, by rw [HV.out.2.2.2]; exact Turn.same hx hs hb1⟩
  obtain ⟨z, rfl⟩ : ∃ z : Nat, Z = z := ⟨Z.toNat, by have := (ap_of hp).z1; omega⟩
  have hn2 : n = 2 * z := by have := n_of hp; omega
  obtain ⟨b, off, rfl, _⟩ := bytes_tab hs.lies (pos_of hp)
  obtain rfl | rfl : x = 1 ∨ x = 2 := by omega
  ·clear h1 h2
   have HAp := Lib.hid (ap_of hp)
   have HN2 := Lib.hid hn2
   have HBD := Lib.hid (bd_of hp hs.byte)
   have HEno : Hid (tpOk A B z f 1 = false → tkp A B z n f 1 = 0 ∧ tkq A B z n f 1 = 0 ∧ tkE A B z n f 1 = 9 ∧ tkF A B z n f 1 = f) := Lib.hid fun h => tk_no (c := 1) hp (by omega) h
   have HEyes : Hid (tpOk A B z f 1 = true → tkp A B z n f 1 = tp0 A B z f 1 ∧ tkq A B z n f 1 = tp1 B z f 1 ∧ tkE A B z n f 1 = 0 ∧ tkF A B z n f 1 = bec (nx 2 0 0 0 0) (tpL A B z f 1) f 1) := Lib.hid fun h => tk_yes (c := 1) hp (by omega) h
   clear hp hn2
   go_enter Tryz.func111, Tryz.ntmps111
   go_wp2_with fail
   refine HF.out.mono ?_
   rintro _ w1 ⟨rfl, hb1⟩
   dsimp only
   have HB1 := Lib.hid hb1
   have HX := Lib.hid (fun w' (hw' : Below w1.heap.size w1 w') => (hx.below hb1 hx.lt).below hw' (by have := hx.lt; have := hb1.size; omega))
   have HST := Lib.hid (hs.later hb1)
   obtain ⟨_, _, e1', hbb, hnc, hcc⟩ := bytes_tab HST.out.lies (by have := HN2.out; have := HAp.out.z1; omega)
   injection e1' with e1'
   injection e1' with e1' e2'
   subst e1' e2'
   have HFA := Lib.hid (fun w' (hw' : Below w1.heap.size w1 w') => firstFree0_any A B z b off n cap f w' (by have := HAp.out.z1; omega) (by have := HAp.out.z2; omega) HN2.out hnc (by have := HAp.out; have := this.a0; have := HAp.out.ab; have := HAp.out.b1; omega) (by have := HAp.out; have := this.a0; have := HAp.out.ab; have := HAp.out.b1; omega) (by have := hw'.size; omega) (fun i hi => (hw'.cell (p := ⟨b, off + i, none⟩) hbb).trans (hcc i hi)))
   have HFB := Lib.hid (fun w' (hw' : Below w1.heap.size w1 w') => firstFree1_any A B z b off n cap f w' (by have := HAp.out.z1; omega) (by have := HAp.out.z2; omega) HN2.out hnc (by have := HAp.out; have := this.a0; have := HAp.out.ab; have := HAp.out.b1; omega) (by have := HAp.out; have := this.a0; have := HAp.out.ab; have := HAp.out.b1; omega) (by have := hw'.size; omega) (fun i hi => (hw'.cell (p := ⟨b, off + i, none⟩) hbb).trans (hcc i hi)))
   rw [show ff A f z = fA A z f from rfl] at HFA
   rw [show ff B (fun i => f (z + i)) z = fB B z f from rfl] at HFB
   obtain ⟨fa, hfa⟩ : ∃ fa, fa = fA A z f := ⟨_, rfl⟩
   obtain ⟨fb, hfb⟩ : ∃ fb, fb = fB B z f := ⟨_, rfl⟩
   rw [← hfa] at HFA
   rw [← hfb] at HFB
   have HFa := Lib.hid hfa
   have HFb := Lib.hid hfb
   clear hfa hfb hcc hb1
   go_wp2_with fail
   refine QuietTail2.regionInv (n := 10) (Inv := TkInv _ _ _ _ _ _ _ _ _ _ _ _ _ _ _ _ _ _ _ _ _ _ _ _ _ _ _ _ _ _ _ _ _ _ _ _ _ _ _ _ _ _ _ _ _ _ _ _ _ _ _ _ _ _ _ _ _ _ _ _ g A B fa fb 1 z b off n cap w1) (by kernel_rfl) (by decide) (by kernel_rfl) ⟨_, _, _, _, _, _, _, _, _, _, rfl, by simp, by simp, by simp, by simp, by simp, by simp, by simp, by simp, by simp, by simp, ⟨rfl, rfl, rfl, Nat.le_refl _, fun _ _ => rfl⟩⟩ ?step ?fin
   case step =>
    rintro i o hi ho L a' w' ⟨u0, u1, u2, u3, u4, u5, u6, u7, u8, u9, rfl, i0, i1, i2, i3, i4, i5, i6, i7, i8, ia, iB⟩ hL hpre
    match i, hi with
    | 0, _ =>
     simp at ho
     subst ho
     go_simp
     exact ⟨_, u1, u2, u3, u4, u5, u6, u7, u8, u9, rfl, fun _ => rfl, TkInv_kl i1 rfl, TkInv_kl i2 rfl, TkInv_kl i3 rfl, TkInv_kl i4 rfl, TkInv_kl i5 rfl, TkInv_kl i6 rfl, TkInv_kl i7 rfl, TkInv_kl i8 rfl, TkInv_al ia rfl, iB⟩
    | 1, _ =>
     simp at ho
     subst ho
     obtain rfl := i0 (hpre 0 (by kernel_rfl))
     go_simp
     exact ⟨_, _, u2, u3, u4, u5, u6, u7, u8, u9, rfl, TkInv_kl i0 rfl, fun _ => rfl, TkInv_kl i2 rfl, TkInv_kl i3 rfl, TkInv_kl i4 rfl, TkInv_kl i5 rfl, TkInv_kl i6 rfl, TkInv_kl i7 rfl, TkInv_kl i8 rfl, TkInv_al ia rfl, iB⟩
    | 2, _ =>
     simp at ho
     subst ho
     obtain rfl := i1 (hpre 1 (by kernel_rfl))
     have k0 := (HX.out w' iB).c0; have k1 := (HX.out w' iB).c1; have k2 := (HX.out w' iB).c2; have k3 := (HX.out w' iB).c3
     go_simp
     exact ⟨u0, _, _, u3, u4, u5, u6, u7, u8, u9, rfl, TkInv_kl i0 rfl, TkInv_kl i1 rfl, fun _ => rfl, TkInv_kl i3 rfl, TkInv_kl i4 rfl, TkInv_kl i5 rfl, TkInv_kl i6 rfl, TkInv_kl i7 rfl, TkInv_kl i8 rfl, TkInv_al ia rfl, iB⟩
    | 3, _ =>
     simp at ho
     subst ho
     obtain rfl := i2 (hpre 2 (by kernel_rfl))
     go_simp
     refine (HFA.out w' iB).mono ?_
     rintro _ w'' ⟨rfl, hbp⟩
     exact ⟨u0, u1, _, _, u4, u5, u6, u7, u8, u9, rfl, TkInv_kl i0 rfl, TkInv_kl i1 rfl, TkInv_kl i2 rfl, fun _ => rfl, TkInv_kl i4 rfl, TkInv_kl i5 rfl, TkInv_kl i6 rfl, TkInv_kl i7 rfl, TkInv_kl i8 rfl, TkInv_al (fun hl => by obtain ⟨bk, e1, e2, e3⟩ := ia hl; exact ⟨bk, e1, e2, (hbp.block bk (Array.getElem?_eq_some_iff.1 e3).1).trans e3⟩) rfl, iB.trans (hbp.mono iB.size)⟩
    | 4, _ =>
     simp at ho
     subst ho
     go_simp
     exact ⟨u0, u1, u2, u3, _, u5, u6, u7, u8, u9, rfl, TkInv_kl i0 rfl, TkInv_kl i1 rfl, TkInv_kl i2 rfl, TkInv_kl i3 rfl, fun _ => rfl, TkInv_kl i5 rfl, TkInv_kl i6 rfl, TkInv_kl i7 rfl, TkInv_kl i8 rfl, TkInv_al ia rfl, iB⟩
    | 5, _ =>
     simp at ho
     subst ho
     obtain rfl := i4 (hpre 4 (by kernel_rfl))
     go_simp
     exact ⟨u0, u1, u2, u3, _, _, u6, u7, u8, u9, rfl, TkInv_kl i0 rfl, TkInv_kl i1 rfl, TkInv_kl i2 rfl, TkInv_kl i3 rfl, TkInv_kl i4 rfl, fun _ => rfl, TkInv_kl i6 rfl, TkInv_kl i7 rfl, TkInv_kl i8 rfl, TkInv_al ia rfl, iB⟩
    | 6, _ =>
     simp at ho
     subst ho
     obtain rfl := i5 (hpre 5 (by kernel_rfl))
     have k0 := (HX.out w' iB).c0; have k1 := (HX.out w' iB).c1; have k2 := (HX.out w' iB).c2; have k3 := (HX.out w' iB).c3
     go_simp
     exact ⟨u0, u1, u2, u3, u4, _, _, u7, u8, u9, rfl, TkInv_kl i0 rfl, TkInv_kl i1 rfl, TkInv_kl i2 rfl, TkInv_kl i3 rfl, TkInv_kl i4 rfl, TkInv_kl i5 rfl, fun _ => rfl, TkInv_kl i7 rfl, TkInv_kl i8 rfl, TkInv_al ia rfl, iB⟩
    | 7, _ =>
     simp at ho
     subst ho
     obtain rfl := i6 (hpre 6 (by kernel_rfl))
     go_simp
     refine (HFB.out w' iB).mono ?_
     rintro _ w'' ⟨rfl, hbp⟩
     exact ⟨u0, u1, u2, u3, u4, u5, _, _, u8, u9, rfl, TkInv_kl i0 rfl, TkInv_kl i1 rfl, TkInv_kl i2 rfl, TkInv_kl i3 rfl, TkInv_kl i4 rfl, TkInv_kl i5 rfl, TkInv_kl i6 rfl, fun _ => rfl, TkInv_kl i8 rfl, TkInv_al (fun hl => by obtain ⟨bk, e1, e2, e3⟩ := ia hl; exact ⟨bk, e1, e2, (hbp.block bk (Array.getElem?_eq_some_iff.1 e3).1).trans e3⟩) rfl, iB.trans (hbp.mono iB.size)⟩
    | 8, _ =>
     simp at ho
     subst ho
     obtain rfl := i3 (hpre 3 (by kernel_rfl))
     obtain rfl := i7 (hpre 7 (by kernel_rfl))
     go_simp
     exact ⟨u0, u1, u2, _, u4, u5, u6, _, _, u9, rfl, TkInv_kl i0 rfl, TkInv_kl i1 rfl, TkInv_kl i2 rfl, TkInv_kl i3 rfl, TkInv_kl i4 rfl, TkInv_kl i5 rfl, TkInv_kl i6 rfl, TkInv_kl i7 rfl, fun _ => rfl, TkInv_al ia rfl, iB⟩
    | 9, _ =>
     simp at ho
     subst ho
     have hn := heap_alloc_new w' (.cells #[.int .i64 0, .int .i64 0] 31)
     go_simp
     exact ⟨u0, u1, u2, u3, u4, u5, u6, u7, u8, _, rfl, TkInv_kl i0 rfl, TkInv_kl i1 rfl, TkInv_kl i2 rfl, TkInv_kl i3 rfl, TkInv_kl i4 rfl, TkInv_kl i5 rfl, TkInv_kl i6 rfl, TkInv_kl i7 rfl, TkInv_kl i8 rfl, fun _ => ⟨_, rfl, iB.size, hn⟩, iB.alloc iB.size _⟩
    | i + 10, h => omega
   case fin =>
    rintro L a' w5 hall ⟨u0, u1, u2, u3, u4, u5, u6, u7, u8, u9, rfl, i0, i1, i2, i3, i4, i5, i6, i7, i8, ia, iB⟩
    obtain rfl := i0 (hall 0 (by omega))
    obtain rfl := i1 (hall 1 (by omega))
    obtain rfl := i2 (hall 2 (by omega))
    obtain rfl := i3 (hall 3 (by omega))
    obtain rfl := i4 (hall 4 (by omega))
    obtain rfl := i5 (hall 5 (by omega))
    obtain rfl := i6 (hall 6 (by omega))
    obtain rfl := i7 (hall 7 (by omega))
    obtain rfl := i8 (hall 8 (by omega))
    obtain ⟨bk, rfl, hbk, hbz⟩ := ia (hall 9 (by omega))
    clear i0 i1 i2 i3 i4 i5 i6 i7 i8 ia hall
    simp only [List.drop_succ_cons, List.drop_zero]
    have ar5 : R2 w5 bk 0 0 := hbz
    have l0 := ar5.c0
    have l1 := ar5.c1
    have lf0 := ar5.fr 0
    have lf1 := ar5.fr 1
    clear hbz
    cases ha : fa == -1 with
    | true =>
     have HR6 : Hid (R2 (((((w5.setCell ⟨bk, 0, none⟩ (.int .i64 fa)).setCell ⟨bk, 1, none⟩ (.int .i64 fb))).setCell ⟨bk, 0, none⟩ (.int .i64 fb)).setCell ⟨bk, 1, none⟩ (.int .i64 (-1))) bk (tp0 A B z f 1) (tp1 B z f 1)) := Lib.hid (by
      rw [show tp0 A B z f 1 = fb by unfold tp0; rw [if_pos rfl, if_pos (by rw [← HFa.out]; simpa using ha), ← HFb.out], show tp1 B z f 1 = -1 from rfl]
      exact (((ar5.s0 fa).s1 fb).s0 fb).s1 (-1))
     have HB6 : Hid (Below w1.heap.size w1 (((((w5.setCell ⟨bk, 0, none⟩ (.int .i64 fa)).setCell ⟨bk, 1, none⟩ (.int .i64 fb))).setCell ⟨bk, 0, none⟩ (.int .i64 fb)).setCell ⟨bk, 1, none⟩ (.int .i64 (-1)))) := Lib.hid ((((iB.setCell hbk _).setCell hbk _).setCell hbk _).setCell hbk _)
     clear ar5 iB HFA HFB HFa HFb HF
     go_wp2_with fail
     generalize ((((w5.setCell ⟨bk, 0, none⟩ (.int .i64 fa)).setCell ⟨bk, 1, none⟩ (.int .i64 fb))).setCell ⟨bk, 0, none⟩ (.int .i64 fb)).setCell ⟨bk, 1, none⟩ (.int .i64 (-1)) = w6 at HR6 HB6 ⊢
     clear l0 l1 lf0 lf1
     have HBB : Hid (bk < w6.heap.size ∧ w1.heap.size ≤ w6.heap.size) := Lib.hid ⟨HR6.out.lt, HB6.out.size⟩
     go_wp2_with fail
     go_loopw [8, 45] (fun t i wr => ∃ j : Nat, j ≤ 1 ∧ i = .int .i64 j ∧ Hid (TkR w1 bk (tp0 A B z f 1) (tp1 B z f 1) w6.heap.size (tpL A B z f 1) j t wr ∧ ∀ i, i < j → tpP A B z f 1 i ≠ -1)) (fun _ i _ => 1 - (intOf i).toNat)
     case atStart => exact ⟨0, by omega, rfl, Lib.hid ⟨⟨HB6.out, HR6.out, OwnI.nil _ _, Nat.le_refl _⟩, fun i hi => by omega⟩⟩
     case round =>
      rename_i u8 _
      obtain ⟨j, hj, rfl, hR⟩ := hrel
      have hY := hR.out.1.be
      by_cases hlt : j < 1
      ·have hcj := hR.out.1.ar.cj (j := j) (by omega)
       rw [show (if j = 0 then tp0 A B z f 1 else tp1 B z f 1) = tpP A B z f 1 j from rfl] at hcj
       have hpd := tpP_bd (f := f) (c := 1) HAp.out j
       have hj0 : (0 : Int) ≤ (j : Int) := by omega
       have hjc : (j : Int) < 1 := by omega
       have e0 := (HX.out wr hY).c0
       have e1 := (HX.out wr hY).c1
       have e2 := (HX.out wr hY).c2
       have e3 := (HX.out wr hY).c3
       have HPL := Lib.hid (fun (h : tpP A B z f 1 j ≠ -1) => tpL_at HAp.out (by omega) hlt h)
       have HNO := Lib.hid (fun (h : tpP A B z f 1 j = -1) => tpOk_no hlt (by omega) h)
       have HPC := Lib.hid (fun w' => place_any A B z (tpP A B z f 1 j) (some ⟨b, off, none⟩) n cap w' (by unfold i64; omega) HAp.out)
       have HV : Hid (tpP A B z f 1 j ≠ -1 → ∀ i, i < j + 1 → tpP A B z f 1 i ≠ -1) := Lib.hid fun h i hi => by
        by_cases e : i = j
        ·subst e; exact h
        ·exact hR.out.2 i (by omega)
       generalize tpP A B z f 1 j = y at hcj hpd HPL HNO HPC HV
       cases hy : y == -1 with
       | true =>
        have HO := Lib.hid (HEno.out (HNO.out (by simpa using hy)))
        have HB := Lib.hid (HB1.out.trans (hY.mono HB1.out.size))
        clear HPL HNO HPC HV hR
        go_wp2_with fail
        go_ret3
        exact ⟨by rw [HO.out.1, HO.out.2.1, HO.out.2.2.1]; rfl, by rw [HO.out.2.2.2]; exact Turn.same hx hs HB.out⟩
       | false =>
        have hyn : y ≠ -1 := by simpa using hy
        have HV' := Lib.hid (HV.out hyn)
        obtain ⟨hpl, hln, _⟩ := HPL.out hyn
        rw [hpl, show clip ((tpL A B z f 1 j : Nat) : Int) = (tpL A B z f 1 j : Nat) from if_pos (by omega), decide_eq_true (by omega)] at HPC
        clear HPL HNO hpl hyn HV
        have HLj : Hid ((List.range j).map (fun i => (tpL A B z f 1 i : Int)) ++ [(tpL A B z f 1 j : Int)] = (List.range (j + 1)).map (fun i => (tpL A B z f 1 i : Int))) := Lib.hid (by simp [List.range_succ])
        have HRR := Lib.hid hR.out.1
        clear hR
        generalize tpL A B z f 1 j = l at HPC hln HLj
        go_wp2_with fail
        refine (HPC.out wr).mono ?_
        rintro _ w2 ⟨rfl, hb2⟩
        dsimp only
        have HB2 := Lib.hid hb2
        clear hb2 e0 e1 e2 e3 hcj
        go_wp2_with (at_builtin; refine append_i1 rfl (.tmp 59) (.tmp 61) rfl w6.heap.size u8 _ rfl ((HRR.out.ow.below HB2.out).below ((Below.refl _ _).alloc (Nat.le_refl _) _)) w2.heap.size 1 (l : Int) rfl (World.cell?_alloc_new _ _ _ 0) (by simp; omega) (by have := HRR.out.lt; have := HB2.out.size; simp; omega) ?_; intro v' w3 hown hg; rw [HLj.out] at hown; have HN := Lib.hid (HRR.out.next HBB.out.1 HBB.out.2 HB2.out hown hg); clear hown hg)
        go_roundw
        case rel => exact ⟨j + 1, by omega, by go_num, Lib.hid ⟨HN.out, HV'.out⟩⟩
        case measure => simp [intOf]; omega
      ·obtain rfl : j = 1 := by omega
       have HO := Lib.hid (HEyes.out (tpOk_all (by omega) hR.out.2))
       have HRR := Lib.hid hR.out.1
       obtain ⟨b8, c8, hu8, hb8, hb8l, hc8⟩ := hR.out.1.ow.slice.resolve_left (by rintro ⟨_, h⟩; simp at h)
       rw [show ((List.range 1).map fun i => (tpL A B z f 1 i : Int)).length = 1 by simp] at hu8 hc8
       have hgw := hx.lt
       have hw61 := HRR.out.lt
       have HBE := Lib.hid (become_any g A B z (some ⟨b, off, none⟩) n cap f 2 0 0 0 0 (some ⟨b8, 0, none⟩) 1 c8 (tpL A B z f 1) wr (HX.out wr hY) ((HST.out).later hY) (by have := HN2.out; have := HAp.out.z1; omega) HBD.out (nx_bd (by omega)) (by omega)
        (fun i hi => by have := (tpL_at HAp.out (by omega) hi (hR.out.2 i hi)).2.1; have := HN2.out; omega)
        (.inr ⟨b8, 0, rfl, hb8l, by have := HB1.out.size; have := HB6.out.size; omega, fun i hi => by rw [Nat.zero_add, hc8 i hi, show ((List.range 1).map fun i => (tpL A B z f 1 i : Int)).getD i 0 = (tpL A B z f 1 i : Int) from tab_getD _ (fun i => (tpL A B z f 1 i : Int)) hi]⟩))
       subst hu8
       clear hc8 hR
       have r0 := HRR.out.ar.c0
       have r1 := HRR.out.ar.c1
       go_wp2_with fail
       refine HBE.out.mono ?_
       rintro _ w8 ⟨⟨v8, rfl⟩, hT⟩
       dsimp only
       have HT := Lib.hid hT
       have ar8 := HRR.out.ar.block (hT.only.block bk HRR.out.ar.lt (by have := HB1.out.size; simp; omega))
       have q0 := ar8.c0
       have q1 := ar8.c1
       clear hT r0 r1
       go_wp2_with fail
       go_quiet (fail)
       go_wp2_with fail
       go_ret3
       exact ⟨by rw [HO.out.1, HO.out.2.1, HO.out.2.2.1]; rfl, by rw [HO.out.2.2.2]; exact ((HT.out.after hY).after HB1.out).drop (below_drewN (Below.refl _ _) _)⟩
    | false =>
     have HR6 : Hid (R2 ((((w5.setCell ⟨bk, 0, none⟩ (.int .i64 fa)).setCell ⟨bk, 1, none⟩ (.int .i64 fb))).setCell ⟨bk, 1, none⟩ (.int .i64 (-1))) bk (tp0 A B z f 1) (tp1 B z f 1)) := Lib.hid (by
      rw [show tp0 A B z f 1 = fa by unfold tp0; rw [if_pos rfl, if_neg (by rw [← HFa.out]; simpa using ha), ← HFa.out], show tp1 B z f 1 = -1 from rfl]
      exact ((ar5.s0 fa).s1 fb).s1 (-1))
     have HB6 : Hid (Below w1.heap.size w1 ((((w5.setCell ⟨bk, 0, none⟩ (.int .i64 fa)).setCell ⟨bk, 1, none⟩ (.int .i64 fb))).setCell ⟨bk, 1, none⟩ (.int .i64 (-1)))) := Lib.hid (((iB.setCell hbk _).setCell hbk _).setCell hbk _)
     clear ar5 iB HFA HFB HFa HFb HF
     go_wp2_with fail
     generalize (((w5.setCell ⟨bk, 0, none⟩ (.int .i64 fa)).setCell ⟨bk, 1, none⟩ (.int .i64 fb))).setCell ⟨bk, 1, none⟩ (.int .i64 (-1)) = w6 at HR6 HB6 ⊢
     clear l0 l1 lf0 lf1
     have HBB : Hid (bk < w6.heap.size ∧ w1.heap.size ≤ w6.heap.size) := Lib.hid ⟨HR6.out.lt, HB6.out.size⟩
     go_wp2_with fail
     go_loopw [8, 45] (fun t i wr => ∃ j : Nat, j ≤ 1 ∧ i = .int .i64 j ∧ Hid (TkR w1 bk (tp0 A B z f 1) (tp1 B z f 1) w6.heap.size (tpL A B z f 1) j t wr ∧ ∀ i, i < j → tpP A B z f 1 i ≠ -1)) (fun _ i _ => 1 - (intOf i).toNat)
     case atStart => exact ⟨0, by omega, rfl, Lib.hid ⟨⟨HB6.out, HR6.out, OwnI.nil _ _, Nat.le_refl _⟩, fun i hi => by omega⟩⟩
     case round =>
      rename_i u8 _
      obtain ⟨j, hj, rfl, hR⟩ := hrel
      have hY := hR.out.1.be
      by_cases hlt : j < 1
      ·have hcj := hR.out.1.ar.cj (j := j) (by omega)
       rw [show (if j = 0 then tp0 A B z f 1 else tp1 B z f 1) = tpP A B z f 1 j from rfl] at hcj
       have hpd := tpP_bd (f := f) (c := 1) HAp.out j
       have hj0 : (0 : Int) ≤ (j : Int) := by omega
       have hjc : (j : Int) < 1 := by omega
       have e0 := (HX.out wr hY).c0
       have e1 := (HX.out wr hY).c1
       have e2 := (HX.out wr hY).c2
       have e3 := (HX.out wr hY).c3
       have HPL := Lib.hid (fun (h : tpP A B z f 1 j ≠ -1) => tpL_at HAp.out (by omega) hlt h)
       have HNO := Lib.hid (fun (h : tpP A B z f 1 j = -1) => tpOk_no hlt (by omega) h)
       have HPC := Lib.hid (fun w' => place_any A B z (tpP A B z f 1 j) (some ⟨b, off, none⟩) n cap w' (by unfold i64; omega) HAp.out)
       have HV : Hid (tpP A B z f 1 j ≠ -1 → ∀ i, i < j + 1 → tpP A B z f 1 i ≠ -1) := Lib.hid fun h i hi => by
        by_cases e : i = j
        ·subst e; exact h
        ·exact hR.out.2 i (by omega)
       generalize tpP A B z f 1 j = y at hcj hpd HPL HNO HPC HV
       cases hy : y == -1 with
       | true =>
        have HO := Lib.hid (HEno.out (HNO.out (by simpa using hy)))
        have HB := Lib.hid (HB1.out.trans (hY.mono HB1.out.size))
        clear HPL HNO HPC HV hR
        go_wp2_with fail
        go_ret3
        exact ⟨by rw [HO.out.1, HO.out.2.1, HO.out.2.2.1]; rfl, by rw [HO.out.2.2.2]; exact Turn.same hx hs HB.out⟩
       | false =>
        have hyn : y ≠ -1 := by simpa using hy
        have HV' := Lib.hid (HV.out hyn)
        obtain ⟨hpl, hln, _⟩ := HPL.out hyn
        rw [hpl, show clip ((tpL A B z f 1 j : Nat) : Int) = (tpL A B z f 1 j : Nat) from if_pos (by omega), decide_eq_true (by omega)] at HPC
        clear HPL HNO hpl hyn HV
        have HLj : Hid ((List.range j).map (fun i => (tpL A B z f 1 i : Int)) ++ [(tpL A B z f 1 j : Int)] = (List.range (j + 1)).map (fun i => (tpL A B z f 1 i : Int))) := Lib.hid (by simp [List.range_succ])
        have HRR := Lib.hid hR.out.1
        clear hR
        generalize tpL A B z f 1 j = l at HPC hln HLj
        go_wp2_with fail
        refine (HPC.out wr).mono ?_
        rintro _ w2 ⟨rfl, hb2⟩
        dsimp only
        have HB2 := Lib.hid hb2
        clear hb2 e0 e1 e2 e3 hcj
        go_wp2_with (at_builtin; refine append_i1 rfl (.tmp 59) (.tmp 61) rfl w6.heap.size u8 _ rfl ((HRR.out.ow.below HB2.out).below ((Below.refl _ _).alloc (Nat.le_refl _) _)) w2.heap.size 1 (l : Int) rfl (World.cell?_alloc_new _ _ _ 0) (by simp; omega) (by have := HRR.out.lt; have := HB2.out.size; simp; omega) ?_; intro v' w3 hown hg; rw [HLj.out] at hown; have HN := Lib.hid (HRR.out.next HBB.out.1 HBB.out.2 HB2.out hown hg); clear hown hg)
        go_roundw
        case rel => exact ⟨j + 1, by omega, by go_num, Lib.hid ⟨HN.out, HV'.out⟩⟩
        case measure => simp [intOf]; omega
      ·obtain rfl : j = 1 := by omega
       have HO := Lib.hid (HEyes.out (tpOk_all (by omega) hR.out.2))
       have HRR := Lib.hid hR.out.1
       obtain ⟨b8, c8, hu8, hb8, hb8l, hc8⟩ := hR.out.1.ow.slice.resolve_left (by rintro ⟨_, h⟩; simp at h)
       rw [show ((List.range 1).map fun i => (tpL A B z f 1 i : Int)).length = 1 by simp] at hu8 hc8
       have hgw := hx.lt
       have hw61 := HRR.out.lt
       have HBE := Lib.hid (become_any g A B z (some ⟨b, off, none⟩) n cap f 2 0 0 0 0 (some ⟨b8, 0, none⟩) 1 c8 (tpL A B z f 1) wr (HX.out wr hY) ((HST.out).later hY) (by have := HN2.out; have := HAp.out.z1; omega) HBD.out (nx_bd (by omega)) (by omega)
        (fun i hi => by have := (tpL_at HAp.out (by omega) hi (hR.out.2 i hi)).2.1; have := HN2.out; omega)
        (.inr ⟨b8, 0, rfl, hb8l, by have := HB1.out.size; have := HB6.out.size; omega, fun i hi => by rw [Nat.zero_add, hc8 i hi, show ((List.range 1).map fun i => (tpL A B z f 1 i : Int)).getD i 0 = (tpL A B z f 1 i : Int) from tab_getD _ (fun i => (tpL A B z f 1 i : Int)) hi]⟩))
       subst hu8
       clear hc8 hR
       have r0 := HRR.out.ar.c0
       have r1 := HRR.out.ar.c1
       go_wp2_with fail
       refine HBE.out.mono ?_
       rintro _ w8 ⟨⟨v8, rfl⟩, hT⟩
       dsimp only
       have HT := Lib.hid hT
       have ar8 := HRR.out.ar.block (hT.only.block bk HRR.out.ar.lt (by have := HB1.out.size; simp; omega))
       have q0 := ar8.c0
       have q1 := ar8.c1
       clear hT r0 r1
       go_wp2_with fail
       go_quiet (fail)
       go_wp2_with fail
       go_ret3
       exact ⟨by rw [HO.out.1, HO.out.2.1, HO.out.2.2.1]; rfl, by rw [HO.out.2.2.2]; exact ((HT.out.after hY).after HB1.out).drop (below_drewN (Below.refl _ _) _)⟩
  ·clear h1 h2
   have HAp := Lib.hid (ap_of hp)
   have HN2 := Lib.hid hn2
   have HBD := Lib.hid (bd_of hp hs.byte)
   have HEno : Hid (tpOk A B z f 2 = false → tkp A B z n f 2 = 0 ∧ tkq A B z n f 2 = 0 ∧ tkE A B z n f 2 = 9 ∧ tkF A B z n f 2 = f) := Lib.hid fun h => tk_no (c := 2) hp (by omega) h
   have HEyes : Hid (tpOk A B z f 2 = true → tkp A B z n f 2 = tp0 A B z f 2 ∧ tkq A B z n f 2 = tp1 B z f 2 ∧ tkE A B z n f 2 = 0 ∧ tkF A B z n f 2 = bec (nx 2 0 0 0 0) (tpL A B z f 2) f 2) := Lib.hid fun h => tk_yes (c := 2) hp (by omega) h
   clear hp hn2
   go_enter Tryz.func111, Tryz.ntmps111
   go_wp2_with fail
   refine HF.out.mono ?_
   rintro _ w1 ⟨rfl, hb1⟩
   dsimp only
   have HB1 := Lib.hid hb1
   have HX := Lib.hid (fun w' (hw' : Below w1.heap.size w1 w') => (hx.below hb1 hx.lt).below hw' (by have := hx.lt; have := hb1.size; omega))
   have HST := Lib.hid (hs.later hb1)
   obtain ⟨_, _, e1', hbb, hnc, hcc⟩ := bytes_tab HST.out.lies (by have := HN2.out; have := HAp.out.z1; omega)
   injection e1' with e1'
   injection e1' with e1' e2'
   subst e1' e2'
   have HFA := Lib.hid (fun w' (hw' : Below w1.heap.size w1 w') => firstFree0_any A B z b off n cap f w' (by have := HAp.out.z1; omega) (by have := HAp.out.z2; omega) HN2.out hnc (by have := HAp.out; have := this.a0; have := HAp.out.ab; have := HAp.out.b1; omega) (by have := HAp.out; have := this.a0; have := HAp.out.ab; have := HAp.out.b1; omega) (by have := hw'.size; omega) (fun i hi => (hw'.cell (p := ⟨b, off + i, none⟩) hbb).trans (hcc i hi)))
   have HFB := Lib.hid (fun w' (hw' : Below w1.heap.size w1 w') => firstFree1_any A B z b off n cap f w' (by have := HAp.out.z1; omega) (by have := HAp.out.z2; omega) HN2.out hnc (by have := HAp.out; have := this.a0; have := HAp.out.ab; have := HAp.out.b1; omega) (by have := HAp.out; have := this.a0; have := HAp.out.ab; have := HAp.out.b1; omega) (by have := hw'.size; omega) (fun i hi => (hw'.cell (p := ⟨b, off + i, none⟩) hbb).trans (hcc i hi)))
   rw [show ff A f z = fA A z f from rfl] at HFA
   rw [show ff B (fun i => f (z + i)) z = fB B z f from rfl] at HFB
   obtain ⟨fa, hfa⟩ : ∃ fa, fa = fA A z f := ⟨_, rfl⟩
   obtain ⟨fb, hfb⟩ : ∃ fb, fb = fB B z f := ⟨_, rfl⟩
   rw [← hfa] at HFA
   rw [← hfb] at HFB
   have HFa := Lib.hid hfa
   have HFb := Lib.hid hfb
   clear hfa hfb hcc hb1
   go_wp2_with fail
   refine QuietTail2.regionInv (n := 10) (Inv := TkInv _ _ _ _ _ _ _ _ _ _ _ _ _ _ _ _ _ _ _ _ _ _ _ _ _ _ _ _ _ _ _ _ _ _ _ _ _ _ _ _ _ _ _ _ _ _ _ _ _ _ _ _ _ _ _ _ _ _ _ _ g A B fa fb 2 z b off n cap w1) (by kernel_rfl) (by decide) (by kernel_rfl) ⟨_, _, _, _, _, _, _, _, _, _, rfl, by simp, by simp, by simp, by simp, by simp, by simp, by simp, by simp, by simp, by simp, ⟨rfl, rfl, rfl, Nat.le_refl _, fun _ _ => rfl⟩⟩ ?step ?fin
   case step =>
    rintro i o hi ho L a' w' ⟨u0, u1, u2, u3, u4, u5, u6, u7, u8, u9, rfl, i0, i1, i2, i3, i4, i5, i6, i7, i8, ia, iB⟩ hL hpre
    match i, hi with
    | 0, _ =>
     simp at ho
     subst ho
     go_simp
     exact ⟨_, u1, u2, u3, u4, u5, u6, u7, u8, u9, rfl, fun _ => rfl, TkInv_kl i1 rfl, TkInv_kl i2 rfl, TkInv_kl i3 rfl, TkInv_kl i4 rfl, TkInv_kl i5 rfl, TkInv_kl i6 rfl, TkInv_kl i7 rfl, TkInv_kl i8 rfl, TkInv_al ia rfl, iB⟩
    | 1, _ =>
     simp at ho
     subst ho
     obtain rfl := i0 (hpre 0 (by kernel_rfl))
     go_simp
     exact ⟨_, _, u2, u3, u4, u5, u6, u7, u8, u9, rfl, TkInv_kl i0 rfl, fun _ => rfl, TkInv_kl i2 rfl, TkInv_kl i3 rfl, TkInv_kl i4 rfl, TkInv_kl i5 rfl, TkInv_kl i6 rfl, TkInv_kl i7 rfl, TkInv_kl i8 rfl, TkInv_al ia rfl, iB⟩
    | 2, _ =>
     simp at ho
     subst ho
     obtain rfl := i1 (hpre 1 (by kernel_rfl))
     have k0 := (HX.out w' iB).c0; have k1 := (HX.out w' iB).c1; have k2 := (HX.out w' iB).c2; have k3 := (HX.out w' iB).c3
     go_simp
     exact ⟨u0, _, _, u3, u4, u5, u6, u7, u8, u9, rfl, TkInv_kl i0 rfl, TkInv_kl i1 rfl, fun _ => rfl, TkInv_kl i3 rfl, TkInv_kl i4 rfl, TkInv_kl i5 rfl, TkInv_kl i6 rfl, TkInv_kl i7 rfl, TkInv_kl i8 rfl, TkInv_al ia rfl, iB⟩
    | 3, _ =>
     simp at ho
     subst ho
     obtain rfl := i2 (hpre 2 (by kernel_rfl))
     go_simp
     refine (HFA.out w' iB).mono ?_
     rintro _ w'' ⟨rfl, hbp⟩
     exact ⟨u0, u1, _, _, u4, u5, u6, u7, u8, u9, rfl, TkInv_kl i0 rfl, TkInv_kl i1 rfl, TkInv_kl i2 rfl, fun _ => rfl, TkInv_kl i4 rfl, TkInv_kl i5 rfl, TkInv_kl i6 rfl, TkInv_kl i7 rfl, TkInv_kl i8 rfl, TkInv_al (fun hl => by obtain ⟨bk, e1, e2, e3⟩ := ia hl; exact ⟨bk, e1, e2, (hbp.block bk (Array.getElem?_eq_some_iff.1 e3).1).trans e3⟩) rfl, iB.trans (hbp.mono iB.size)⟩
    | 4, _ =>
     simp at ho
     subst ho
     go_simp
     exact ⟨u0, u1, u2, u3, _, u5, u6, u7, u8, u9, rfl, TkInv_kl i0 rfl, TkInv_kl i1 rfl, TkInv_kl i2 rfl, TkInv_kl i3 rfl, fun _ => rfl, TkInv_kl i5 rfl, TkInv_kl i6 rfl, TkInv_kl i7 rfl, TkInv_kl i8 rfl, TkInv_al ia rfl, iB⟩
    | 5, _ =>
     simp at ho
     subst ho
     obtain rfl := i4 (hpre 4 (by kernel_rfl))
     go_simp
     exact ⟨u0, u1, u2, u3, _, _, u6, u7, u8, u9, rfl, TkInv_kl i0 rfl, TkInv_kl i1 rfl, TkInv_kl i2 rfl, TkInv_kl i3 rfl, TkInv_kl i4 rfl, fun _ => rfl, TkInv_kl i6 rfl, TkInv_kl i7 rfl, TkInv_kl i8 rfl, TkInv_al ia rfl, iB⟩
    | 6, _ =>
     simp at ho
     subst ho
     obtain rfl := i5 (hpre 5 (by kernel_rfl))
     have k0 := (HX.out w' iB).c0; have k1 := (HX.out w' iB).c1; have k2 := (HX.out w' iB).c2; have k3 := (HX.out w' iB).c3
     go_simp
     exact ⟨u0, u1, u2, u3, u4, _, _, u7, u8, u9, rfl, TkInv_kl i0 rfl, TkInv_kl i1 rfl, TkInv_kl i2 rfl, TkInv_kl i3 rfl, TkInv_kl i4 rfl, TkInv_kl i5 rfl, fun _ => rfl, TkInv_kl i7 rfl, TkInv_kl i8 rfl, TkInv_al ia rfl, iB⟩
    | 7, _ =>
     simp at ho
     subst ho
     obtain rfl := i6 (hpre 6 (by kernel_rfl))
     go_simp
     refine (HFB.out w' iB).mono ?_
     rintro _ w'' ⟨rfl, hbp⟩
     exact ⟨u0, u1, u2, u3, u4, u5, _, _, u8, u9, rfl, TkInv_kl i0 rfl, TkInv_kl i1 rfl, TkInv_kl i2 rfl, TkInv_kl i3 rfl, TkInv_kl i4 rfl, TkInv_kl i5 rfl, TkInv_kl i6 rfl, fun _ => rfl, TkInv_kl i8 rfl, TkInv_al (fun hl => by obtain ⟨bk, e1, e2, e3⟩ := ia hl; exact ⟨bk, e1, e2, (hbp.block bk (Array.getElem?_eq_some_iff.1 e3).1).trans e3⟩) rfl, iB.trans (hbp.mono iB.size)⟩
    | 8, _ =>
     simp at ho
     subst ho
     obtain rfl := i3 (hpre 3 (by kernel_rfl))
     obtain rfl := i7 (hpre 7 (by kernel_rfl))
     go_simp
     exact ⟨u0, u1, u2, _, u4, u5, u6, _, _, u9, rfl, TkInv_kl i0 rfl, TkInv_kl i1 rfl, TkInv_kl i2 rfl, TkInv_kl i3 rfl, TkInv_kl i4 rfl, TkInv_kl i5 rfl, TkInv_kl i6 rfl, TkInv_kl i7 rfl, fun _ => rfl, TkInv_al ia rfl, iB⟩
    | 9, _ =>
     simp at ho
     subst ho
     have hn := heap_alloc_new w' (.cells #[.int .i64 0, .int .i64 0] 31)
     go_simp
     exact ⟨u0, u1, u2, u3, u4, u5, u6, u7, u8, _, rfl, TkInv_kl i0 rfl, TkInv_kl i1 rfl, TkInv_kl i2 rfl, TkInv_kl i3 rfl, TkInv_kl i4 rfl, TkInv_kl i5 rfl, TkInv_kl i6 rfl, TkInv_kl i7 rfl, TkInv_kl i8 rfl, fun _ => ⟨_, rfl, iB.size, hn⟩, iB.alloc iB.size _⟩
    | i + 10, h => omega
   case fin =>
    rintro L a' w5 hall ⟨u0, u1, u2, u3, u4, u5, u6, u7, u8, u9, rfl, i0, i1, i2, i3, i4, i5, i6, i7, i8, ia, iB⟩
    obtain rfl := i0 (hall 0 (by omega))
    obtain rfl := i1 (hall 1 (by omega))
    obtain rfl := i2 (hall 2 (by omega))
    obtain rfl := i3 (hall 3 (by omega))
    obtain rfl := i4 (hall 4 (by omega))
    obtain rfl := i5 (hall 5 (by omega))
    obtain rfl := i6 (hall 6 (by omega))
    obtain rfl := i7 (hall 7 (by omega))
    obtain rfl := i8 (hall 8 (by omega))
    obtain ⟨bk, rfl, hbk, hbz⟩ := ia (hall 9 (by omega))
    clear i0 i1 i2 i3 i4 i5 i6 i7 i8 ia hall
    simp only [List.drop_succ_cons, List.drop_zero]
    have ar5 : R2 w5 bk 0 0 := hbz
    have l0 := ar5.c0
    have l1 := ar5.c1
    have lf0 := ar5.fr 0
    have lf1 := ar5.fr 1
    clear hbz
    have HR6 : Hid (R2 ((w5.setCell ⟨bk, 0, none⟩ (.int .i64 fa)).setCell ⟨bk, 1, none⟩ (.int .i64 fb)) bk (tp0 A B z f 2) (tp1 B z f 2)) := Lib.hid (by rw [show tp0 A B z f 2 = fa from HFa.out.symm, show tp1 B z f 2 = fb from HFb.out.symm]; exact (ar5.s0 fa).s1 fb)
    have HB6 : Hid (Below w1.heap.size w1 ((w5.setCell ⟨bk, 0, none⟩ (.int .i64 fa)).setCell ⟨bk, 1, none⟩ (.int .i64 fb))) := Lib.hid ((iB.setCell hbk _).setCell hbk _)
    clear ar5 iB HFA HFB HFa HFb HF
    go_wp2_with fail
    generalize (w5.setCell ⟨bk, 0, none⟩ (.int .i64 fa)).setCell ⟨bk, 1, none⟩ (.int .i64 fb) = w6 at HR6 HB6 ⊢
    clear l0 l1 lf0 lf1
    have HBB : Hid (bk < w6.heap.size ∧ w1.heap.size ≤ w6.heap.size) := Lib.hid ⟨HR6.out.lt, HB6.out.size⟩
    go_wp2_with fail
    go_loopw [8, 45] (fun t i wr => ∃ j : Nat, j ≤ 2 ∧ i = .int .i64 j ∧ Hid (TkR w1 bk (tp0 A B z f 2) (tp1 B z f 2) w6.heap.size (tpL A B z f 2) j t wr ∧ ∀ i, i < j → tpP A B z f 2 i ≠ -1)) (fun _ i _ => 2 - (intOf i).toNat)
    case atStart => exact ⟨0, by omega, rfl, Lib.hid ⟨⟨HB6.out, HR6.out, OwnI.nil _ _, Nat.le_refl _⟩, fun i hi => by omega⟩⟩
    case round =>
     rename_i u8 _
     obtain ⟨j, hj, rfl, hR⟩ := hrel
     have hY := hR.out.1.be
     by_cases hlt : j < 2
     ·have hcj := hR.out.1.ar.cj (j := j) (by omega)
      rw [show (if j = 0 then tp0 A B z f 2 else tp1 B z f 2) = tpP A B z f 2 j from rfl] at hcj
      have hpd := tpP_bd (f := f) (c := 2) HAp.out j
      have hj0 : (0 : Int) ≤ (j : Int) := by omega
      have hjc : (j : Int) < 2 := by omega
      have e0 := (HX.out wr hY).c0
      have e1 := (HX.out wr hY).c1
      have e2 := (HX.out wr hY).c2
      have e3 := (HX.out wr hY).c3
      have HPL := Lib.hid (fun (h : tpP A B z f 2 j ≠ -1) => tpL_at HAp.out (by omega) hlt h)
      have HNO := Lib.hid (fun (h : tpP A B z f 2 j = -1) => tpOk_no hlt (by omega) h)
      have HPC := Lib.hid (fun w' => place_any A B z (tpP A B z f 2 j) (some ⟨b, off, none⟩) n cap w' (by unfold i64; omega) HAp.out)
      have HV : Hid (tpP A B z f 2 j ≠ -1 → ∀ i, i < j + 1 → tpP A B z f 2 i ≠ -1) := Lib.hid fun h i hi => by
       by_cases e : i = j
       ·subst e; exact h
       ·exact hR.out.2 i (by omega)
      generalize tpP A B z f 2 j = y at hcj hpd HPL HNO HPC HV
      cases hy : y == -1 with
      | true =>
       have HO := Lib.hid (HEno.out (HNO.out (by simpa using hy)))
       have HB := Lib.hid (HB1.out.trans (hY.mono HB1.out.size))
       clear HPL HNO HPC HV hR
       go_wp2_with fail
       go_ret3
       exact ⟨by rw [HO.out.1, HO.out.2.1, HO.out.2.2.1]; rfl, by rw [HO.out.2.2.2]; exact Turn.same hx hs HB.out⟩
      | false =>
       have hyn : y ≠ -1 := by simpa using hy
       have HV' := Lib.hid (HV.out hyn)
       obtain ⟨hpl, hln, _⟩ := HPL.out hyn
       rw [hpl, show clip ((tpL A B z f 2 j : Nat) : Int) = (tpL A B z f 2 j : Nat) from if_pos (by omega), decide_eq_true (by omega)] at HPC
       clear HPL HNO hpl hyn HV
       have HLj : Hid ((List.range j).map (fun i => (tpL A B z f 2 i : Int)) ++ [(tpL A B z f 2 j : Int)] = (List.range (j + 1)).map (fun i => (tpL A B z f 2 i : Int))) := Lib.hid (by simp [List.range_succ])
       have HRR := Lib.hid hR.out.1
       clear hR
       generalize tpL A B z f 2 j = l at HPC hln HLj
       go_wp2_with fail
       refine (HPC.out wr).mono ?_
       rintro _ w2 ⟨rfl, hb2⟩
       dsimp only
       have HB2 := Lib.hid hb2
       clear hb2 e0 e1 e2 e3 hcj
       go_wp2_with (at_builtin; refine append_i1 rfl (.tmp 59) (.tmp 61) rfl w6.heap.size u8 _ rfl ((HRR.out.ow.below HB2.out).below ((Below.refl _ _).alloc (Nat.le_refl _) _)) w2.heap.size 1 (l : Int) rfl (World.cell?_alloc_new _ _ _ 0) (by simp; omega) (by have := HRR.out.lt; have := HB2.out.size; simp; omega) ?_; intro v' w3 hown hg; rw [HLj.out] at hown; have HN := Lib.hid (HRR.out.next HBB.out.1 HBB.out.2 HB2.out hown hg); clear hown hg)
       go_roundw
       case rel => exact ⟨j + 1, by omega, by go_num, Lib.hid ⟨HN.out, HV'.out⟩⟩
       case measure => simp [intOf]; omega
     ·obtain rfl : j = 2 := by omega
      have HO := Lib.hid (HEyes.out (tpOk_all (by omega) hR.out.2))
      have HRR := Lib.hid hR.out.1
      obtain ⟨b8, c8, hu8, hb8, hb8l, hc8⟩ := hR.out.1.ow.slice.resolve_left (by rintro ⟨_, h⟩; simp at h)
      rw [show ((List.range 2).map fun i => (tpL A B z f 2 i : Int)).length = 2 by simp] at hu8 hc8
      have hgw := hx.lt
      have hw61 := HRR.out.lt
      have HBE := Lib.hid (become_any g A B z (some ⟨b, off, none⟩) n cap f 2 0 0 0 0 (some ⟨b8, 0, none⟩) 2 c8 (tpL A B z f 2) wr (HX.out wr hY) ((HST.out).later hY) (by have := HN2.out; have := HAp.out.z1; omega) HBD.out (nx_bd (by omega)) (by omega)
       (fun i hi => by have := (tpL_at HAp.out (by omega) hi (hR.out.2 i hi)).2.1; have := HN2.out; omega)
       (.inr ⟨b8, 0, rfl, hb8l, by have := HB1.out.size; have := HB6.out.size; omega, fun i hi => by rw [Nat.zero_add, hc8 i hi, show ((List.range 2).map fun i => (tpL A B z f 2 i : Int)).getD i 0 = (tpL A B z f 2 i : Int) from tab_getD _ (fun i => (tpL A B z f 2 i : Int)) hi]⟩))
      subst hu8
      clear hc8 hR
      have r0 := HRR.out.ar.c0
      have r1 := HRR.out.ar.c1
      go_wp2_with fail
      refine HBE.out.mono ?_
      rintro _ w8 ⟨⟨v8, rfl⟩, hT⟩
      dsimp only
      have HT := Lib.hid hT
      have ar8 := HRR.out.ar.block (hT.only.block bk HRR.out.ar.lt (by have := HB1.out.size; simp; omega))
      have q0 := ar8.c0
      have q1 := ar8.c1
      clear hT r0 r1
      go_wp2_with fail
      go_quiet (fail)
      go_wp2_with fail
      go_ret3
      exact ⟨by rw [HO.out.1, HO.out.2.1, HO.out.2.2.1]; rfl, by rw [HO.out.2.2.2]; exact ((HT.out.after hY).after HB1.out).drop (below_drewN (Below.refl _ _) _)⟩
end
end Sp
end Go.Proofs.YtonhedefjmkpcaaGreatDoor
