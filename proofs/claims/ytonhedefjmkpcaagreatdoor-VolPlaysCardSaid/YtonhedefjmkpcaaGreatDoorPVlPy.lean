import Derived.Test.YtonhedefjmkpcaaGreatDoorPVlPm
import Derived.Test.YtonhedefjmkpcaaGreatDoorPVlToa
import Derived.Test.YtonhedefjmkpcaaGreatDoorPVlS
import Derived.Test.YtonhedefjmkpcaaGreatDoorPVlTn
import Derived.Test.YtonhedefjmkpcaaGreatDoorPVlK
import Derived.Test.YtonhedefjmkpcaaGreatDoorPQTail2
/- vol: Add and Swap in a play: what they answer, and what is held behind them. -/
namespace Go.Proofs.YtonhedefjmkpcaaGreatDoor
set_option maxRecDepth 20000
namespace Vl
open Go.RowKit Dk Gm Eqb Rm Vm Di Vp

section
variable {X : Dst} {f : Nat → Int} {H : List Hd}
theorem al_12 {c : Nat} (hc : c = 1 ∨ c = 2) : alB (c : Int) = true := by rcases hc with rfl | rfl <;> rfl
/-- what has a copy in each region -/
def TwE (x : Hd) : Prop := x.1 = Pt.hole ∨ (28 ≤ x.1.A ∧ x.1.A < 156 ∧ 184 ≤ x.1.B ∧ x.1.B < 312)
theorem tw_take {f : Nat → Int} (hf : Sp.formB 28 184 128 256 f = true) (h : Sp.tkE 28 184 128 256 f 2 = 0) : 28 ≤ Sp.tkp 28 184 128 256 f 2 ∧ Sp.tkp 28 184 128 256 f 2 < 156 ∧ 184 ≤ Sp.tkq 28 184 128 256 f 2 ∧ Sp.tkq 28 184 128 256 f 2 < 312 := by
 have hap : Sp.Ap 28 184 (128 : Nat) := ap9
 cases ho : Sp.tpOk 28 184 128 f 2 with
 | false =>
  have h3 := (Sp.tk_no (z := 128) (c := 2) hf (.inr rfl) ho).2.2.1
  have h' : Sp.tkE 28 184 (128 : Nat) 256 f (2 : Nat) = 0 := h
  omega
 | true =>
  obtain ⟨h1, h2, _, _⟩ := Sp.tk_yes (z := 128) (c := 2) hf (.inr rfl) ho
  have hall := Sp.tpOk_yes ho (.inr rfl)
  obtain ⟨e0, _, _, d0⟩ := Sp.tpL_at hap (c := 2) (.inr rfl) (show 0 < 2 by omega) (hall 0 (by omega))
  obtain ⟨e1, l1, _, d1⟩ := Sp.tpL_at hap (c := 2) (.inr rfl) (show 1 < 2 by omega) (hall 1 (by omega))
  have k0 := (d0 rfl).1 rfl
  have k1 := (d1 rfl).2 rfl
  have e0' : Sp.plI 28 184 (128 : Nat) (Sp.tp0 28 184 128 f 2) = Sp.tpL 28 184 128 f 2 0 := e0
  have e1' : Sp.plI 28 184 (128 : Nat) (Sp.tp1 184 128 f 2) = Sp.tpL 28 184 128 f 2 1 := e1
  have g1 : Sp.tkp 28 184 128 256 f 2 = Sp.tp0 28 184 128 f 2 := h1
  have g2 : Sp.tkq 28 184 128 256 f 2 = Sp.tp1 184 128 f 2 := h2
  rw [g1, g2]
  unfold Sp.plI at e0' e1'
  split at e0' <;> split at e1'
  all_goals first
   | omega
   | (split at e0' <;> omega)
   | (split at e1' <;> omega)
   | (split at e0' <;> split at e1' <;> omega)
/-- Add's answer, and what is held behind it -/
theorem py_add (h : Py X f H) (hm : X.m ≤ 1000) {c : Nat} (hc : c = 1 ∨ c = 2) {i z : Nat} (hi : i < 128) (hz : z < 256) :
  ∃ (p1 : Pt.Pn) (E1 : Int) (X' : Dst) (f' : Nat → Int), X'.m ≤ X.m + 2 ∧
   (∀ (w : World) (V : Pl), Rm.Kp w → HasVol w V 332 X vM 28 184 128 256 f → Calls Tryz.prog 46 #[.pointer (some ⟨V.b, V.o, none⟩), .agg (bl (Vp.one i z)).toArray, .int .i64 (c : Int)] w
    fun e w' => e = .returned (.tuple #[.agg (Pt.pV p1).toArray, .int .i64 E1]) ∧ Tv w V 332 X' vM 28 184 128 256 f' w') ∧
   ((E1 = 0 ∧ Py X' f' (H ++ [(p1, Vp.one i z)]) ∧ (z = 0 ∧ p1 = Pt.hole ∨ z ≠ 0 ∧ p1.A ≠ -1) ∧ (c = 2 → TwE (p1, Vp.one i z))) ∨ (E1 = 9 ∧ z ≠ 0 ∧ X' = X ∧ f' = f ∧ Sp.tkE 28 184 128 256 f c = 9)) := by
 have hD := one_byt (i := i) hz
 have hzb := one_zero (i := i) (z := z) hi
 by_cases h0 : z = 0
 ·have hb : Wd.zeroB (Vp.one i z) 128 = true := by rw [hzb, h0]; rfl
  refine ⟨Pt.hole, 0, X, f, by omega, fun w V hkp hv => ?_, .inl ⟨rfl, h.hole hi hz hb, .inl ⟨h0, rfl⟩, fun _ => .inl rfl⟩⟩
  exact (add_hole hv tabM i64_184 hkp (Vp.one i z) c hD (rv_up h.u h.form) (al_12 hc) (by rw [fits_hole]; exact hb)).mono fun e w' ⟨he, hb'⟩ => ⟨he, Tv.of hv hb'⟩
 ·have hb : Wd.zeroB (Vp.one i z) 128 = false := by rw [hzb]; exact beq_eq_false_iff_ne.2 h0
  have hfh : Pt.fitsB Pt.hole (Vp.one i z) = false := by rw [fits_hole]; exact hb
  rcases h.add hc hm hi hz hb with ⟨e1, e2⟩ | ⟨a1, b1, X', t1, t2, t3, hres, ok2, tm2, hX, hP⟩
  ·refine ⟨Pt.pz, 9, X, f, by omega, fun w V hkp hv => ?_, .inr ⟨rfl, h0, rfl, rfl, e1⟩⟩
   have := add_full hv tabM i64_184 hkp (Vp.one i z) c hD (rv_up h.u h.form) (al_12 hc) (by omega) hfh rfl (by rw [e1]; decide)
   rw [e1, e2] at this
   exact this
  ·refine ⟨_, 0, X', _, hX, fun w V hkp hv => ?_, .inl ⟨rfl, hP, .inr ⟨h0, ?_⟩, fun e2 => ?_⟩⟩
   ·exact add_ok hv tabM i64_184 hkp (Vp.one i z) c hD (rv_up h.u h.form) (al_12 hc) (by omega) (h.u.ok (by omega)) hfh rfl t3 t1 t2 hres ok2 tm2
   ·rcases (hP.el (⟨a1, b1, Pt.sumD (Vp.one i z)⟩, Vp.one i z) (by simp)).lay with ⟨e, hz'⟩ | ⟨_, a, c', e, hps, _, _⟩
    ·rw [hb] at hz'
     cases hz'
    ·injection e with e _ _
     have := hps.fa.bd
     show a1 ≠ -1
     omega
   ·subst e2
    have := tw_take h.form t3
    have s1 : Sp.tkp 28 184 128 256 f 2 = a1 := t1
    have s2 : Sp.tkq 28 184 128 256 f 2 = b1 := t2
    rw [s1, s2] at this
    exact .inr this
theorem el_i64 {X : Dst} {x : Hd} (h : El X x) : Sp.i64 x.1.A ∧ Sp.i64 x.1.B ∧ -1 ≤ x.1.A ∧ x.1.A < 332 ∧ -1 ≤ x.1.B ∧ x.1.B < 332 := by
 unfold Sp.i64
 rcases h.lay with ⟨e, _⟩ | ⟨_, a, c, e, hp, _, _⟩
 ·rw [e]
  refine ⟨?_, ?_, ?_, ?_, ?_, ?_⟩ <;> decide
 ·rw [e]
  have ha := hp.fa.bd
  have hc : -1 ≤ c ∧ c < 332 := by
   rcases hp.fc with rfl | ⟨hc, _⟩
   ·omega
   ·have := hc.bd; omega
  dsimp only
  omega
/-- Swap's answer, and what is held behind it -/
theorem py_swap (h : Py X f H) (hm : X.m ≤ 1000) {m : Nat} {x : Hd} (hq : H[m]? = some x) {c : Nat} (hc : c = 1 ∨ c = 2) {i z : Nat} (hi : i < 128) (hz : z < 256) :
  ∃ (p1 : Pt.Pn) (E1 : Int) (X' : Dst) (f' : Nat → Int), X'.m ≤ X.m + 2 ∧
   (∀ (w : World) (V : Pl), Rm.Kp w → HasVol w V 332 X vM 28 184 128 256 f → Calls Tryz.prog 54 #[.pointer (some ⟨V.b, V.o, none⟩), .agg (Pt.pV x.1).toArray, .agg (bl (Vp.one i z)).toArray, .int .i64 (c : Int)] w
    fun e w' => e = .returned (.tuple #[.agg (Pt.pV p1).toArray, .int .i64 E1]) ∧ Tv w V 332 X' vM 28 184 128 256 f' w') ∧
   ((E1 = 0 ∧ Py X' f' (H.set m (p1, Vp.one i z)) ∧ (c = 2 → TwE x → TwE (p1, Vp.one i z))) ∨ (E1 = 9 ∧ z ≠ 0 ∧ X' = X ∧ f' = f ∧ Sp.tkE 28 184 128 256 f c = 9)) := by
 have hD := one_byt (i := i) hz
 obtain ⟨hml, hxe⟩ := List.getElem?_eq_some_iff.1 hq
 have hx : x ∈ H := hxe ▸ List.getElem_mem hml
 have hE := h.el x hx
 have hmn := h.mine hx
 obtain ⟨iA, iB, _⟩ := el_i64 hE
 have add := py_add h hm hc hi hz
 cases hf : Pt.fitsB x.1 (Vp.one i z) with
 | true =>
  cases hh : Pt.isHole x.1 with
  | true =>
   refine ⟨x.1, 0, X, f, by omega, fun w V hkp hv => ?_, .inl ⟨rfl, h.same hq hi hz hf, fun _ h => h⟩⟩
   exact (swap_same_hole hv tabM i64_184 hkp x.1 iA iB (Vp.one i z) c hD hmn (al_12 hc) hf hh).mono fun e w' ⟨he, hb'⟩ => ⟨he, Tv.of hv hb'⟩
  | false =>
   by_cases hn : cntI x.1 = c
   ·refine ⟨x.1, 0, X, f, by omega, fun w V hkp hv => ?_, .inl ⟨rfl, h.same hq hi hz hf, fun _ h => h⟩⟩
    exact (swap_same_count hv tabM i64_184 hkp x.1 iA iB (Vp.one i z) c hD hmn (al_12 hc) hf hh hn).mono fun e w' ⟨he, hb'⟩ => ⟨he, Tv.of hv hb'⟩
   ·have hn' : (cntI x.1 == (c : Int)) = false := beq_eq_false_iff_ne.2 hn
    obtain ⟨p1, E1, X1, f1, hX, hA, hr⟩ := add
    rcases hr with ⟨rfl, hP, _, hTw⟩ | ⟨rfl, h0, e1, e2, ht⟩
    ·obtain ⟨d1, d2⟩ := hP.swap hq
     refine ⟨p1, 0, X1, _, hX, fun w V hkp hv => ?_, .inl ⟨rfl, d2, fun e _ => hTw e⟩⟩
     exact swap_ok_b hv tabM i64_184 hkp x.1 iA iB (Vp.one i z) c hD hmn (al_12 hc) (by omega) rfl hf hh hn' (fun w' hb' hv' => hA w' V (hkp.below hb') hv') rfl d1 rfl
    ·refine ⟨Pt.pz, 9, X1, f1, hX, fun w V hkp hv => ?_, .inr ⟨rfl, h0, e1, e2, ht⟩⟩
     exact swap_no_b hv tabM i64_184 hkp x.1 iA iB (Vp.one i z) c hD hmn (al_12 hc) (by omega) rfl hf hh hn' (fun w' hb' hv' => hA w' V (hkp.below hb') hv') rfl
 | false =>
  obtain ⟨p1, E1, X1, f1, hX, hA, hr⟩ := add
  rcases hr with ⟨rfl, hP, _, hTw⟩ | ⟨rfl, h0, e1, e2, ht⟩
  ·obtain ⟨d1, d2⟩ := hP.swap hq
   refine ⟨p1, 0, X1, _, hX, fun w V hkp hv => ?_, .inl ⟨rfl, d2, fun e _ => hTw e⟩⟩
   exact swap_ok_a hv tabM i64_184 hkp x.1 iA iB (Vp.one i z) c hD hmn (al_12 hc) (by omega) rfl hf (fun w' hb' hv' => hA w' V (hkp.below hb') hv') rfl d1 rfl
  ·refine ⟨Pt.pz, 9, X1, f1, hX, fun w V hkp hv => ?_, .inr ⟨rfl, h0, e1, e2, ht⟩⟩
   exact swap_no_a hv tabM i64_184 hkp x.1 iA iB (Vp.one i z) c hD hmn (al_12 hc) (by omega) rfl hf (fun w' hb' hv' => hA w' V (hkp.below hb') hv') rfl
end
end Vl
end Go.Proofs.YtonhedefjmkpcaaGreatDoor
/- vol: a play in memory: the volume and the list of what is held. -/
namespace Go.Proofs.YtonhedefjmkpcaaGreatDoor
set_option maxRecDepth 20000
namespace Vl
open Go.RowKit Dk Gm Eqb Rm Vm Di Vp

/-- the volume, and the call's own list of what is held -/
structure Mw (w0 : World) (V : Pl) (X : Dst) (f : Nat → Int) (H : List Hd) (vH : Value) (w : World) : Prop where
 t : Tv w0 V 332 X vM 28 184 128 256 f w
 own : OwnH w w0.heap.size vH H
 off : ∀ b, vH.ownBlock = some b → Off w V b
section
variable {w0 w w' : World} {V : Pl} {X X' : Dst} {f f' : Nat → Int} {H H' : List Hd} {vH v' : Value} {v : Value}
theorem own_base {B B' : Nat} {t : TypeId} {k n : Nat} {xs : List Value} (h : w.ownsRow B t k v n xs) (hB : B' ≤ B) : w.ownsRow B' t k v n xs :=
 ⟨h.1, h.2.imp id fun ⟨g, cap, cur, h1, hb, r⟩ => ⟨g, cap, cur, h1, Nat.le_trans hB hb, r⟩⟩
theorem grown_setCells : ∀ (w : World) (b o : Nat) (vs : List Value), w.grownBy (w.setCells b o vs) (some b)
 | w, b, o, [] => ⟨rfl, rfl, rfl, Nat.le_refl _, fun _ _ _ => rfl⟩
 | w, b, o, v :: r => by
  have h1 : w.grownBy (w.setCell ⟨b, o, none⟩ v) (some b) := ⟨rfl, rfl, rfl, by simp [World.setCell], fun k _ hk => Below.heap_setCell _ _ _ _ (fun e => hk (by simp [e]))⟩
  exact Dk.only_trans h1 (grown_setCells (w.setCell ⟨b, o, none⟩ v) b (o + 1) r)
theorem own_kept {b : Nat} {t : TypeId} {k n : Nat} {xs : List Value} {row : Option Nat} (h : w.ownsRow b t k v n xs) (hg : w.grownBy w' row) (hr : ∀ g, v.ownBlock = some g → row ≠ some g) : w'.ownsRow b t k v n xs :=
 h.kept hg (by
  cases e : v.ownBlock with
  | none => exact .inl rfl
  | some g => exact .inr fun e2 => hr g e e2.symm)
theorem off_grown {row : Option Nat} {b : Nat} (h : Off w V b) (hV : V.b < w.heap.size) (hg : w.grownBy w' row) (hr : row ≠ some V.b) : Off w' V b :=
 ⟨h.1, fun q o s k c e => h.2 q o s k c (by rw [← e]; exact (World.cell?_of_block (hg.block V.b hV (Ne.symm hr))).symm)⟩
theorem Mw.size (h : Mw w0 V X f H vH w) : w0.heap.size ≤ w.heap.size := h.t.g.size
theorem Mw.below (h : Mw w0 V X f H vH w) (hb : Below w.heap.size w w') : Mw w0 V X f H vH w' := by
 have hg : w.grownBy w' none := ⟨hb.os, hb.tape, hb.output, hb.size, fun k hk _ => hb.block k hk⟩
 exact ⟨h.t.below hb, own_kept h.own hg (fun _ _ e => by cases e), fun b e => (h.off b e).below h.t.v.lt hb⟩
theorem Mw.call (h : Mw w0 V X f H vH w) (ht : Tv w V 332 X' vM 28 184 128 256 f' w') : Mw w0 V X' f' H vH w' :=
 ⟨h.t.trans ht, own_kept h.own ht.g (fun g e e2 => (h.off g e).1 (Option.some.inj e2)), fun b e => (h.off b e).loc ((h.own.lt b e).2) ht.l⟩
/-- the list's own block is written, or a new one is made -/
theorem Mw.turn (h : Mw w0 V X f H vH w) {row : Option Nat} (hrow : row = none ∨ ∃ g cur, row = some g ∧ w0.heap.size ≤ g ∧ Off w V g ∧ w.heap[g]? = some (.cells cur 52 (0, 0))) (_hV : V.b < w0.heap.size) (hg : w.grownBy w' row) : Tv w0 V 332 X vM 28 184 128 256 f w' ∧ ∀ b, Off w V b → Off w' V b := by
 have hlt := h.t.v.lt
 rcases hrow with rfl | ⟨g, cur, rfl, hgb, ho, hc⟩
 ·have hb : Below w.heap.size w w' := (Below.refl _ w).grown hg (Nat.le_refl _) (fun b e => by cases e)
  exact ⟨h.t.below hb, fun b e => e.below hlt hb⟩
 ·obtain ⟨h1, _⟩ := hasVol_only h.t.v (by omega) ho hc (by decide) (by decide) (.inl rfl) hg
  refine ⟨⟨h1, ?_, ?_⟩, fun b e => off_grown e hlt hg (fun e2 => ho.1 (Option.some.inj e2).symm)⟩
  ·refine ⟨hg.os.trans h.t.g.os, hg.tape.trans h.t.g.tape, hg.output.trans h.t.g.output, Nat.le_trans h.t.g.size hg.size, fun k hk hne => ?_⟩
   exact (hg.block k (Nat.lt_of_lt_of_le hk h.t.g.size) (fun e => by injection e with e; omega)).trans (h.t.g.block k hk hne)
  ·refine h.t.l.trans (Loc.same ?_) h.size
   exact World.cell?_of_block (hg.block V.b hlt (fun e => ho.1 (Option.some.inj e)))
theorem Mw.row (h : Mw w0 V X f H vH w) : vH.ownBlock = none ∨ ∃ g cur, vH.ownBlock = some g ∧ w0.heap.size ≤ g ∧ Off w V g ∧ w.heap[g]? = some (.cells cur 52 (0, 0)) := by
 rcases h.own.2 with ⟨h1, _⟩ | ⟨g, cap, cur, h1, hb, hg, _⟩
 ·exact .inl (by rw [h1]; rfl)
 ·have e : vH.ownBlock = some g := by rw [h1]; rfl
  exact .inr ⟨g, cur, e, hb, h.off g e, hg⟩
/-- an element is appended -/
theorem Mw.app (h : Mw w0 V X f H vH w) (hV : V.b < w0.heap.size) (ho : OwnH w' w0.heap.size v' H') (hg : w.grownBy w' vH.ownBlock) (hl : v'.ownBlock = vH.ownBlock ∨ v'.ownBlock = some w.heap.size) : Mw w0 V X f H' v' w' := by
 obtain ⟨h1, h2⟩ := h.turn h.row hV hg
 refine ⟨h1, ho, fun b e => ?_⟩
 rcases hl with hl | hl
 ·exact h2 b (h.off b (by rw [← hl]; exact e))
 ·rw [hl] at e
  injection e with e
  exact h2 b (Off.new h.t.v (by omega) (by omega))
/-- another list, in new memory -/
theorem Mw.newH (h : Mw w0 V X f H vH w) (hb : Below w.heap.size w w') (ho : OwnH w' w.heap.size v' H') : Mw w0 V X f H' v' w' := by
 refine ⟨h.t.below hb, own_base ho h.size, fun b e => ?_⟩
 exact (Off.new h.t.v (by omega) (ho.lt b e).1).below h.t.v.lt hb
/-- an element is stored in place -/
theorem Mw.put {b n c m : Nat} (h : Mw w0 V X f H (.slice (some ⟨b, 0, none⟩) n c) w) (hvb : V.b < w0.heap.size) (hm : m < H.length) (y : Hd) :
  Mw w0 V X f (H.set m y) (.slice (some ⟨b, 0, none⟩) n c) (w.setCells b (m * 162) (hV y)) := by
 have ho := h.own.put hm y
 have hg : w.grownBy (w.setCells b (m * 162) (hV y)) (some b) := grown_setCells _ _ _ _
 obtain ⟨h1, h2⟩ := h.turn h.row hvb hg
 exact ⟨h1, ho, fun g e => h2 g (h.off g e)⟩
end
end Vl
end Go.Proofs.YtonhedefjmkpcaaGreatDoor
/- vol: one call on the volume (the space turns, too) whose answer goes into a new variable, in whatever order. -/
namespace Go.Proofs.YtonhedefjmkpcaaGreatDoor
set_option maxRecDepth 20000
namespace Vl
open Go.RowKit Dk Gm Eqb Rm Vm Di

/-- what holds at each moment: is the call done, the variable there, and set? -/
structure Wr (base : World) (V : Pl) (n : Nat) (X : Dst) (M : Tab) (X' : Dst) (M' : Tab) (A B Z : Int) (k : Nat) (f f' : Nat → Int) (T : TypeId) (old new : Array Value) (bc ba bs : Bool) (u : Value) (w' : World) : Prop where
 g : base.grownBy w' (some V.b)
 l : Loc base V w'
 p0 : bc = false → HasVol w' V n X M A B Z k f
 p1 : bc = true → HasVol w' V n X' M' A B Z k f'
 al : ba = true → ∃ bk, u = .pointer (some ⟨bk, 0, none⟩) ∧ base.heap.size ≤ bk ∧ Off w' V bk ∧ w'.heap[bk]? = some (.cells (if bs then new else old) T (0, 0))
 or' : bs = true → bc = true ∧ ba = true
section
variable {base : World} {V : Pl} {n : Nat} {X X' : Dst} {M M' : Tab} {A B Z : Int} {k : Nat} {f f' : Nat → Int} {T : TypeId} {old new : Array Value} {bc ba bs : Bool} {u : Value} {w' w'' : World}
theorem Wr.start (h : HasVol base V n X M A B Z k f) : Wr base V n X M X' M' A B Z k f f' T old new false false false u { base with drawn := base.drawn + 1 } :=
 ⟨⟨rfl, rfl, rfl, Nat.le_refl _, fun _ _ _ => rfl⟩, fun _ _ _ k c e => .inr ⟨k, c, e⟩, fun _ => h.below ⟨rfl, rfl, rfl, Nat.le_refl _, fun _ _ => rfl⟩, (fun e => by cases e), (fun e => by cases e), (fun e => by cases e)⟩
theorem Wr.call (h : Wr base V n X M X' M' A B Z k f f' T old new bc ba bs u w') (hc : bc = false) (ht : Tv w' V n X' M' A B Z k f' w'') : Wr base V n X M X' M' A B Z k f f' T old new true ba bs u w'' := by
 have hbs : bs = false := by
  cases e : bs with
  | false => rfl
  | true => exact absurd (h.or' e).1 (by rw [hc]; decide)
 subst hbs
 refine ⟨Dk.only_trans h.g ht.g, h.l.trans ht.l h.g.size, (fun e => by cases e), fun _ => ht.v, fun e => ?_, (fun e => by cases e)⟩
 obtain ⟨bk, e1, h1, h2, h3⟩ := h.al e
 have hlt := (Array.getElem?_eq_some_iff.1 h3).1
 exact ⟨bk, e1, h1, h2.loc hlt ht.l, (ht.g.block bk hlt (by simpa using h2.1.symm)).trans h3⟩
theorem Wr.alloc (h : Wr base V n X M X' M' A B Z k f f' T old new bc ba bs u w') (ha : ba = false) (hk : 0 < k) : Wr base V n X M X' M' A B Z k f f' T old new bc true bs (.pointer (some ⟨w'.heap.size, 0, none⟩)) (w'.alloc (.cells old T)) := by
 have hbs : bs = false := by
  cases e : bs with
  | false => rfl
  | true => exact absurd (h.or' e).2 (by rw [ha]; decide)
 subst hbs
 have hb : Below w'.heap.size w' (w'.alloc (.cells old T)) := (Below.refl _ _).alloc (Nat.le_refl _) _
 have hv : V.b < w'.heap.size ∧ Off w' V w'.heap.size := by
  cases e : bc with
  | false => exact ⟨(h.p0 e).lt, Off.new (h.p0 e) hk (Nat.le_refl _)⟩
  | true => exact ⟨(h.p1 e).lt, Off.new (h.p1 e) hk (Nat.le_refl _)⟩
 refine ⟨Dk.only_trans h.g (Dk.only_below hb), h.l.trans (Loc.below hb hv.1) h.g.size, fun e => (h.p0 e).below hb, fun e => (h.p1 e).below hb, fun _ => ⟨w'.heap.size, rfl, h.g.size, ?_, heap_alloc_new _ _⟩, (fun e => by cases e)⟩
 refine ⟨hv.2.1, fun q o s k c e => hv.2.2 q o s k c ?_⟩
 rw [← e]
 exact (hb.cell hv.1).symm
theorem Wr.store {bk : Nat} (h : Wr base V n X M X' M' A B Z k f f' T old new true true false (.pointer (some ⟨bk, 0, none⟩)) w') (hk : 0 < k) (t1 : T ≠ 63) (t2 : T ≠ 204)
  (hM : M'.k = 0 ∨ ((∃ s, Rm.rightB s M'.gen M'.k M'.F M'.T = true) ∧ ∀ (i : Nat) (z : Int), old[i]? = some (.int .i64 z) → z < 8)) : Wr base V n X M X' M' A B Z k f f' T old new true true true (.pointer (some ⟨bk, 0, none⟩)) (w'.setRow bk new) := by
 obtain ⟨bk', e1, h1, h2, h3⟩ := h.al rfl
 injection e1 with e1
 injection e1 with e1
 injection e1 with e1
 subst e1
 obtain ⟨hf1, hf2⟩ := hasVol_only (h.p1 rfl) hk h2 h3 t1 t2 hM (grown_row new)
 exact ⟨grown_only h.g h1 (grown_row _), h.l.trans (Loc.same (World.cell?_of_block (setRow_other _ _ _ _ h2.1))) h.g.size, (fun e => by cases e), fun _ => hf1, fun _ => ⟨bk, rfl, h1, hf2, setRow_heap _ _ _ _ _ _ h3⟩, fun _ => ⟨rfl, rfl⟩⟩
theorem Wr.row {bk : Nat} (h : Wr base V n X M X' M' A B Z k f f' T old new bc ba bs (.pointer (some ⟨bk, 0, none⟩)) w') (ha : ba = true) (hs : bs = false) : w'.heap[bk]? = some (.cells old T (0, 0)) := by
 obtain ⟨bk', e1, h1, h2, h3⟩ := h.al ha
 injection e1 with e1
 injection e1 with e1
 injection e1 with e1
 subst e1
 rw [hs] at h3
 exact h3
end
end Vl
end Go.Proofs.YtonhedefjmkpcaaGreatDoor
