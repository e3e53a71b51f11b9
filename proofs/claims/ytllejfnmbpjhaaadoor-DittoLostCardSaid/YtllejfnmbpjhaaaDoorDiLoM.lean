/- DittoLost: the numbers, and the calls behind the hits. -/
import Derived.Test.YtllejfnmbpjhaaaDoorDiAgain
namespace Go.Proofs.YtllejfnmbpjhaaaDoor
set_option maxRecDepth 20000
namespace Di
open Go.RowKit Dk Byt Eqb Rm

/-- the disk ahead of the hits, and what the second sector has -/
def lX2 (tw : Bool) (V : Nat → Int) : Dst := if tw then cX2 V else bX2 V
def lX3 (tw : Bool) (V : Nat → Int) : Dst := if tw then cX3 V else bX3 V
def lB (tw : Bool) (V : Nat → Int) : Nat → Int := if tw then V else fun _ => 0
def lC (tw : Bool) : Int := if tw then 25 else -1
theorem lchain (tw : Bool) (V : Nat → Int) : Up (lX2 tw V) ∧ (lX2 tw V).m ≤ 2 ∧ dFl 60 (lX2 tw V) = lX3 tw V ∧ Up (lX3 tw V) ∧ (lX3 tw V).m = 0 ∧ lk (lX3 tw V) 3 = (false, V) ∧ lk (lX3 tw V) 25 = (false, lB tw V) ∧ nw (lX3 tw V) 3 = false ∧ nw (lX3 tw V) 25 = false := by
  cases tw with
  | false =>
    obtain ⟨h1, h2, h3, h4, h5, h6, h7, h8⟩ := chain1 V
    exact ⟨h1, by show (bX2 V).m ≤ 2; omega, rfl, h3, h4, h5, h6, h7, h8⟩
  | true =>
    obtain ⟨h1, h2, h3, h4, h5⟩ := chain2 V
    exact ⟨h1, by show (cX2 V).m ≤ 2; omega, rfl, h3, h4, (h5 3 (.inl rfl)).1, (h5 25 (.inr rfl)).1, (h5 3 (.inl rfl)).2, (h5 25 (.inr rfl)).2⟩
def lX4 (tw : Bool) (V : Nat → Int) (y : Int) : Dst := hX (lX3 tw V) 3 1 5 y
def lX5 (tw : Bool) (V : Nat → Int) (y z : Int) : Dst := hX (lX4 tw V y) 25 1 9 z
theorem lhits (tw : Bool) (V : Nat → Int) (y z : Int) : Up (lX4 tw V y) ∧ (lX4 tw V y).m = 0 ∧ Up (lX5 tw V y z) ∧ (lX5 tw V y z).m = 0 ∧ lk (lX5 tw V y z) 3 = (false, rot V 5 y) ∧ lk (lX5 tw V y z) 25 = (false, rot (lB tw V) 9 z) ∧ nw (lX5 tw V y z) 3 = false ∧ nw (lX5 tw V y z) 25 = false ∧
    ((lX5 tw V y z).S 3).data = rot V 5 y ∧ ((lX5 tw V y z).S 25).data = rot (lB tw V) 9 z := by
  obtain ⟨_, _, _, hu, hm, l3, l25, n3, n25⟩ := lchain tw V
  have k1 : hitsB 1 5 = true := rfl
  have k2 : hitsB 1 9 = true := rfl
  obtain ⟨_, hu4, hk4, _⟩ := hu.hit hm (a := 3) y (by decide) k1
  obtain ⟨_, a2, a3⟩ := hit_lk (y := y) hu hm (.inl rfl) l3 n3 k1
  have hm4 : (lX4 tw V y).m = 0 := hm
  have e1 : hitSec ⟨V, false, false⟩ 1 5 y = ⟨rot V 5 y, false, false⟩ := rfl
  rw [e1] at a2 a3
  obtain ⟨b1, b2⟩ := hk4 25 (by decide) (by decide)
  rw [l25] at b1
  rw [n25] at b2
  have hu4' : Up (lX4 tw V y) := hu4
  obtain ⟨_, hu5, hk5, _⟩ := hu4'.hit hm4 (a := 25) z (by decide) k2
  obtain ⟨_, c2, c3⟩ := hit_lk (X := lX4 tw V y) (y := z) hu4' hm4 (.inr rfl) b1 b2 k2
  have e2 : hitSec ⟨lB tw V, false, false⟩ 1 9 z = ⟨rot (lB tw V) 9 z, false, false⟩ := rfl
  rw [e2] at c2 c3
  obtain ⟨d1, d2⟩ := hk5 3 (by decide) (by decide)
  have f1 : lk (lX5 tw V y z) 3 = (false, rot V 5 y) := d1.trans a2
  have f2 : lk (lX5 tw V y z) 25 = (false, rot (lB tw V) 9 z) := c2
  refine ⟨hu4', hm4, hu5, hm4, f1, f2, d2.trans a3, c3, ?_, ?_⟩
  · rw [lk_zero (show (lX5 tw V y z).m = 0 from hm4)] at f1
    exact congrArg Prod.snd f1
  · rw [lk_zero (show (lX5 tw V y z).m = 0 from hm4)] at f2
    exact congrArg Prod.snd f2
theorem rot_same {V : Nat → Int} (hV : byt V) {p : Int} {y : Int} (_h0 : 0 ≤ p ∧ p < 128) (hy : y = 0) : eqB 128 (rot V p y) V = true := by
  subst hy
  refine eqB_iff.2 fun i hi => ?_
  unfold rot
  split
  · exact xor_zero (hV i hi)
  · rfl
theorem rot_ne {V : Nat → Int} (hV : byt V) {p y : Int} (h0 : 0 ≤ p ∧ p < 128) (hy : 0 ≤ y ∧ y < 256) (h : y ≠ 0) : eqB 128 (rot V p y) V = false := by
  cases e : eqB 128 (rot V p y) V with
  | false => rfl
  | true =>
    have := eqB_iff.1 e p.toNat (by omega)
    unfold rot at this
    rw [if_pos rfl] at this
    exact absurd this (xor_ne (hV _ (by omega)) hy h)
theorem lB_byt {V : Nat → Int} (hV : byt V) (tw : Bool) : byt (lB tw V) := by
  cases tw
  · exact byt_zero
  · exact hV
/-- is it lost? -/
def lBad (tw : Bool) (y z : Int) : Bool := (y != 0) && ((!tw) || (z != 0))
theorem good_of {X : Dst} {V D : Nat → Int} {a : Int} (hl : lk X a = (false, D)) (h : eqB 128 D V = true) : Good X V a := ⟨by rw [hl], fun i hi => by rw [hl]; exact eqB_iff.1 h i hi⟩
theorem bad_of {X : Dst} {V D : Nat → Int} {a : Int} (hl : lk X a = (false, D)) (hn : nw X a = false) (hD : byt D) (h : eqB 32 (Pt.sumD D) (Pt.sumD V) = false) : Bad X V a := ⟨hn, by rw [hl]; exact hD, .inr (by rw [hl, eqB_comm]; exact h)⟩
/-- what is told in the end -/
structure LoOk (w0 : World) (tw : Bool) (V : Nat → Int) (X : Dst) (bad : Bool) (V' : Nat → Int) (h' eG : Int) (X6 : Dst) (s1 s2 s3 eL : Int) (X7 : Dst) : Prop where
  g : LwC w0 X X6 42 (fun g b => #[.pointer (some ⟨g, 0, none⟩), .pointer (some ⟨b, 0, none⟩), .agg (Pt.pV ⟨3, lC tw, Pt.sumD V⟩).toArray]) (.tuple #[.agg (bl V').toArray, .int .i64 h', .int .i64 eG])
  l : LwC w0 X6 X7 43 (fun g b => #[.pointer (some ⟨g, 0, none⟩), .pointer (some ⟨b, 0, none⟩), .agg (Pt.pV ⟨3, lC tw, Pt.sumD V⟩).toArray]) (.tuple #[.agg #[.int .i64 s1, .int .i64 s2, .int .i64 s3, .slice none 0 0], .int .i64 eL])
  lost : bad = true → eG = 2 ∧ eL = 2 ∧ eqB 128 V' (fun _ => 0) = true
  kept : bad = false → eG = 0 ∧ eL = 0 ∧ eqB 128 V' V = true
theorem lost_half {w0 : World} {V : Nat → Int} (hV : byt V) {X : Dst} (hu : Up X) (hm : X.m = 0) (hh : Half X V) : ∃ V' h' eG X6 s1 s2 s3 eL X7, LoOk w0 true V X false V' h' eG X6 s1 s2 s3 eL X7 := by
  obtain ⟨V', h', X5, s, X6, _, _, _, cG, cL, _, _, _, q, _⟩ := again_num (w0 := w0) hV hu hm hh
  exact ⟨V', h', 0, X5, 2, s, s, 0, X6, cG, cL, (fun h => by cases h), fun _ => ⟨rfl, rfl, q⟩⟩
theorem lost_num {w0 : World} {V : Nat → Int} (hV : byt V) (tw : Bool) {y z : Int} (hy : 0 ≤ y ∧ y < 256) (hz : 0 ≤ z ∧ z < 256) (h3 : eqB 128 (rot V 5 y) V = true ∨ eqB 32 (Pt.sumD (rot V 5 y)) (Pt.sumD V) = false)
    (h25 : eqB 128 (rot (lB tw V) 9 z) V = true ∨ eqB 32 (Pt.sumD (rot (lB tw V) 9 z)) (Pt.sumD V) = false) : ∃ V' h' eG X6 s1 s2 s3 eL X7, LoOk w0 tw V (lX5 tw V y z) (lBad tw y z) V' h' eG X6 s1 s2 s3 eL X7 := by
  obtain ⟨_, _, hu, hm, l3, l25, n3, n25, _, _⟩ := lhits tw V y z
  have hc3 : (y = 0 ∧ Good (lX5 tw V y z) V 3) ∨ (y ≠ 0 ∧ Bad (lX5 tw V y z) V 3) := by
    by_cases e : y = 0
    · exact .inl ⟨e, good_of l3 (rot_same hV (by omega) e)⟩
    · exact .inr ⟨e, bad_of l3 n3 (rot_byt hV _ _) (h3.resolve_left (by rw [rot_ne hV (by omega) hy e]; decide))⟩
  cases tw with
  | true =>
    have hc25 : (z = 0 ∧ Good (lX5 true V y z) V 25) ∨ (z ≠ 0 ∧ Bad (lX5 true V y z) V 25) := by
      by_cases e : z = 0
      · exact .inl ⟨e, good_of l25 (rot_same hV (by omega) e)⟩
      · exact .inr ⟨e, bad_of l25 n25 (rot_byt hV _ _) (h25.resolve_left (by show ¬ eqB 128 (rot V 9 z) V = true; rw [rot_ne hV (by omega) hz e]; decide))⟩
    rcases hc3 with ⟨ey, g3⟩ | ⟨ey, g3⟩
    · have eb : lBad true y z = false := by unfold lBad; subst ey; rfl
      rw [eb]
      rcases hc25 with ⟨_, g25⟩ | ⟨_, g25⟩
      · exact lost_half hV hu hm (.inl ⟨g3, g25⟩)
      · exact lost_half hV hu hm (.inr (.inr ⟨g3, g25⟩))
    · rcases hc25 with ⟨ez, g25⟩ | ⟨ez, g25⟩
      · have eb : lBad true y z = false := by unfold lBad; subst ez; simp
        rw [eb]
        exact lost_half hV hu hm (.inr (.inl ⟨g3, g25⟩))
      · have eb : lBad true y z = true := by unfold lBad; simp [ey, ez]
        rw [eb]
        obtain ⟨e1, e2⟩ := get_00 hu g3 g25
        have b3 := tV_byt hu (x := 3) (.inl rfl) g3.v
        have b25 := tV_byt hu (x := 25) (.inr rfl) g25.v
        refine ⟨fun _ => 0, 0, 2, lX5 true V y z, 2, 2, 0, 2, lX5 true V y z, fun g b w h => ?_, fun g b w h => ?_, fun _ => ⟨rfl, rfl, eqB_same _ _⟩, fun h => by cases h⟩
        · have := lget h hu (by omega) ⟨3, 25, Pt.sumD V⟩ b3 b25 (by rw [e1])
          rw [e1] at this
          exact this
        · have := llook h hu (by omega) ⟨3, 25, Pt.sumD V⟩ b3 b25 (by rw [e2])
          rw [e2] at this
          exact this
  | false =>
    have b1 : byt (tV 60 (lX5 false V y z) aM0 (-1)) := by
      have : tV 60 (lX5 false V y z) aM0 (-1) = fun _ => 0 := by
        unfold tV rV
        rw [if_neg (by rw [home_iff hu.f (show Rm.rightB ((60 : Nat) : Int) aM0.gen aM0.k aM0.F aM0.T = true from rt0)]; decide)]
      rw [this]
      exact byt_zero
    rcases hc3 with ⟨ey, g3⟩ | ⟨ey, g3⟩
    · have eb : lBad false y z = false := by unfold lBad; subst ey; rfl
      rw [eb]
      obtain ⟨e1, e2, e3⟩ := get_1 hu g3
      have b3 := tV_byt hu (x := 3) (.inl rfl) (g3.bts hV)
      refine ⟨tV 60 (lX5 false V y z) aM0 3, 0, 0, lX5 false V y z, 1, 0, 0, 0, lX5 false V y z, fun g b w h => ?_, fun g b w h => ?_, (fun h => by cases h), fun _ => ⟨rfl, rfl, eqB_iff.2 e3⟩⟩
      · have := lget h hu (by omega) ⟨3, -1, Pt.sumD V⟩ b3 b1 (by rw [e1])
        rw [e1] at this
        exact this
      · have := llook h hu (by omega) ⟨3, -1, Pt.sumD V⟩ b3 b1 (by rw [e2])
        rw [e2] at this
        exact this
    · have eb : lBad false y z = true := by unfold lBad; simp [ey]
      rw [eb]
      obtain ⟨e1, e2⟩ := get_0 hu g3
      have b3 := tV_byt hu (x := 3) (.inl rfl) g3.v
      refine ⟨fun _ => 0, 0, 2, lX5 false V y z, 1, 1, 0, 2, lX5 false V y z, fun g b w h => ?_, fun g b w h => ?_, fun _ => ⟨rfl, rfl, eqB_same _ _⟩, fun h => by cases h⟩
      · have := lget h hu (by omega) ⟨3, -1, Pt.sumD V⟩ b3 b1 (by rw [e1])
        rw [e1] at this
        exact this
      · have := llook h hu (by omega) ⟨3, -1, Pt.sumD V⟩ b3 b1 (by rw [e2])
        rw [e2] at this
        exact this
theorem lputs {w0 w : World} {g b : Nat} (tw : Bool) {V : Nat → Int} (hV : byt V) (h : LwS w0 g b fX1 w) : Calls Tryd.prog 38 #[.pointer (some ⟨g, 0, none⟩), .pointer (some ⟨b, 0, none⟩), .agg (bl V).toArray, .int .i64 3, .int .i64 (lC tw)] w fun e w' => e = .returned (.tuple #[.agg (Pt.pV ⟨3, lC tw, Pt.sumD V⟩).toArray, .int .i64 0]) ∧ Two w w' g b ∧ LwS w0 g b (lX2 tw V) w' := by
  obtain ⟨_, hup1, hm1, hf1⟩ := fresh_up
  cases tw with
  | false => exact lput1 h hup1 (by omega) (hf1 3 (.inl rfl)).2 V hV
  | true => exact lput h hup1 (by omega) (hf1 3 (.inl rfl)).2 (hf1 25 (.inr rfl)).2 V hV
end Di
end Go.Proofs.YtllejfnmbpjhaaaDoor
