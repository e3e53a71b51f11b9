/- ditto: a disk of 60 sectors with power, and what becomes of two copies on it: the numbers alone. -/
import Derived.Test.YtllejfnmbpjhaaaGreatDoorJDiA
import Derived.Test.YtllejfnmbpjhaaaGreatDoorJRa
import Derived.Test.YtllejfnmbpjhaaaGreatDoorPtSum
namespace Go.Proofs.YtllejfnmbpjhaaaGreatDoor
set_option maxRecDepth 20000
namespace Di
open Go.RowKit Dk Byt Eqb Rm

theorem act_neg {f : Int} (h : f < 0) : actE f false = 0 ∧ actF f false = f ∧ actD f false = false := by
  unfold actE actF actD
  refine ⟨?_, ?_, ?_⟩
  · rw [if_neg (by simp; omega)]
  · simp; omega
  · simp; omega
theorem wr_well {n : Nat} {X : Dst} {a : Int} (hf : formed n X) (hd : X.d = false) (hn : X.f < 0) (ha : 0 ≤ a ∧ a < n) (hw : (X.S a.toNat).noWrite = false) : dWrE n X a = 0 := by
  obtain ⟨e1, _, _⟩ := act_neg hn
  have ho : wrOk n X.m X.C a = true := by
    unfold wrOk hasB
    rw [show formedB n X.m X.C = true from hf, decide_eq_true ha.1, decide_eq_true ha.2]
    rfl
  unfold dWrE wrE
  rw [ho, if_pos rfl, hd, e1, if_pos rfl, hw]
  rfl
theorem fl_well {n : Nat} {X : Dst} (hf : formed n X) (hd : X.d = false) (hn : X.f < 0) : dFlE n X = 0 := by
  unfold dFlE flE
  rw [show formedB n X.m X.C = true from hf, if_pos rfl, hd]
  exact (act_neg hn).1
structure Up (X : Dst) : Prop where
  f : formed 60 X
  d : X.d = false
  n : X.f = -1
def nw (X : Dst) (a : Int) : Bool := (X.S a.toNat).noWrite
theorem Up.ok {X : Dst} (h : Up X) {k : Nat} (hk : X.m + k ≤ 1000) : Ok k X := ⟨by omega, by rw [h.n]; unfold i64; omega⟩
theorem st_nw {S : Nat → Sec} {C : Nat → Wr} {kp : Nat → Bool} (i : Nat) : ∀ m, (stS S C kp m i).noWrite = (S i).noWrite
  | 0 => rfl
  | m + 1 => by
    have ih := st_nw (S := S) (C := C) (kp := kp) i m
    simp only [stS]
    split
    · unfold upd
      split
      · rename_i e
        rw [← e]
        exact ih
      · exact ih
    · exact ih
theorem Up.wr {X : Dst} (h : Up X) {a : Int} (ha : 0 ≤ a ∧ a < 60) (hw : nw X a = false) (D : Nat → Int) :
    dWrE 60 X a = 0 ∧ Up (dWr 60 X a D) ∧ (dWr 60 X a D).m = X.m + 1 ∧ ∀ c, nw (dWr 60 X a D) c = nw X c := by
  have hE : dWrE 60 X a = 0 := wr_well h.f h.d (by rw [h.n]; decide) ⟨ha.1, by have := ha.2; omega⟩ hw
  obtain ⟨h1, _, h3⟩ := dWr_yes (D := D) hE
  refine ⟨hE, ⟨h.f.wr _ _, up_wr (.inl hE), ?_⟩, h1, fun c => by unfold nw; rw [h3]⟩
  show wrF 60 X.m X.C X.f X.d a = -1
  unfold wrF
  rw [h.d, h.n, (act_neg (f := -1) (by decide)).2.1]
  split <;> rfl
theorem Up.fl {X : Dst} (h : Up X) : dFlE 60 X = 0 ∧ Up (dFl 60 X) ∧ (dFl 60 X).m = 0 ∧ ∀ c, nw (dFl 60 X) c = nw X c := by
  have hE : dFlE 60 X = 0 := fl_well h.f h.d (by rw [h.n]; decide)
  obtain ⟨h1, _, h3⟩ := up_fl hE
  refine ⟨hE, ⟨h.f.fl, h3, ?_⟩, ?_, fun c => ?_⟩
  · show flF 60 X.m X.C X.f X.d = -1
    unfold flF
    rw [h.d, h.n, (act_neg (f := -1) (by decide)).2.1]
    split <;> rfl
  · show flM 60 X.m X.C X.f X.d = 0
    unfold flM
    rw [if_pos h1]
  · show (flS 60 X.m X.S X.C X.f X.d c.toNat).noWrite = _
    unfold flS
    rw [if_pos h1]
    exact st_nw _ _
/-- a sector hit -/
def hX (X : Dst) (a k p y : Int) : Dst := ⟨X.m, hitS 60 X.m X.S X.C a k p y, X.C, X.f, X.d⟩
theorem lk_zero {X : Dst} (hm : X.m = 0) (a : Int) : lk X a = ((X.S a.toNat).noRead, (X.S a.toNat).data) := by
  unfold lk
  rw [hm]
  rfl
theorem Up.hit {X : Dst} (h : Up X) (hm : X.m = 0) {a k p : Int} (y : Int) (ha : 0 ≤ a ∧ a < 60) (hk : hitsB k p = true) :
    hitE 60 X.m X.C a k p = 0 ∧ Up (hX X a k p y) ∧ (∀ c : Int, 0 ≤ c → c ≠ a → lk (hX X a k p y) c = lk X c ∧ nw (hX X a k p y) c = nw X c) ∧
      (hX X a k p y).S a.toNat = hitSec (X.S a.toNat) k p y := by
  have ho : hitOk 60 X.m X.C a k p = true := by
    unfold hitOk hasB
    rw [show formedB 60 X.m X.C = true from h.f, hk, decide_eq_true ha.1, decide_eq_true (show a < ((60 : Nat) : Int) by have := ha.2; omega)]
    rfl
  have hS : (hX X a k p y).S = upd X.S a.toNat (hitSec (X.S a.toNat) k p y) := by
    unfold hX hitS
    dsimp only
    rw [if_pos ho]
  refine ⟨by unfold hitE; rw [if_pos ho], ⟨h.f, h.d, h.n⟩, fun c hc hca => ?_, ?_⟩
  · have hne : c.toNat ≠ a.toNat := by omega
    have e : (hX X a k p y).S c.toNat = X.S c.toNat := by rw [hS]; unfold upd; rw [if_neg hne]
    rw [lk_zero (show (hX X a k p y).m = 0 from hm), lk_zero hm]
    unfold nw
    rw [e]
    exact ⟨rfl, rfl⟩
  · rw [hS]; unfold upd; rw [if_pos rfl]

/-- a copy that is good, one that is bad and can be written -/
structure Good (X : Dst) (b : Nat → Int) (a : Int) : Prop where
  r : (lk X a).1 = false
  v : ∀ i, i < 128 → (lk X a).2 i = b i
structure Bad (X : Dst) (b : Nat → Int) (a : Int) : Prop where
  w : nw X a = false
  v : byt (lk X a).2
  r : (lk X a).1 = true ∨ eqB 32 (Pt.sumD b) (Pt.sumD (lk X a).2) = false

theorem sum_same {D E : Nat → Int} (h : ∀ i, i < 128 → D i = E i) : Pt.sumD D = Pt.sumD E := by
  have e : tab 128 D = tab 128 E := List.map_congr_left fun i hi => h i (List.mem_range.1 hi)
  unfold Pt.sumD
  rw [e]
theorem hole3 (c : Int) (q : Nat → Int) : Pt.isHole ⟨3, c, q⟩ = false := by simp [Pt.isHole, Pt.eqP, Pt.hole]
theorem fits3 (c : Int) (q D : Nat → Int) : Pt.fitsB ⟨3, c, q⟩ D = eqB 32 q (Pt.sumD D) := by
  unfold Pt.fitsB
  rw [hole3]
  rfl
theorem right3 (q : Nat → Int) : Pt.rightB ⟨3, 25, q⟩ = true := by simp [Pt.rightB, Pt.secB]
theorem right31 (q : Nat → Int) : Pt.rightB ⟨3, -1, q⟩ = true := by simp [Pt.rightB, Pt.secB]
theorem half60 : halfN 60 = 20 := by decide
theorem rt0 : Rm.rightB 60 0 0 zF zF = true := by decide
theorem hom2 {X : Dst} (h : Up X) (q : Nat → Int) : homB 60 X aM0 ⟨3, 25, q⟩ = true := by
  unfold homB
  rw [show formedB 60 X.m X.C = true from h.f, right3, show Rm.rightB ((60 : Nat) : Int) aM0.gen aM0.k aM0.F aM0.T = true from rt0]
  exact (by decide : (true && (true && (true && (((3 : Int) == -1 || lentB (halfN ((60 : Nat) : Int)) 3) && ((25 : Int) == -1 || lentB (halfN ((60 : Nat) : Int)) 25))))) = true)
theorem hom1 {X : Dst} (h : Up X) (q : Nat → Int) : homB 60 X aM0 ⟨3, -1, q⟩ = true := by
  unfold homB
  rw [show formedB 60 X.m X.C = true from h.f, right31, show Rm.rightB ((60 : Nat) : Int) aM0.gen aM0.k aM0.F aM0.T = true from rt0]
  exact (by decide : (true && (true && (true && (((3 : Int) == -1 || lentB (halfN ((60 : Nat) : Int)) 3) && ((-1 : Int) == -1 || lentB (halfN ((60 : Nat) : Int)) (-1)))))) = true)
theorem at0 (x : Int) : atT aM0.F aM0.T aM0.k x = x := rfl
/-- the sectors of the laws -/
def Sx (x : Int) : Prop := x = 3 ∨ x = 25
theorem Sx.lent {x : Int} (h : Sx x) : lentB (halfN ((60 : Nat) : Int)) x = true := by
  rcases h with rfl | rfl <;> decide
theorem Sx.bd {x : Int} (h : Sx x) : 0 ≤ x ∧ x < 60 := by
  rcases h with rfl | rfl <;> decide
theorem t_lk {X : Dst} (h : Up X) {x : Int} (hx : Sx x) : tE 60 X aM0 x = (if (lk X x).1 then 2 else 0) ∧ tV 60 X aM0 x = if (lk X x).1 then fun _ => 0 else (lk X x).2 := by
  have hr : Rm.rightB ((60 : Nat) : Int) aM0.gen aM0.k aM0.F aM0.T = true := rt0
  have := rE_lk (y := x) (rm_home (M := aM0) h.f hr hx.lent) h.d
  rw [at0] at this
  exact this
theorem Good.t {X : Dst} {b : Nat → Int} {x : Int} (h : Good X b x) (hu : Up X) (hx : Sx x) (c : Int) : tE 60 X aM0 x = 0 ∧ (∀ i, i < 128 → tV 60 X aM0 x i = b i) ∧ gdB 60 X aM0 ⟨3, c, Pt.sumD b⟩ x = true := by
  obtain ⟨e1, e2⟩ := t_lk hu hx
  rw [h.r] at e1 e2
  have hv : ∀ i, i < 128 → tV 60 X aM0 x i = b i := fun i hi => by rw [e2]; exact h.v i hi
  refine ⟨by rw [e1]; rfl, hv, ?_⟩
  unfold gdB
  rw [e1, fits3, sum_same hv, eqB_same]
  rfl
theorem Bad.t {X : Dst} {b : Nat → Int} {x : Int} (h : Bad X b x) (hu : Up X) (hx : Sx x) (c : Int) : gdB 60 X aM0 ⟨3, c, Pt.sumD b⟩ x = false := by
  obtain ⟨e1, e2⟩ := t_lk hu hx
  unfold gdB
  cases hr : (lk X x).1 with
  | true =>
    rw [hr] at e1
    rw [e1]
    rfl
  | false =>
    rw [hr] at e2
    rcases h.r with h | h
    · rw [hr] at h; cases h
    · rw [e2, fits3]
      show (_ && eqB 32 (Pt.sumD b) (Pt.sumD (lk X x).2)) = false
      rw [h, Bool.and_false]
theorem tV_byt {X : Dst} {x : Int} (hu : Up X) (hx : Sx x) (h : byt (lk X x).2) : byt (tV 60 X aM0 x) := by
  rw [(t_lk hu hx).2]
  split
  · exact byt_zero
  · exact h
theorem Good.bts {X : Dst} {b : Nat → Int} {x : Int} (h : Good X b x) (hb : Di.byt b) : Di.byt (lk X x).2 := fun i hi => by rw [h.v i hi]; exact hb i hi
theorem w_up {X : Dst} (hu : Up X) {x : Int} (hx : Sx x) (hw : nw X x = false) (V : Nat → Int) : wRes 60 X aM0 x V = (0, dWr 60 X x V, aM0) := by
  have hr : Rm.rightB ((60 : Nat) : Int) aM0.gen aM0.k aM0.F aM0.T = true := rt0
  have hE := (hu.wr hx.bd hw V).1
  have e : dWrE 60 X (wA aM0 x) = 0 := hE
  rw [w_c1 (rm_home (M := aM0) hu.f hr hx.lent) (by rw [e]; decide), e]
  rfl
/-- behind a write of what b has -/
theorem Good.new {X : Dst} {b V : Nat → Int} {x : Int} (hu : Up X) (hx : Sx x) (hw : nw X x = false) (hV : ∀ i, i < 128 → V i = b i) : Good (dWr 60 X x V) b x := by
  have := lk_same (D := V) (hu.wr hx.bd hw V).1
  exact ⟨by rw [this], fun i hi => by rw [this]; exact hV i hi⟩
theorem Good.old {X : Dst} {b V : Nat → Int} {x y : Int} (h : Good X b y) (hxy : y ≠ x) : Good (dWr 60 X x V) b y := by
  have := lk_other (n := 60) (X := X) (D := V) hxy
  exact ⟨by rw [this]; exact h.r, fun i hi => by rw [this]; exact h.v i hi⟩

/-- two copies of which one is good at least -/
def Half (X : Dst) (b : Nat → Int) : Prop := (Good X b 3 ∧ Good X b 25) ∨ (Bad X b 3 ∧ Good X b 25) ∨ (Good X b 3 ∧ Bad X b 25)
theorem Half.bts {X : Dst} {b : Nat → Int} (h : Half X b) (hu : Up X) (hb : Di.byt b) : Di.byt (tV 60 X aM0 3) ∧ Di.byt (tV 60 X aM0 25) := by
  rcases h with ⟨h1, h2⟩ | ⟨h1, h2⟩ | ⟨h1, h2⟩
  · exact ⟨tV_byt hu (.inl rfl) (h1.bts hb), tV_byt hu (.inr rfl) (h2.bts hb)⟩
  · exact ⟨tV_byt hu (.inl rfl) h1.v, tV_byt hu (.inr rfl) (h2.bts hb)⟩
  · exact ⟨tV_byt hu (.inl rfl) (h1.bts hb), tV_byt hu (.inr rfl) h2.v⟩
structure Got2 (X : Dst) (b : Nat → Int) (R : GR) : Prop where
  e : R.e = 0
  M : R.M = aM0
  V : ∀ i, i < 128 → R.V i = b i
  u : Up R.X
  m : R.X.m ≤ X.m + 1
  g : Good R.X b 3
  h : Half R.X b
theorem get_2 {X : Dst} {b : Nat → Int} (hu : Up X) (h : Half X b) : Got2 X b (gRes 60 X aM0 ⟨3, 25, Pt.sumD b⟩) ∧ (Bad X b 3 → (gRes 60 X aM0 ⟨3, 25, Pt.sumD b⟩).h = 1) := by
  have e1 := hom2 hu (Pt.sumD b)
  unfold gRes
  dsimp only
  rw [if_neg (by rw [e1]; decide), if_neg (by decide), if_neg (by rw [hu.d]; decide)]
  rcases h with ⟨h1, h2⟩ | ⟨h1, h2⟩ | ⟨h1, h2⟩
  · obtain ⟨_, v1, g1⟩ := h1.t hu (.inl rfl) 25
    rw [if_pos g1]
    exact ⟨⟨rfl, rfl, v1, hu, by show X.m ≤ _; omega, h1, .inl ⟨h1, h2⟩⟩, fun hb => by rw [hb.t hu (.inl rfl) 25] at g1; cases g1⟩
  · have g1 := h1.t hu (.inl rfl) 25
    obtain ⟨_, v2, g2⟩ := h2.t hu (.inr rfl) 25
    rw [if_neg (by rw [g1]; decide), if_neg (by decide), if_pos g2, w_up hu (.inl rfl) h1.w]
    obtain ⟨_, u1, m1, _⟩ := hu.wr (a := 3) (by decide) h1.w (tV 60 X aM0 25)
    have n1 := Good.new hu (.inl rfl) h1.w v2
    exact ⟨⟨rfl, rfl, v2, u1, by show (dWr 60 X 3 (tV 60 X aM0 25)).m ≤ _; rw [m1]; omega, n1, .inl ⟨n1, h2.old (by decide)⟩⟩, fun _ => rfl⟩
  · obtain ⟨_, v1, g1⟩ := h1.t hu (.inl rfl) 25
    rw [if_pos g1]
    exact ⟨⟨rfl, rfl, v1, hu, by show X.m ≤ _; omega, h1, .inr (.inr ⟨h1, h2⟩)⟩, fun hb => by rw [hb.t hu (.inl rfl) 25] at g1; cases g1⟩
structure Saw2 (X : Dst) (b : Nat → Int) (R : LR) : Prop where
  e : R.e = 0
  M : R.M = aM0
  s : R.s = 2
  h : R.b = R.h
  u : Up R.X
  m : R.X.m ≤ X.m + 1
  g : Good R.X b 3
  g' : Good R.X b 25
theorem look_2 {X : Dst} {b : Nat → Int} (hu : Up X) (h : Half X b) : Saw2 X b (lRes 60 X aM0 ⟨3, 25, Pt.sumD b⟩) := by
  have e1 := hom2 hu (Pt.sumD b)
  unfold lRes
  dsimp only
  rw [if_neg (by rw [e1]; decide), if_neg (by decide), if_neg (by rw [hu.d]; decide), if_neg (by decide)]
  rcases h with ⟨h1, h2⟩ | ⟨h1, h2⟩ | ⟨h1, h2⟩
  · rw [if_pos (h1.t hu (.inl rfl) 25).2.2, if_pos (h2.t hu (.inr rfl) 25).2.2]
    exact ⟨rfl, rfl, rfl, rfl, hu, by show X.m ≤ _; omega, h1, h2⟩
  · obtain ⟨_, v2, g2⟩ := h2.t hu (.inr rfl) 25
    rw [if_neg (by rw [h1.t hu (.inl rfl) 25]; decide), if_pos g2, w_up hu (.inl rfl) h1.w]
    obtain ⟨_, u1, m1, _⟩ := hu.wr (a := 3) (by decide) h1.w (tV 60 X aM0 25)
    exact ⟨rfl, rfl, rfl, rfl, u1, by show (dWr 60 X 3 (tV 60 X aM0 25)).m ≤ _; rw [m1]; omega, Good.new hu (.inl rfl) h1.w v2, h2.old (by decide)⟩
  · obtain ⟨_, v1, g1⟩ := h1.t hu (.inl rfl) 25
    rw [if_pos g1, if_neg (by rw [h2.t hu (.inr rfl) 25]; decide), w_up hu (.inr rfl) h2.w]
    obtain ⟨_, u1, m1, _⟩ := hu.wr (a := 25) (by decide) h2.w (tV 60 X aM0 3)
    exact ⟨rfl, rfl, rfl, rfl, u1, by show (dWr 60 X 25 (tV 60 X aM0 3)).m ≤ _; rw [m1]; omega, h1.old (by decide), Good.new hu (.inr rfl) h2.w v1⟩
/-- both copies are bad -/
theorem get_00 {X : Dst} {b : Nat → Int} (hu : Up X) (h1 : Bad X b 3) (h2 : Bad X b 25) : gRes 60 X aM0 ⟨3, 25, Pt.sumD b⟩ = ⟨fun _ => 0, 0, 2, X, aM0⟩ ∧ lRes 60 X aM0 ⟨3, 25, Pt.sumD b⟩ = ⟨2, 2, 0, 2, X, aM0⟩ := by
  have e1 := hom2 hu (Pt.sumD b)
  have g1 := h1.t hu (.inl rfl) 25
  have g2 := h2.t hu (.inr rfl) 25
  unfold gRes lRes
  dsimp only
  rw [g1, g2, e1, hu.d]
  exact ⟨rfl, rfl⟩
/-- a single copy -/
theorem get_1 {X : Dst} {b : Nat → Int} (hu : Up X) (h : Good X b 3) : gRes 60 X aM0 ⟨3, -1, Pt.sumD b⟩ = ⟨tV 60 X aM0 3, 0, 0, X, aM0⟩ ∧ lRes 60 X aM0 ⟨3, -1, Pt.sumD b⟩ = ⟨1, 0, 0, 0, X, aM0⟩ ∧ ∀ i, i < 128 → tV 60 X aM0 3 i = b i := by
  have e1 := hom1 hu (Pt.sumD b)
  obtain ⟨_, v1, g1⟩ := h.t hu (.inl rfl) (-1)
  unfold gRes lRes
  dsimp only
  rw [g1, e1, hu.d]
  exact ⟨rfl, rfl, v1⟩
theorem get_0 {X : Dst} {b : Nat → Int} (hu : Up X) (h : Bad X b 3) : gRes 60 X aM0 ⟨3, -1, Pt.sumD b⟩ = ⟨fun _ => 0, 0, 2, X, aM0⟩ ∧ lRes 60 X aM0 ⟨3, -1, Pt.sumD b⟩ = ⟨1, 1, 0, 2, X, aM0⟩ := by
  have e1 := hom1 hu (Pt.sumD b)
  have g1 := h.t hu (.inl rfl) (-1)
  unfold gRes lRes
  dsimp only
  rw [g1, e1, hu.d]
  exact ⟨rfl, rfl⟩

/-- a new disk of 60 sectors with a table -/
def fX0 : Dst := ⟨0, fun _ => sec0, fun _ => wr0, -1, false⟩
def fX1 : Dst := fmX 60 fX0
theorem fX0_up : Up fX0 := ⟨by show formedB 60 0 _ = true; rfl, rfl, rfl⟩
theorem fresh_up : fmE 60 fX0 = 0 ∧ Up fX1 ∧ fX1.m = 0 ∧ (∀ x, Sx x → lk fX1 x = (false, fun _ => 0) ∧ nw fX1 x = false) := by
  have hh : hfN 60 fX0 = 20 := by rw [fX0_up.f.hf]; exact half60
  obtain ⟨e0, u1, m1, w1⟩ := fX0_up.wr (a := ((0 : Nat) : Int) * 20) (by decide) rfl (tab0 60)
  obtain ⟨e1, u2, m2, w2⟩ := u1.wr (a := ((1 : Nat) : Int) * 20) (by decide) (by rw [w1]; rfl) (tab0 60)
  obtain ⟨e2, u3, m3, w3⟩ := u2.fl
  have hc : ∀ c', c' < 2 → fmC 60 (hfN 60 fX0) (tab0 60) fX0 c' = 0 := fun c' h => by
    rw [hh]
    match c', h with
    | 0, _ => exact e0
    | 1, _ => exact e1
  obtain ⟨h1, h2⟩ := (fm_cases 60 fX0).2.2 (by rw [hh]; decide) hc
  rw [hh] at h1 h2
  have hX : fX1 = dFl 60 (dWr 60 (dWr 60 fX0 (((0 : Nat) : Int) * 20) (tab0 60)) (((1 : Nat) : Int) * 20) (tab0 60)) := h2
  refine ⟨by rw [h1]; exact e2, by rw [hX]; exact u3, by rw [hX]; exact m3, fun x hx => ⟨?_, ?_⟩⟩
  · rw [hX, lk_flush e2 u2.f hx.bd.1, lk_other (by rcases hx with rfl | rfl <;> decide), lk_other (by rcases hx with rfl | rfl <;> decide)]
    rfl
  · rw [hX, w3, w2, w1]
    rfl
end Di
end Go.Proofs.YtllejfnmbpjhaaaGreatDoor
