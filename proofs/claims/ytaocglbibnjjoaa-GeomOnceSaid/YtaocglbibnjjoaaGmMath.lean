/- geom: the chapter as functions of numbers. -/
import Derived.Test.YtaocglbibnjjoaaRows
import Derived.WalkKit
import Derived.WalkSmall
import Derived.Handy
import Derived.Lib.Hide
import Derived.Laws.Small
import Derived.Deep.MidRow
import Derived.BigQuiet
import Derived.Deep.QuietTactic
namespace Go.Proofs.Ytaocglbibnjjoaa
set_option maxRecDepth 20000
namespace Gm
open Go.RowKit

/-- a layout: Sectors, Half, Root, Log, Region, Size -/
structure Gg where
  S : Int
  H : Int
  R : Int
  L : Int
  J : Int
  Z : Int
def eqG (g h : Gg) : Bool := (g.S == h.S) && ((g.H == h.H) && ((g.R == h.R) && ((g.L == h.L) && ((g.J == h.J) && (g.Z == h.Z)))))
theorem eqG_iff {g h : Gg} : eqG g h = true ↔ g = h := by
  obtain ⟨a, b, c, d, e, f⟩ := g
  obtain ⟨a', b', c', d', e', f'⟩ := h
  simp [eqG]
theorem eqG_same (g : Gg) : eqG g g = true := eqG_iff.2 rfl
theorem eqG_no {g h : Gg} (hn : g ≠ h) : eqG g h = false := by
  cases h1 : eqG g h with
  | false => rfl
  | true => exact absurd (eqG_iff.1 h1) hn
def i64 (z : Int) : Prop := -9223372036854775808 ≤ z ∧ z ≤ 9223372036854775807
def inQ (q : Int) : Prop := 4 ≤ q ∧ q ≤ 900
instance (q : Int) : Decidable (inQ q) := by unfold inQ; infer_instance
def zG : Gg := ⟨0, 0, 0, 0, 0, 0⟩
/-- the layout for q, and the error -/
def lay (q : Int) : Gg := ⟨4 * q + 316, 2 * q + 148, 2, 4, 28, 2 * q + 120⟩
def geo (q : Int) : Gg := if inQ q then lay q else zG
def er (q : Int) : Int := if inQ q then 0 else 1
theorem geo_in {q : Int} (h : inQ q) : geo q = lay q := if_pos h
theorem geo_out {q : Int} (h : ¬ inQ q) : geo q = zG := if_neg h
theorem er_in {q : Int} (h : inQ q) : er q = 0 := if_pos h
theorem er_out {q : Int} (h : ¬ inQ q) : er q = 1 := if_neg h
theorem lay_inj {p q : Int} (h : lay p = lay q) : p = q := by
  have := congrArg Gg.S h
  simp only [lay] at this
  omega
theorem lay_ne {p : Int} (h : inQ p) : lay p ≠ zG := fun e => by
  have := congrArg Gg.S e
  simp only [lay, zG] at this
  unfold inQ at h
  omega

/-- which quota's layout has n sectors; 0: none's -/
def fsq (n : Int) : Int := if (n - 316) % 4 = 0 ∧ inQ ((n - 316) / 4) then (n - 316) / 4 else 0
theorem fsq_of {q : Int} (h : inQ q) : fsq (4 * q + 316) = q := by
  have e : (4 * q + 316 - 316) / 4 = q := by omega
  unfold fsq
  rw [if_pos ⟨by omega, by rw [e]; exact h⟩, e]
theorem fsq_no {n : Int} (h : ∀ q, inQ q → 4 * q + 316 ≠ n) : fsq n = 0 := by
  unfold fsq
  split
  · rename_i hq
    exact absurd (show 4 * ((n - 316) / 4) + 316 = n by omega) (h _ hq.2)
  · rfl
theorem fsq_cases (n : Int) : (∃ q, inQ q ∧ n = 4 * q + 316 ∧ fsq n = q) ∨ (fsq n = 0 ∧ ∀ q, inQ q → 4 * q + 316 ≠ n) := by
  by_cases h : ∃ q, inQ q ∧ n = 4 * q + 316
  · obtain ⟨q, hq, rfl⟩ := h
    exact .inl ⟨q, hq, rfl, fsq_of hq⟩
  · have h' : ∀ q, inQ q → 4 * q + 316 ≠ n := fun q hq e => h ⟨q, hq, e.symm⟩
    exact .inr ⟨fsq_no h', h'⟩

/-- the quota whose layout g is; 0: none's -/
def qn (g : Gg) : Int := if eqG (lay (fsq g.S)) g = true ∧ inQ (fsq g.S) then fsq g.S else 0
theorem qn_of {q : Int} (h : inQ q) : qn (lay q) = q := by
  have e : fsq (lay q).S = q := fsq_of h
  unfold qn
  rw [e, if_pos ⟨eqG_same _, h⟩]
theorem qn_no {g : Gg} (h : ∀ q, inQ q → lay q ≠ g) : qn g = 0 := by
  unfold qn
  split
  · rename_i hq
    exact absurd (eqG_iff.1 hq.1) (h _ hq.2)
  · rfl
theorem qn_cases (g : Gg) : (∃ q, inQ q ∧ g = lay q ∧ qn g = q) ∨ (qn g = 0 ∧ ∀ q, inQ q → lay q ≠ g) := by
  by_cases h : ∃ q, inQ q ∧ lay q = g
  · obtain ⟨q, hq, rfl⟩ := h
    exact .inl ⟨q, hq, rfl, qn_of hq⟩
  · have h' : ∀ q, inQ q → lay q ≠ g := fun q hq e => h ⟨q, hq, e⟩
    exact .inr ⟨qn_no h', h'⟩

/-- what stands in a sector: kind, half, number -/
structure Wh where
  k : Int
  h : Int
  i : Int
def zW : Wh := ⟨0, 0, 0⟩
def inHalf (h i : Int) : Wh := if i < 2 then ⟨1, h, i⟩ else if i < 4 then ⟨2, h, i - 2⟩ else if i < 28 then ⟨3, h, i - 4⟩ else ⟨4, h, i - 28⟩
def wha (g : Gg) (x : Int) : Wh :=
  if qn g = 0 ∨ x < 0 ∨ g.S ≤ x then zW else if 2 * g.H ≤ x then ⟨5, 0, x - 2 * g.H⟩ else if x < g.H then inHalf 0 x else inHalf 1 (x - g.H)
theorem wha_zero {g : Gg} {x : Int} (h : qn g = 0 ∨ x < 0 ∨ g.S ≤ x) : wha g x = zW := if_pos h
theorem wha_spare {q x : Int} (hq : inQ q) (h1 : 4 * q + 296 ≤ x) (h2 : x < 4 * q + 316) : wha (lay q) x = ⟨5, 0, x - (4 * q + 296)⟩ := by
  have e : qn (lay q) = q := qn_of hq
  unfold inQ at hq
  unfold wha
  rw [if_neg (by rw [e]; simp only [lay]; omega), if_pos (by simp only [lay]; omega)]
  simp only [lay]
  congr 1
  omega
theorem wha_half {q h i : Int} (hq : inQ q) (hh : h = 0 ∨ h = 1) (h0 : 0 ≤ i) (h1 : i < 2 * q + 148) : wha (lay q) (h * (2 * q + 148) + i) = inHalf h i := by
  have e : qn (lay q) = q := qn_of hq
  unfold inQ at hq
  unfold wha
  rcases hh with rfl | rfl
  · rw [if_neg (by rw [e]; simp only [lay]; omega), if_neg (by simp only [lay]; omega), if_pos (by simp only [lay]; omega)]
    congr 1
    omega
  · rw [if_neg (by rw [e]; simp only [lay]; omega), if_neg (by simp only [lay]; omega), if_neg (by simp only [lay]; omega)]
    congr 1
    simp only [lay]
    omega
theorem ih1 {h i : Int} (h1 : i < 2) : inHalf h i = ⟨1, h, i⟩ := if_pos h1
theorem ih2 {h i : Int} (h1 : 2 ≤ i) (h2 : i < 4) : inHalf h i = ⟨2, h, i - 2⟩ := by unfold inHalf; rw [if_neg (by omega), if_pos h2]
theorem ih3 {h i : Int} (h1 : 4 ≤ i) (h2 : i < 28) : inHalf h i = ⟨3, h, i - 4⟩ := by unfold inHalf; rw [if_neg (by omega), if_neg (by omega), if_pos h2]
theorem ih4 {h i : Int} (h1 : 28 ≤ i) : inHalf h i = ⟨4, h, i - 28⟩ := by unfold inHalf; rw [if_neg (by omega), if_neg (by omega), if_neg (by omega)]
/-- a sector of a layout: spare, or of a half -/
theorem sect {q x : Int} (_hq : inQ q) (h0 : 0 ≤ x) (_h1 : x < 4 * q + 316) : 4 * q + 296 ≤ x ∨ ∃ h i, (h = 0 ∨ h = 1) ∧ 0 ≤ i ∧ i < 2 * q + 148 ∧ x = h * (2 * q + 148) + i := by
  by_cases h : 4 * q + 296 ≤ x
  · exact .inl h
  · by_cases h2 : x < 2 * q + 148
    · exact .inr ⟨0, x, .inl rfl, h0, h2, by omega⟩
    · exact .inr ⟨1, x - (2 * q + 148), .inr rfl, by omega, by omega, by omega⟩

/-- where the i-th thing of a kind stands -/
def off (k : Int) : Int := if k = 2 then 2 else if k = 3 then 4 else 28
def cnt (q k : Int) : Int := if k = 2 then 2 else if k = 3 then 24 else 2 * q + 120
def atB (q k h i : Int) : Prop := (h = 0 ∨ h = 1) ∧ 0 ≤ i ∧ i < cnt q k
instance (q k h i : Int) : Decidable (atB q k h i) := by unfold atB; infer_instance
def atI (q k h i : Int) : Int := h * (2 * q + 148) + (off k + i)
theorem at_range {q k h i : Int} (hq : inQ q) (hk : k = 2 ∨ k = 3 ∨ k = 4) (hb : atB q k h i) : 0 ≤ atI q k h i ∧ atI q k h i < 4 * q + 316 := by
  obtain ⟨hh, h0, h1⟩ := hb
  unfold inQ at hq
  unfold atI off
  unfold cnt at h1
  rcases hk with rfl | rfl | rfl <;> rcases hh with rfl | rfl <;> simp at h1 ⊢ <;> omega
/-- what stands at a sector is that thing just where it is told to stand -/
theorem wha_iff {q k h i x : Int} (hq : inQ q) (hk : k = 2 ∨ k = 3 ∨ k = 4) (h0 : 0 ≤ x) (h1 : x < 4 * q + 316) : wha (lay q) x = ⟨k, h, i⟩ ↔ atB q k h i ∧ x = atI q k h i := by
  constructor
  · intro e
    rcases sect hq h0 h1 with hs | ⟨h', i', hh, hi0, hi1, rfl⟩
    · rw [wha_spare hq hs h1, Wh.mk.injEq] at e
      omega
    · rw [wha_half hq hh hi0 hi1] at e
      unfold atB atI off cnt
      by_cases c1 : i' < 2
      · rw [ih1 c1, Wh.mk.injEq] at e
        omega
      by_cases c2 : i' < 4
      · rw [ih2 (by omega) c2, Wh.mk.injEq] at e
        obtain ⟨rfl, rfl, rfl⟩ := e
        refine ⟨⟨hh, by omega, by simp; omega⟩, ?_⟩
        simp
        omega
      by_cases c3 : i' < 28
      · rw [ih3 (by omega) c3, Wh.mk.injEq] at e
        obtain ⟨rfl, rfl, rfl⟩ := e
        refine ⟨⟨hh, by omega, by simp; omega⟩, ?_⟩
        simp
        omega
      · rw [ih4 (by omega), Wh.mk.injEq] at e
        obtain ⟨rfl, rfl, rfl⟩ := e
        refine ⟨⟨hh, by omega, by simp; omega⟩, ?_⟩
        simp
        omega
  · rintro ⟨⟨hh, hi0, hi1⟩, rfl⟩
    unfold cnt at hi1
    unfold inQ at hq
    unfold atI off
    rcases hk with rfl | rfl | rfl
    · simp at hi1 ⊢
      rw [wha_half hq hh (by omega) (by omega), ih2 (by omega) (by omega)]
      congr 1
      omega
    · simp at hi1 ⊢
      rw [wha_half hq hh (by omega) (by omega), ih3 (by omega) (by omega)]
      congr 1
      omega
    · simp at hi1 ⊢
      rw [wha_half hq hh (by omega) (by omega), ih4 (by omega)]
      congr 1
      omega

/-- the document's place of a thing: its sector, the error -/
def pl (g : Gg) (k h i : Int) : Int := if qn g = 0 then 0 else if atB (qn g) k h i then atI (qn g) k h i else 0
def plE (g : Gg) (k h i : Int) : Int := if qn g = 0 then 1 else if atB (qn g) k h i then 0 else 1
theorem pl_none {g : Gg} (hg : qn g = 0) (k h i : Int) : pl g k h i = 0 ∧ plE g k h i = 1 := ⟨if_pos hg, if_pos hg⟩
theorem pl_out {q : Int} (hq : inQ q) {k h i : Int} (hb : ¬ atB q k h i) : pl (lay q) k h i = 0 ∧ plE (lay q) k h i = 1 := by
  unfold pl plE
  rw [qn_of hq]
  have : q ≠ 0 := by unfold inQ at hq; omega
  rw [if_neg this, if_neg this, if_neg hb, if_neg hb]
  exact ⟨rfl, rfl⟩
theorem pl_in {q : Int} (hq : inQ q) {k h i : Int} (hb : atB q k h i) : pl (lay q) k h i = atI q k h i ∧ plE (lay q) k h i = 0 := by
  unfold pl plE
  rw [qn_of hq]
  have : q ≠ 0 := by unfold inQ at hq; omega
  rw [if_neg this, if_neg this, if_pos hb, if_pos hb]
  exact ⟨rfl, rfl⟩
end Gm
end Go.Proofs.Ytaocglbibnjjoaa
