/- ptr: the reference's Take (made by tools/gen_preft.py). -/
import Derived.Test.YtllejfnmbpjhaaaDoorPtTake
import Derived.Test.YtllejfnmbpjhaaaDoorPtRefPut
namespace Go.Proofs.YtllejfnmbpjhaaaDoor
set_option maxRecDepth 20000
namespace Pt
open Go.RowKit Dk Eqb Byt

theorem pV_congr {p q : Pn} (h1 : p.A = q.A) (h2 : p.B = q.B) (h3 : ∀ i, i < 32 → p.S i = q.S i) : pV p = pV q := by
  unfold pV
  rw [h1, h2]
  congr 2
  exact List.map_congr_left fun i hi => by rw [h3 i (by simpa using hi)]
def SS (f : Nat → Int) (a j i : Nat) : Int := if i < j then f (a + i) else 0
theorem SS_zero (f : Nat → Int) (a : Nat) : SS f a 0 = zS := by funext i; unfold SS zS; rw [if_neg (by omega)]
theorem pV_set (A B : Int) (f : Nat → Int) (a : Nat) {j : Nat} (hj : j < 32) : (pV ⟨A, B, SS f a j⟩).toArray.setIfInBounds (2 + j) (.int .u8 (f (a + j))) = (pV ⟨A, B, SS f a (j + 1)⟩).toArray := by
  apply Array.ext_getElem?
  intro i
  rw [Array.getElem?_setIfInBounds]
  by_cases e : 2 + j = i
  · subst e
    rw [if_pos rfl, if_pos (by simp [pV_length]; omega)]
    have := pV_sum ⟨A, B, SS f a (j + 1)⟩ hj
    simp only [List.getElem?_toArray]
    rw [this]
    simp [SS]
  · rw [if_neg e]
    simp only [List.getElem?_toArray]
    match i with
    | 0 => rfl
    | 1 => rfl
    | i + 2 =>
      by_cases hi : i < 32
      · have h1 := pV_sum ⟨A, B, SS f a j⟩ hi
        have h2 := pV_sum ⟨A, B, SS f a (j + 1)⟩ hi
        rw [show i + 2 = 2 + i by omega, h1, h2]
        simp only [SS]
        by_cases h : i < j
        · rw [if_pos h, if_pos (by omega)]
        · rw [if_neg h, if_neg (by omega)]
      · rw [List.getElem?_eq_none (by rw [pV_length]; omega), List.getElem?_eq_none (by rw [pV_length]; omega)]
/-- the first j of two numbers -/
def PV (TA TB : Int) (j : Nat) : Array Value := #[.int .i64 (if 0 < j then TA else 0), .int .i64 (if 1 < j then TB else 0)]
attribute [local go_sem] zvP
end Pt
end Go.Proofs.YtllejfnmbpjhaaaDoor
