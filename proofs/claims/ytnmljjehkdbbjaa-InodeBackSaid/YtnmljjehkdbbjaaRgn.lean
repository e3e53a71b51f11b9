/- drawn regions: which values are known once their operations are done; which operation comes ahead of which. -/
import Derived.Test.YtnmljjehkdbbjaaQTail2
namespace Go.Proofs.Ytnmljjehkdbbjaa
set_option maxRecDepth 20000
open Go.RowKit

/-- slots and the values that they have, once an operation is done -/
def Fa (L : Nat → Bool) : List (Nat × Value × Value) → Prop
  | [] => True
  | (i, u, v) :: r => (L i = true → u = v) ∧ Fa L r
def fset (k : Nat) : List (Nat × Value × Value) → List (Nat × Value × Value)
  | [] => []
  | (i, u, v) :: r => (i, bif i == k then v else u, v) :: fset k r
theorem Fa.none : ∀ (l : List (Nat × Value × Value)), Fa (fun _ => false) l
  | [] => trivial
  | _ :: r => ⟨fun e => (by cases e), Fa.none r⟩
theorem Fa.set {L : Nat → Bool} (k : Nat) : ∀ {l : List (Nat × Value × Value)}, Fa L l → Fa (fun j => j == k || L j) (fset k l)
  | [], _ => trivial
  | (i, u, v) :: r, h => ⟨fun e => by
      have e : (i == k || L i) = true := e
      show (bif i == k then v else u) = v
      cases hk : i == k with
      | true => rfl
      | false =>
        rw [hk, Bool.false_or] at e
        exact h.1 e, Fa.set k h.2⟩
/-- the first comes behind the second -/
def Od (L : Nat → Bool) : List (Nat × Nat) → Prop
  | [] => True
  | (x, y) :: r => (L x = true → L y = true) ∧ Od L r
def Oq (L : Nat → Bool) (k : Nat) : List (Nat × Nat) → Prop
  | [] => True
  | (x, y) :: r => bif x == k then L y = true ∧ Oq L k r else Oq L k r
theorem Od.none : ∀ (l : List (Nat × Nat)), Od (fun _ => false) l
  | [] => trivial
  | _ :: r => ⟨fun e => (by cases e), Od.none r⟩
theorem Od.set {L : Nat → Bool} (k : Nat) : ∀ {l : List (Nat × Nat)}, Od L l → Oq L k l → Od (fun j => j == k || L j) l
  | [], _, _ => trivial
  | (x, y) :: r, h, hq => by
    unfold Oq at hq
    refine ⟨fun e => ?_, ?_⟩
    · have e : (x == k || L x) = true := e
      show (y == k || L y) = true
      cases hk : x == k with
      | true =>
        rw [hk] at hq
        have hq : L y = true ∧ Oq L k r := hq
        rw [hq.1, Bool.or_true]
      | false =>
        rw [hk, Bool.false_or] at e
        rw [h.1 e, Bool.or_true]
    · cases hk : x == k with
      | true =>
        rw [hk] at hq
        have hq : L y = true ∧ Oq L k r := hq
        exact Od.set k h.2 hq.2
      | false =>
        rw [hk] at hq
        have hq : Oq L k r := hq
        exact Od.set k h.2 hq
end Go.Proofs.Ytnmljjehkdbbjaa
