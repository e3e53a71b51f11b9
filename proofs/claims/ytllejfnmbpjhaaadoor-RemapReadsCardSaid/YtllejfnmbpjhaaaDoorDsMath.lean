/- disk: what is later, write by write. -/
import Derived.Test.YtllejfnmbpjhaaaDoorDkNew
import Derived.Test.YtllejfnmbpjhaaaDoorDkRead
namespace Go.Proofs.YtllejfnmbpjhaaaDoor
set_option maxRecDepth 20000
namespace Dk
open Go.RowKit

/-- the first bytes of the writes for sector k, in order -/
def lat (C : Nat → Wr) (k : Nat) : Nat → List Int
  | 0 => []
  | m + 1 => if (C m).place = k then lat C k m ++ [(C m).data 0] else lat C k m
theorem lat_congr {C C' : Nat → Wr} {k : Nat} : ∀ m, (∀ j, j < m → C j = C' j) → lat C k m = lat C' k m := by
  intro m
  induction m with
  | zero => intro _; rfl
  | succ m ih => intro h; simp only [lat]; rw [ih (fun j hj => h j (by omega)), h m (by omega)]
theorem lat_upd (C : Nat → Wr) (k m : Nat) (x : Wr) : lat (updC C m x) k (m + 1) = if x.place = k then lat C k m ++ [x.data 0] else lat C k m := by
  have h0 : lat (updC C m x) k m = lat C k m := lat_congr m fun j hj => by simp only [updC]; rw [if_neg (by omega)]
  have h1 : updC C m x m = x := by simp [updC]
  simp only [lat]
  rw [h0, h1]
theorem lat_len (C : Nat → Wr) (k : Nat) : ∀ m, (lat C k m).length ≤ m := by
  intro m
  induction m with
  | zero => exact Nat.le_refl _
  | succ m ih =>
    simp only [lat]
    split
    · rw [List.length_append]; simp only [List.length_singleton]; omega
    · omega
def lastOr (l : List Int) (s : Int) : Int := l.getLast?.getD s
theorem lastOr_nil (s : Int) : lastOr [] s = s := rfl
theorem lastOr_snoc (l : List Int) (x s : Int) : lastOr (l ++ [x]) s = x := by simp [lastOr]
theorem lastOr_at {l : List Int} {s x : Int} (h : l[l.length - 1]? = some x) : lastOr l s = x := by
  rw [lastOr, List.getLast?_eq_getElem?, h]; rfl
theorem st_all {n : Nat} {S : Nat → Sec} {C : Nat → Wr} {k : Nat} : ∀ m, inAll n C m = true → (stS S C (fun _ => true) m k).data 0 = lastOr (lat C k m) ((S k).data 0) := by
  intro m
  induction m with
  | zero => intro _; rfl
  | succ m ih =>
    intro h
    simp only [inAll, Bool.and_eq_true] at h
    have hp := hasB_nat h.2
    simp only [stS, lat, if_true, upd]
    by_cases e : (C m).place = k
    · rw [if_pos e, if_pos (by omega), lastOr_snoc]
    · rw [if_neg e, if_neg (by omega)]
      exact ih h.1
theorem st_any {n : Nat} {S : Nat → Sec} {C : Nat → Wr} {K : Nat → Bool} {k : Nat} : ∀ m, inAll n C m = true → (stS S C K m k).data 0 = (S k).data 0 ∨ (stS S C K m k).data 0 ∈ lat C k m := by
  intro m
  induction m with
  | zero => intro _; exact .inl rfl
  | succ m ih =>
    intro h
    simp only [inAll, Bool.and_eq_true] at h
    have hp := hasB_nat h.2
    have h1 := ih h.1
    simp only [stS, lat]
    cases hK : K m with
    | false =>
      simp only [Bool.false_eq_true, if_false]
      split
      · exact h1.imp id fun h => List.mem_append_left _ h
      · exact h1
    | true =>
      simp only [if_true, upd]
      by_cases e : (C m).place = k
      · rw [if_pos e, if_pos (by omega)]
        exact .inr (by simp)
      · rw [if_neg e, if_neg (by omega)]
        exact h1
theorem st_read {S : Nat → Sec} {C : Nat → Wr} {K : Nat → Bool} {k : Nat} (h : (S k).noRead = false) : ∀ m, (stS S C K m k).noRead = false := by
  intro m
  induction m with
  | zero => exact h
  | succ m ih =>
    simp only [stS]
    split
    · simp only [upd]
      split
      · rfl
      · exact ih
    · exact ih
theorem st_write {S : Nat → Sec} {C : Nat → Wr} {K : Nat → Bool} {k : Nat} : ∀ m, (stS S C K m k).noWrite = (S k).noWrite := by
  intro m
  induction m with
  | zero => rfl
  | succ m ih =>
    simp only [stS]
    split
    · simp only [upd]
      split
      · rename_i e
        subst e
        exact ih
      · exact ih
    · exact ih
theorem inAll_upd {n : Nat} {C : Nat → Wr} {x : Wr} : ∀ m, inAll n C m = true → hasB n x.place = true → inAll n (updC C m x) (m + 1) = true := by
  intro m h hx
  have h0 : ∀ j, j ≤ m → inAll n (updC C m x) j = true := by
    intro j
    induction j with
    | zero => intro _; rfl
    | succ j ih =>
      intro hj
      simp only [inAll, Bool.and_eq_true]
      refine ⟨ih (by omega), ?_⟩
      simp only [updC]; rw [if_neg (by omega)]
      exact inAll_at (by omega) h
  simp only [inAll, Bool.and_eq_true]
  refine ⟨h0 m (Nat.le_refl _), ?_⟩
  simp only [updC, if_true]; exact hx
end Dk
end Go.Proofs.YtllejfnmbpjhaaaDoor
