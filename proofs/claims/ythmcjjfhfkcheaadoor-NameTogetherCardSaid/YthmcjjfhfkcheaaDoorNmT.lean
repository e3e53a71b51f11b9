/- Layer 12: numbers of texts: how long a path of steps is; what is left of the steps; steps aren't empty. -/
import Derived.Test.YthmcjjfhfkcheaaDoorNmM
namespace Go.Proofs.YthmcjjfhfkcheaaDoor
set_option maxRecDepth 20000
namespace Nm

theorem txt_nil : txt [] = [] := rfl
theorem txt_one (x : T) : txt [x] = x := Lib.join_one x [47]
theorem txt_cons (x y : T) (r : List T) : txt (x :: y :: r) = x ++ 47 :: txt (y :: r) := by
  unfold txt
  rw [Lib.join_cons, Lib.join_cons]
  simp [Lib.joinTail]
/-- each text, and one byte behind it -/
def wt : List T → Nat
  | [] => 0
  | x :: r => x.length + 1 + wt r
theorem txt_len : ∀ (x : T) (r : List T), (txt (x :: r)).length + 1 = wt (x :: r)
  | x, [] => by rw [txt_one]; simp [wt]
  | x, y :: r => by
    rw [txt_cons, wt, ← txt_len y r]
    simp
    omega
theorem wt_sub {xs ys : List T} (h : List.Sublist xs ys) : wt xs ≤ wt ys := by
  induction h with
  | slnil => exact Nat.le_refl _
  | cons a _ ih => rw [wt]; omega
  | cons_cons a _ ih => rw [wt, wt]; omega
theorem wt_pc : ∀ s : T, wt (pc s) = s.length + 1
  | [] => rfl
  | b :: l => by
    have ih := wt_pc l
    by_cases h : b = 47
    · subst h; rw [pc_hit, wt, ih]; simp; omega
    · obtain ⟨x, t, h1, h2⟩ := pc_miss h l
      rw [h1, wt] at ih
      rw [h2, wt]; simp; omega
theorem txt_le {xs : List T} {s : T} (h : List.Sublist xs (pc s)) : (txt xs).length ≤ s.length := by
  cases xs with
  | nil => simp [txt_nil]
  | cons x r =>
    have := wt_sub h
    have := txt_len x r
    have := wt_pc s
    omega
theorem steps_sub (s : T) : List.Sublist (steps s) (pc s) := by
  unfold steps
  split
  · exact List.filter_sublist
  · exact List.nil_sublist _
theorem steps_len (s : T) : (steps s).length ≤ 241 := by
  unfold steps
  split
  · rename_i h
    have h1 : inr s = true := by unfold fine at h; simp at h; exact h.1
    have h2 : s.length ≤ 240 := by unfold inr at h1; simp at h1; exact h1.2
    have := pc_len_le s
    have := List.length_filter_le keep (pc s)
    omega
  · simp
theorem steps_keep (s : T) : ∀ x ∈ steps s, keep x = true := by
  unfold steps
  split
  · intro x hx; exact (List.mem_filter.1 hx).2
  · simp
theorem keep_ne {x : T} (h : keep x = true) : x ≠ [] := by rintro rfl; simp [keep] at h
theorem steps_short (s : T) : ∀ x ∈ steps s, x.length ≤ 240 := by
  intro x hx
  unfold steps at hx
  split at hx
  · rename_i h
    have h1 : inr s = true := by unfold fine at h; simp at h; exact h.1
    have h2 : s.length ≤ 240 := by unfold inr at h1; simp at h1; exact h1.2
    have := pc_short s x (List.mem_filter.1 hx).1
    omega
  · simp at hx
theorem st_sub (a : Bool) (l : List T) (x : T) : List.Sublist (st a l x) (l ++ [x]) := by
  unfold st
  split
  · split
    · exact List.Sublist.trans (List.dropLast_sublist _) (List.sublist_append_left _ _)
    · split
      · exact List.sublist_append_left _ _
      · exact List.Sublist.refl _
  · exact List.Sublist.refl _
theorem fold_sub (a : Bool) : ∀ (xs l : List T), List.Sublist (xs.foldl (st a) l) (l ++ xs)
  | [], l => by simp
  | x :: xs, l => by
    rw [List.foldl_cons]
    refine List.Sublist.trans (fold_sub a xs _) ?_
    rw [show l ++ x :: xs = (l ++ [x]) ++ xs by simp]
    exact List.Sublist.append (st_sub a l x) (List.Sublist.refl _)
theorem red_sub (a : Bool) (xs : List T) : List.Sublist (red a xs) xs := by
  have := fold_sub a xs []
  simpa [red] using this
theorem red_next {a : Bool} {xs : List T} {k : Nat} (hk : k < xs.length) : red a (xs.take (k + 1)) = st a (red a (xs.take k)) xs[k] := by
  unfold red
  rw [List.take_add_one, List.getElem?_eq_getElem hk, List.foldl_append]
  rfl
theorem txt_ne {xs : List T} (h : ∀ x ∈ xs, x ≠ []) (hx : xs ≠ []) : txt xs ≠ [] := by
  cases xs with
  | nil => exact absurd rfl hx
  | cons x r =>
    have h1 := txt_len x r
    have h2 : 0 < x.length := List.length_pos_iff.2 (h x (by simp))
    intro e
    rw [e, wt] at h1
    simp at h1
    omega
theorem joinR_eq {xs : List T} (a : Bool) (h : ∀ x ∈ xs, x ≠ []) : joinR xs a = joinC xs a := by
  unfold joinR joinC
  cases xs with
  | nil => simp [txt_nil]
  | cons x r => simp [txt_ne h (by simp)]
theorem txt_next (xs : List T) {k : Nat} (hk : k < xs.length) : txt (xs.take (k + 1)) = if k = 0 then xs[k] else (txt (xs.take k) ++ [47]) ++ xs[k] := by
  cases xs with
  | nil => simp at hk
  | cons x r =>
    cases k with
    | zero => simp [txt_one]
    | succ k =>
      have hk' : k < r.length := by simpa using hk
      simp only [List.take_succ_cons, Nat.add_eq_zero_iff, List.getElem_cons_succ]
      rw [if_neg (by omega)]
      unfold txt
      rw [Lib.join_cons, Lib.join_cons, Lib.joinTail_take_succ [47] r k r[k] (List.getElem?_eq_getElem hk')]
      simp
end Nm
end Go.Proofs.YthmcjjfhfkcheaaDoor
