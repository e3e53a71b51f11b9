/- Layer 12, numbers alone: a path of steps has these steps; what is clean stays; how long it is. -/
import Derived.Test.YthmcjjfhfkcheaaDoorNmT
namespace Go.Proofs.YthmcjjfhfkcheaaDoor
set_option maxRecDepth 20000
namespace Nm

theorem pc_plain : ∀ {x : T}, (47 : UInt8) ∉ x → pc x = [x]
  | [], _ => rfl
  | b :: l, h => by
    have hb : b ≠ 47 := fun e => h (by simp [e])
    have hl : (47 : UInt8) ∉ l := fun e => h (by simp [e])
    obtain ⟨y, t, h1, h2⟩ := pc_miss hb l
    rw [pc_plain hl] at h1
    injection h1 with h1 h3
    rw [h2, ← h1, ← h3]
theorem pc_cut : ∀ {x : T} (r : T), (47 : UInt8) ∉ x → pc (x ++ 47 :: r) = x :: pc r
  | [], r, _ => pc_hit r
  | b :: l, r, h => by
    have hb : b ≠ 47 := fun e => h (by simp [e])
    have hl : (47 : UInt8) ∉ l := fun e => h (by simp [e])
    obtain ⟨y, t, h1, h2⟩ := pc_miss hb (l ++ 47 :: r)
    rw [pc_cut r hl] at h1
    injection h1 with h1 h3
    rw [List.cons_append, h2, ← h1, ← h3]
theorem pc_txt : ∀ (x : T) (r : List T), (∀ y ∈ x :: r, (47 : UInt8) ∉ y) → pc (txt (x :: r)) = x :: r
  | x, [], h => by rw [txt_one]; exact pc_plain (h x (by simp))
  | x, y :: r, h => by
    rw [txt_cons, pc_cut _ (h x (by simp)), pc_txt y r fun z hz => h z (by simp at hz ⊢; exact .inr hz)]
theorem good_no {x : T} (h : good x = true) : (47 : UInt8) ∉ x := by
  unfold good at h
  rw [Bool.or_eq_true, beq_iff_eq] at h
  rcases h with h | h
  · subst h; decide
  · unfold valid at h
    exact (of_decide_eq_true h).2.2.2.2.1
theorem fine_inr {s : T} (h : fine s = true) : 1 ≤ s.length ∧ s.length ≤ 240 := by
  unfold fine inr at h
  simp at h
  exact ⟨by have := h.1.1; omega, h.1.2⟩
theorem fine_all {s : T} (h : fine s = true) : (pc s).all okp = true := by unfold fine at h; simp only [Bool.and_eq_true] at h; exact h.2
theorem steps_of {s : T} (h : fine s = true) : steps s = (pc s).filter keep := by simp only [steps, h, if_true]
theorem steps_good {s : T} (h : fine s = true) : ∀ x ∈ steps s, keep x = true ∧ good x = true := by
  intro x hx
  rw [steps_of h] at hx
  obtain ⟨h1, h2⟩ := List.mem_filter.1 hx
  have := List.all_eq_true.1 (fine_all h) x h1
  unfold okp at this
  rw [h2] at this
  exact ⟨h2, by simpa using this⟩
/-- steps that may be -/
def Ok (P : List T) : Prop := ∀ x ∈ P, keep x = true ∧ good x = true
theorem filter_ok {P : List T} (h : Ok P) : P.filter keep = P := List.filter_eq_self.2 fun x hx => (h x hx).1
theorem all_ok {P : List T} (h : Ok P) : P.all okp = true := List.all_eq_true.2 fun x hx => by simp [okp, (h x hx).2]
theorem no47 {P : List T} (h : Ok P) : ∀ x ∈ P, (47 : UInt8) ∉ x := fun x hx => good_no (h x hx).2
/-- the path of steps that may be has just these steps -/
theorem join_steps {P : List T} (a : Bool) (h : Ok P) (hl : (joinC P a).length ≤ 240) : fine (joinC P a) = true ∧ steps (joinC P a) = P ∧ abs (joinC P a) = a := by
  cases P with
  | nil =>
    cases a with
    | true => exact ⟨by decide +kernel, by decide +kernel, by decide +kernel⟩
    | false => exact ⟨by decide +kernel, by decide +kernel, by decide +kernel⟩
  | cons x r =>
    have hp := pc_txt x r (no47 h)
    have ht := txt_len x r
    have hx : 0 < x.length := List.length_pos_iff.2 (keep_ne (h x (by simp)).1)
    cases a with
    | true =>
      have e : joinC (x :: r) true = 47 :: txt (x :: r) := rfl
      rw [e] at hl ⊢
      have hf : fine (47 :: txt (x :: r)) = true := by
        unfold fine inr
        rw [pc_hit, hp, List.all_cons, all_ok h]
        simp only [List.length_cons] at hl ⊢
        simp [hl, okp, keep]
      refine ⟨hf, ?_, ?_⟩
      · rw [steps_of hf, pc_hit, hp, List.filter_cons, filter_ok h]
        simp [keep]
      · unfold abs
        rw [hf]
        simp [List.isPrefixOf]
    | false =>
      have e : joinC (x :: r) false = txt (x :: r) := rfl
      rw [e] at hl ⊢
      have h1 : 1 ≤ (txt (x :: r)).length := by
        rw [wt] at ht
        omega
      have hf : fine (txt (x :: r)) = true := by
        unfold fine inr
        rw [hp, all_ok h]
        simp [hl, h1]
      refine ⟨hf, ?_, ?_⟩
      · rw [steps_of hf, hp, filter_ok h]
      · unfold abs
        rw [hf]
        cases x with
        | nil => simp at hx
        | cons b y =>
          have hb : b ≠ 47 := fun e => no47 h (b :: y) (by simp) (by simp [e])
          cases r with
          | nil => rw [txt_one]; simp [List.isPrefixOf, Ne.symm hb]
          | cons z r => rw [txt_cons]; simp [List.isPrefixOf, Ne.symm hb]
/-- a path of some of its steps is no longer -/
theorem join_short {s : T} (hf : fine s = true) {P : List T} (h : List.Sublist P (steps s)) : (joinC P (abs s)).length ≤ max s.length 1 := by
  have hn := fine_inr hf
  cases ha : abs s with
  | true =>
    have hpre : ([47] : T).isPrefixOf s = true := by unfold abs at ha; rw [hf] at ha; simpa using ha
    obtain ⟨r, rfl⟩ : ∃ r, s = 47 :: r := by
      cases s with
      | nil => simp [List.isPrefixOf] at hpre
      | cons b r =>
        have : b = 47 := by simp [List.isPrefixOf] at hpre; exact hpre.symm
        exact ⟨r, by rw [this]⟩
    have hs : steps (47 :: r) = (pc r).filter keep := by
      rw [steps_of hf, pc_hit, List.filter_cons]
      simp [keep]
    rw [hs] at h
    have := txt_le (h.trans List.filter_sublist)
    have e : joinC P true = 47 :: txt P := rfl
    rw [e]
    simp only [List.length_cons]
    omega
  | false =>
    have := txt_le (h.trans (steps_sub s))
    unfold joinC
    split
    · simp at *
    · split
      · simp
        omega
      · omega
theorem ok_sub {s : T} (hf : fine s = true) {P : List T} (h : List.Sublist P (steps s)) : Ok P := fun x hx => steps_good hf x (h.subset hx)
/-- the path of some of its steps, and what there is to say of it -/
theorem part_steps {s : T} (hf : fine s = true) {P : List T} (h : List.Sublist P (steps s)) : fine (joinC P (abs s)) = true ∧ steps (joinC P (abs s)) = P ∧ abs (joinC P (abs s)) = abs s :=
  join_steps (abs s) (ok_sub hf h) (by have := join_short hf h; have := fine_inr hf; omega)

/-- a path that is clean: .. alone ahead of all others, and none of it in an absolute one -/
def Nrm (a : Bool) (l : List T) : Prop := ∃ (m : Nat) (ns : List T), l = List.replicate m [46, 46] ++ ns ∧ [46, 46] ∉ ns ∧ (a = true → m = 0)
theorem rep_last (m : Nat) : ¬ (0 < (List.replicate m ([46, 46] : T)).length ∧ (List.replicate m ([46, 46] : T)).getLastD [] ≠ [46, 46]) := by
  rintro ⟨h1, h2⟩
  cases m with
  | zero => simp at h1
  | succ m => rw [List.replicate_succ'] at h2; simp at h2
theorem st_dd (a : Bool) (l : List T) : st a l [46, 46] = if decide (0 < l.length) && !(l.getLastD [] == [46, 46]) then l.dropLast else if a then l else l ++ [[46, 46]] := by
  unfold st
  rw [if_pos (by decide)]
theorem st_name (a : Bool) (l : List T) {x : T} (h : x ≠ [46, 46]) : st a l x = l ++ [x] := by
  unfold st
  rw [if_neg (by simpa using h)]
theorem st_rep (a : Bool) (m : Nat) : st a (List.replicate m [46, 46]) [46, 46] = if a then List.replicate m [46, 46] else List.replicate (m + 1) [46, 46] := by
  rw [st_dd, if_neg (by
    intro h
    rw [Bool.and_eq_true, decide_eq_true_eq, Bool.not_eq_true', beq_eq_false_iff_ne] at h
    exact rep_last m h), List.replicate_succ']
theorem st_nrm {a : Bool} {l : List T} (h : Nrm a l) (x : T) : Nrm a (st a l x) := by
  obtain ⟨m, ns, rfl, h1, h2⟩ := h
  by_cases hx : x = [46, 46]
  · subst hx
    by_cases hn : ns = []
    · subst hn
      rw [List.append_nil, st_rep]
      cases a with
      | true => exact ⟨m, [], by simp, by simp, h2⟩
      | false => exact ⟨m + 1, [], by simp, by simp, by simp⟩
    · have hl : (List.replicate m ([46, 46] : T) ++ ns).getLastD [] = ns.getLast hn := by
        rw [List.getLastD_eq_getLast?, List.getLast?_append, List.getLast?_eq_some_getLast hn]
        rfl
      have hm : ns.getLast hn ≠ [46, 46] := fun e => h1 (e ▸ List.getLast_mem hn)
      rw [st_dd, if_pos (by
        rw [Bool.and_eq_true, decide_eq_true_eq, Bool.not_eq_true', beq_eq_false_iff_ne, hl]
        exact ⟨by have := List.length_pos_iff.2 hn; simp; omega, hm⟩)]
      exact ⟨m, ns.dropLast, by rw [List.dropLast_append_of_ne_nil hn], fun e => h1 (List.dropLast_subset _ e), h2⟩
  · rw [st_name a _ hx]
    exact ⟨m, ns ++ [x], by simp, by simp [h1, Ne.symm hx], h2⟩
theorem fold_nrm (a : Bool) : ∀ (xs l : List T), Nrm a l → Nrm a (xs.foldl (st a) l)
  | [], _, h => h
  | x :: xs, _, h => fold_nrm a xs _ (st_nrm h x)
theorem red_nrm (a : Bool) (xs : List T) : Nrm a (red a xs) := fold_nrm a xs [] ⟨0, [], rfl, by simp, fun _ => rfl⟩
theorem fold_names (a : Bool) : ∀ (ns l : List T), [46, 46] ∉ ns → ns.foldl (st a) l = l ++ ns
  | [], l, _ => by simp
  | x :: ns, l, h => by
    simp only [List.mem_cons, not_or] at h
    rw [List.foldl_cons, st_name a l (Ne.symm h.1), fold_names a ns _ h.2]
    simp
theorem fold_dots : ∀ (m k : Nat), (List.replicate m ([46, 46] : T)).foldl (st false) (List.replicate k [46, 46]) = List.replicate (k + m) [46, 46]
  | 0, k => rfl
  | m + 1, k => by
    rw [List.replicate_succ, List.foldl_cons, st_rep, if_neg (by decide), fold_dots m (k + 1)]
    congr 1
    omega
/-- what is clean stays -/
theorem red_red (a : Bool) (xs : List T) : red a (red a xs) = red a xs := by
  obtain ⟨m, ns, h, h1, h2⟩ := red_nrm a xs
  rw [h]
  unfold red
  rw [List.foldl_append]
  cases a with
  | true =>
    rw [h2 rfl]
    exact fold_names true ns [] h1
  | false =>
    have := fold_dots m 0
    rw [Nat.zero_add] at this
    have e : (List.replicate 0 ([46, 46] : T)) = [] := rfl
    rw [e] at this
    rw [this]
    exact fold_names false ns _ h1
/-- NameAgain's numbers -/
theorem again {s : T} (hf : fine s = true) : fine (clean s) = true ∧ clean (clean s) = clean s ∧ (steps (clean s)).length ≤ (steps s).length ∧ abs (clean s) = abs s ∧ (clean s).length ≤ max s.length 1 := by
  have hs := red_sub (abs s) (steps s)
  obtain ⟨h1, h2, h3⟩ := part_steps hf hs
  have e : clean s = joinC (red (abs s) (steps s)) (abs s) := by simp only [clean, hf, if_true]
  have hl := join_short hf hs
  rw [← e] at h1 h2 h3 hl
  refine ⟨h1, ?_, by rw [h2]; exact hs.length_le, h3, hl⟩
  have e2 : clean (clean s) = joinC (red (abs (clean s)) (steps (clean s))) (abs (clean s)) := by
    show (if fine (clean s) = true then _ else _) = _
    rw [if_pos h1]
  rw [e2, h2, h3, red_red, ← e]
/-- NameTogether's numbers -/
theorem together {s : T} (hp : pok s = true) : fine s = true ∧ fine (pdir s) = true ∧ steps (pdir s) = (steps s).dropLast ∧ abs (pdir s) = abs s ∧ valid (pname s) = true ∧ steps (pdir s) ++ [pname s] = steps s := by
  have hp' := hp
  unfold pok at hp'
  simp only [Bool.and_eq_true, Bool.not_eq_true', beq_eq_false_iff_ne] at hp'
  obtain ⟨⟨hf, h0⟩, hd⟩ := hp'
  have hne : steps s ≠ [] := by intro e; rw [e] at h0; simp at h0
  obtain ⟨h1, h2, h3⟩ := part_steps hf (List.dropLast_sublist (steps s))
  have e : pdir s = joinC (steps s).dropLast (abs s) := by simp only [pdir, hp, if_true]
  have en : pname s = (steps s).getLastD [] := by simp only [pname, hp, if_true]
  have hl : (steps s).getLastD [] = (steps s).getLast hne := by rw [List.getLastD_eq_getLast?, List.getLast?_eq_some_getLast hne]; rfl
  rw [← e] at h1 h2 h3
  refine ⟨hf, h1, h2, h3, ?_, ?_⟩
  · rw [en]
    have hg := (steps_good hf _ (hl ▸ List.getLast_mem hne : (steps s).getLastD [] ∈ steps s)).2
    unfold good at hg
    rw [Bool.or_eq_true, beq_iff_eq] at hg
    rcases hg with hg | hg
    · exact absurd hg hd
    · exact hg
  · rw [h2, en, hl]
    exact List.dropLast_concat_getLast hne
end Nm
end Go.Proofs.YthmcjjfhfkcheaaDoor
