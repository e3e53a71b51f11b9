/- Layer 15: the chapter as functions: entries, right ones, their bytes, with one more, with one less. No memory in this text. -/
import Derived.Lib.Bytealg
namespace Go.Proofs.Ytdilbicdaljfkaa
set_option maxRecDepth 20000
namespace En
open Go.Lib

abbrev T := List UInt8
abbrev E := T × Int
/-- a name -/
def valid (l : T) : Bool := decide (1 ≤ l.length ∧ l.length ≤ 24 ∧ l ≠ [46] ∧ l ≠ [46, 46] ∧ (47 : UInt8) ∉ l ∧ (0 : UInt8) ∉ l)
theorem valid_len {l : T} (h : valid l = true) : 1 ≤ l.length ∧ l.length ≤ 24 := by
  simp only [valid, decide_eq_true_eq] at h
  exact ⟨h.1, h.2.1⟩
/-- byte by byte -/
abbrev lt (a b : T) : Bool := Op.bytesLess a b
theorem lt_irr : ∀ a, lt a a = false
  | [] => rfl
  | a :: l => by
    have := lt_irr l
    simp only [lt] at this
    simp [lt, Op.bytesLess, this]
theorem lt_trans : ∀ {a b c : T}, lt a b = true → lt b c = true → lt a c = true
  | [], b, [], _, h => by cases b <;> simp [lt, Op.bytesLess] at h
  | [], _, _ :: _, _, _ => rfl
  | a :: x, [], _, h, _ => by simp [lt, Op.bytesLess] at h
  | a :: x, b :: y, [], _, h => by simp [lt, Op.bytesLess] at h
  | a :: x, b :: y, c :: z, h, h2 => by
    simp only [lt, Op.bytesLess, Bool.or_eq_true, Bool.and_eq_true, decide_eq_true_eq, beq_iff_eq] at h h2 ⊢
    rcases h with h | ⟨rfl, h⟩
    · rcases h2 with h2 | ⟨rfl, h2⟩
      · exact .inl (UInt8.lt_trans h h2)
      · exact .inl h
    · rcases h2 with h2 | ⟨rfl, h2⟩
      · exact .inl h2
      · exact .inr ⟨rfl, lt_trans (a := x) (b := y) (c := z) h h2⟩
theorem lt_tri : ∀ {a b : T}, lt a b = false → a ≠ b → lt b a = true
  | [], [], _, h => absurd rfl h
  | [], _ :: _, h, _ => by simp [lt, Op.bytesLess] at h
  | _ :: _, [], _, _ => rfl
  | a :: x, b :: y, h, hn => by
    simp only [lt, Op.bytesLess, Bool.or_eq_false_iff, Bool.and_eq_false_iff, decide_eq_false_iff_not, beq_eq_false_iff_ne] at h
    simp only [lt, Op.bytesLess, Bool.or_eq_true, Bool.and_eq_true, decide_eq_true_eq, beq_iff_eq]
    by_cases e : a = b
    · subst e
      refine .inr ⟨rfl, lt_tri (h.2.resolve_left (fun h => h rfl)) fun e => hn (by rw [e])⟩
    · exact .inl (UInt8.lt_of_le_of_ne (UInt8.not_lt.1 h.1) (Ne.symm e))
theorem lt_asym {a b : T} (h : lt a b = true) : lt b a = false := by
  cases e : lt b a with
  | false => rfl
  | true => have := lt_trans h e; rw [lt_irr] at this; cases this
theorem cmp_lt : ∀ a b : T, (compareBytes a b < 0) ↔ lt a b = true
  | [], [] => by simp [compareBytes, lt, Op.bytesLess]
  | [], _ :: _ => by simp [compareBytes, lt, Op.bytesLess]
  | _ :: _, [] => by simp [compareBytes, lt, Op.bytesLess]
  | a :: x, b :: y => by
    have ih := cmp_lt x y
    simp only [lt] at ih
    unfold compareBytes
    simp only [lt, Op.bytesLess, Bool.or_eq_true, Bool.and_eq_true, decide_eq_true_eq, beq_iff_eq]
    by_cases h : a < b
    · simp [h]
    · by_cases h2 : b < a
      · have : a ≠ b := fun e => by subst e; exact h h2
        simp [h, h2, this]
      · have : a = b := UInt8.le_antisymm (UInt8.not_lt.1 h2) (UInt8.not_lt.1 h)
        subst this
        simp [ih, UInt8.lt_irrefl]
theorem cmp_eq0 : ∀ a b : T, (compareBytes a b = 0) ↔ a = b
  | [], [] => by simp [compareBytes]
  | [], _ :: _ => by simp [compareBytes]
  | _ :: _, [] => by simp [compareBytes]
  | a :: x, b :: y => by
    have ih := cmp_eq0 x y
    unfold compareBytes
    by_cases h : a < b
    · have : a ≠ b := fun e => by subst e; exact UInt8.lt_irrefl _ h
      simp [h, this]
    · by_cases h2 : b < a
      · have : a ≠ b := fun e => by subst e; exact h h2
        simp [h, h2, this]
      · have : a = b := UInt8.le_antisymm (UInt8.not_lt.1 h2) (UInt8.not_lt.1 h)
        subst this
        simp [ih, UInt8.lt_irrefl]

/-- one entry, behind a name -/
def num (n : Int) : Bool := decide (1 ≤ n) && decide (n ≤ 64)
def ok1 (p : Option T) (x : E) : Bool := valid x.1 && num x.2 && (match p with | none => true | some y => lt y x.1)
def asc : Option T → List E → Bool
  | _, [] => true
  | p, x :: l => ok1 p x && asc (some x.1) l
/-- right entries -/
def rt (l : List E) : Bool := decide (l.length ≤ 40) && asc none l
def lastN (p : Option T) : List E → Option T
  | [] => p
  | x :: l => lastN (some x.1) l
theorem lastN_snoc : ∀ (p : Option T) (l : List E) (x : E), lastN p (l ++ [x]) = some x.1
  | _, [], _ => rfl
  | _, y :: l, x => lastN_snoc (some y.1) l x
theorem asc_app : ∀ (p : Option T) (l m : List E), asc p (l ++ m) = (asc p l && asc (lastN p l) m)
  | _, [], _ => by simp [asc, lastN]
  | p, x :: l, m => by
    show (ok1 p x && asc (some x.1) (l ++ m)) = _
    rw [asc_app (some x.1) l m, ← Bool.and_assoc]
    rfl
/-- the name ahead of place k -/
def prev (l : List E) (k : Nat) : Option T := if 0 < k then (l[k - 1]?).map (·.1) else none
theorem lastN_take (l : List E) : ∀ k, k ≤ l.length → lastN none (l.take k) = prev l k
  | 0, _ => by simp [lastN, prev]
  | k + 1, h => by
    rw [List.take_add_one, List.getElem?_eq_getElem (by omega)]
    simp only [Option.toList_some]
    rw [lastN_snoc]
    simp [prev, List.getElem?_eq_getElem (show k < l.length by omega)]
theorem asc_next {l : List E} {k : Nat} (h : k < l.length) : asc none (l.take (k + 1)) = (asc none (l.take k) && ok1 (prev l k) l[k]) := by
  rw [List.take_add_one, List.getElem?_eq_getElem h]
  simp only [Option.toList_some]
  rw [asc_app, lastN_take l k (by omega)]
  simp [asc]
theorem asc_bad {l : List E} {k : Nat} (h : k < l.length) (hb : ok1 (prev l k) l[k] = false) : asc none l = false := by
  have h1 := asc_app none (l.take (k + 1)) (l.drop (k + 1))
  rw [List.take_append_drop, asc_next h, hb] at h1
  simpa using h1
theorem asc_below : ∀ {l : List E} {y : T}, asc (some y) l = true → ∀ x ∈ l, lt y x.1 = true
  | x :: l, y, h, z, hz => by
    simp only [asc, ok1, Bool.and_eq_true] at h
    rcases List.mem_cons.1 hz with rfl | hz
    · exact h.1.2
    · exact lt_trans h.1.2 (asc_below h.2 z hz)
theorem asc_from : ∀ {p : Option T} {x : E} {l : List E}, asc p (x :: l) = true → asc (some x.1) l = true := by
  intro p x l h
  simp only [asc, Bool.and_eq_true] at h
  exact h.2
theorem asc_mem : ∀ {p : Option T} {l : List E}, asc p l = true → ∀ x ∈ l, valid x.1 = true ∧ 1 ≤ x.2 ∧ x.2 ≤ 64
  | p, y :: l, h, x, hx => by
    simp only [asc, ok1, num, Bool.and_eq_true, decide_eq_true_eq] at h
    rcases List.mem_cons.1 hx with rfl | hx
    · exact ⟨h.1.1.1, h.1.1.2⟩
    · exact asc_mem h.2 x hx
theorem rt_mem {l : List E} (h : rt l = true) : ∀ x ∈ l, valid x.1 = true ∧ 1 ≤ x.2 ∧ x.2 ≤ 64 := by
  simp only [rt, Bool.and_eq_true] at h
  exact asc_mem h.2
theorem rt_len {l : List E} (h : rt l = true) : l.length ≤ 40 := by
  simp only [rt, Bool.and_eq_true, decide_eq_true_eq] at h
  exact h.1
/-- what stands ahead of a name -/
def pos (l : List E) (n : T) : Nat := (l.takeWhile fun e => lt e.1 n).length
def has (l : List E) (n : T) : Bool := l.any fun e => e.1 == n
/-- there, where it would stand -/
def at' (l : List E) (n : T) : Bool := match l[pos l n]? with
  | none => false
  | some e => decide (e.1 = n)
theorem pos_le (l : List E) (n : T) : pos l n ≤ l.length := by
  unfold pos
  exact (List.takeWhile_sublist _).length_le
theorem pos_cons (x : E) (l : List E) (n : T) : pos (x :: l) n = if lt x.1 n = true then pos l n + 1 else 0 := by
  unfold pos
  rw [List.takeWhile_cons]
  split <;> rename_i h <;> simp [h]
theorem pos_zero {l : List E} {n : T} (h : ∀ x ∈ l, lt x.1 n = false) : pos l n = 0 := by
  cases l with
  | nil => rfl
  | cons x l => rw [pos_cons, h x (by simp)]; rfl
/-- a place that parts the list is the one -/
theorem pos_is : ∀ {l : List E} {n : T} {i : Nat}, i ≤ l.length → (∀ j, (h : j < l.length) → j < i → lt l[j].1 n = true) → (∀ j, (h : j < l.length) → i ≤ j → lt l[j].1 n = false) → pos l n = i
  | [], n, i, hi, _, _ => by simp at hi; subst hi; rfl
  | x :: l, n, 0, _, _, h2 => by rw [pos_cons, show lt x.1 n = false from h2 0 (by simp) (by omega)]; rfl
  | x :: l, n, i + 1, hi, h1, h2 => by
    have hx : lt x.1 n = true := h1 0 (by simp) (by omega)
    rw [pos_cons, hx, if_pos rfl, pos_is (l := l) (n := n) (i := i) (by simpa using hi) (fun j hj hji => h1 (j + 1) (Nat.succ_lt_succ hj) (by omega)) (fun j hj hji => h2 (j + 1) (Nat.succ_lt_succ hj) (by omega))]
/-- in right entries what precedes a name stands ahead -/
theorem asc_mono : ∀ {p : Option T} {l : List E}, asc p l = true → ∀ (n : T) (a b : Nat) (ha : a < l.length) (hb : b < l.length), a ≤ b → lt l[b].1 n = true → lt l[a].1 n = true
  | p, x :: l, h, n, 0, 0, _, _, _, h2 => h2
  | p, x :: l, h, n, 0, b + 1, _, hb, _, h2 => by
    simp only [List.getElem_cons_succ] at h2
    exact lt_trans (asc_below (asc_from h) _ (List.getElem_mem (by simpa using hb))) h2
  | p, x :: l, h, n, a + 1, 0, _, _, hab, _ => by omega
  | p, x :: l, h, n, a + 1, b + 1, ha, hb, hab, h2 => by
    simp only [List.getElem_cons_succ] at h2 ⊢
    exact asc_mono (asc_from h) n a b (by simpa using ha) (by simpa using hb) (by omega) h2
theorem has_at : ∀ {p : Option T} {l : List E}, asc p l = true → ∀ n, at' l n = has l n
  | _, [], _, n => rfl
  | p, x :: l, h, n => by
    have ih := has_at (asc_from h) n
    unfold at' has at ih ⊢
    rw [pos_cons, List.any_cons]
    by_cases hx : lt x.1 n = true
    · have hne : (x.1 == n) = false := by
        rw [beq_eq_false_iff_ne]
        rintro rfl
        rw [lt_irr] at hx
        cases hx
      rw [if_pos hx, hne, Bool.false_or, ← ih]
      simp
    · rw [if_neg hx]
      have hx' : lt x.1 n = false := by simpa using hx
      simp only [List.getElem?_cons_zero]
      by_cases e : x.1 = n
      · simp [e]
      · have : (l.any fun e => e.1 == n) = false := by
          rw [List.any_eq_false]
          intro y hy
          have h1 := asc_below (asc_from h) y hy
          have h2 := lt_tri hx' e
          simp only [beq_iff_eq]
          rintro rfl
          rw [lt_asym h1] at h2
          cases h2
        simp [this, e]

/-- find -/
def fdV (l : List E) (n : T) : Int := match l.find? (fun e => e.1 == n) with
  | none => 0
  | some e => e.2
def fdE (l : List E) (n : T) : Int := if has l n then 0 else 4
theorem fd_hit {l : List E} {n : T} {k : Nat} (hk : k < l.length) (h1 : ∀ j, (h : j < l.length) → j < k → l[j].1 ≠ n) (h2 : l[k].1 = n) : fdV l n = l[k].2 ∧ fdE l n = 0 ∧ has l n = true := by
  have hh : has l n = true := by
    unfold has
    rw [List.any_eq_true]
    exact ⟨l[k], List.getElem_mem hk, by simp [h2]⟩
  refine ⟨?_, by simp [fdE, hh], hh⟩
  have : l.find? (fun e => e.1 == n) = some l[k] := by
    have e : l = l.take k ++ l[k] :: l.drop (k + 1) := by simp
    conv => lhs; rw [e]
    rw [List.find?_append, List.find?_eq_none.2, List.find?_cons]
    · simp [h2]
    · intro x hx
      obtain ⟨j, hj, rfl⟩ := List.getElem_of_mem hx
      simp only [List.length_take] at hj
      rw [List.getElem_take]
      simpa using h1 j (by omega) (by omega)
  unfold fdV
  rw [this]
theorem fd_miss {l : List E} {n : T} (h : ∀ j, (h : j < l.length) → l[j].1 ≠ n) : fdV l n = 0 ∧ fdE l n = 4 ∧ has l n = false := by
  have hh : has l n = false := by
    unfold has
    rw [List.any_eq_false]
    intro x hx
    obtain ⟨j, hj, rfl⟩ := List.getElem_of_mem hx
    simpa using h j hj
  have : l.find? (fun e => e.1 == n) = none := by
    rw [List.find?_eq_none]
    intro x hx
    obtain ⟨j, hj, rfl⟩ := List.getElem_of_mem hx
    simpa using h j hj
  exact ⟨by unfold fdV; rw [this], by simp [fdE, hh], hh⟩
/-- names of a node -/
def nms (l : List E) (node : Int) : List T := (l.filter fun e => decide (e.2 = node)).map (·.1)
theorem nms_next {l : List E} {node : Int} {k : Nat} (h : k < l.length) : nms (l.take (k + 1)) node = nms (l.take k) node ++ (if l[k].2 = node then [l[k].1] else []) := by
  unfold nms
  rw [List.take_add_one, List.getElem?_eq_getElem h, List.filter_append, List.map_append]
  congr 1
  by_cases e : l[k].2 = node <;> simp [e]
theorem nms_len (l : List E) (node : Int) (k : Nat) : (nms (l.take k) node).length ≤ k := by
  unfold nms
  rw [List.length_map]
  exact Nat.le_trans (List.length_filter_le _ _) (by rw [List.length_take]; omega)

/-- with one more -/
def ins (l : List E) (x : E) : List E := l.take (pos l x.1) ++ x :: l.drop (pos l x.1)
def wE (l : List E) (x : E) : Int := if rt l = false then 1 else if valid x.1 = false then 12 else if num x.2 = false then 1 else if has l x.1 = true then 5 else if l.length = 40 then 14 else 0
def wV (l : List E) (x : E) : List E := if wE l x = 0 then ins l x else []
/-- with one less -/
def oE (l : List E) (n : T) : Int := if rt l = false then 1 else if has l n = false then 4 else 0
def oV (l : List E) (n : T) : List E := if oE l n = 0 then l.filter (fun e => !(e.1 == n)) else []
theorem out_is : ∀ {p : Option T} {l : List E}, asc p l = true → ∀ n, at' l n = true → l.filter (fun e => !(e.1 == n)) = l.take (pos l n) ++ l.drop (pos l n + 1)
  | _, [], _, n, h => by simp [at'] at h
  | p, x :: l, h, n, ha => by
    have ih := out_is (asc_from h) n
    unfold at' at ha ih
    rw [pos_cons] at ha ⊢
    by_cases hx : lt x.1 n = true
    · rw [if_pos hx] at ha ⊢
      have hne : (x.1 == n) = false := by
        rw [beq_eq_false_iff_ne]
        rintro rfl
        rw [lt_irr] at hx
        cases hx
      rw [List.filter_cons, hne, ih (by simpa using ha)]
      simp
    · rw [if_neg hx] at ha ⊢
      have e : x.1 = n := by simpa using ha
      rw [List.filter_cons]
      simp only [e, beq_self_eq_true, Bool.not_true, Bool.false_eq_true, if_false, List.take_zero, List.nil_append, Nat.zero_add, List.drop_succ_cons, List.drop_zero]
      rw [List.filter_eq_self]
      intro y hy
      have h1 := asc_below (asc_from h) y hy
      rw [e] at h1
      simp only [Bool.not_eq_true', beq_eq_false_iff_ne]
      rintro rfl
      rw [lt_irr] at h1
      cases h1

theorem ins_cons (y : E) (l : List E) (x : E) : ins (y :: l) x = if lt y.1 x.1 = true then y :: ins l x else x :: y :: l := by
  unfold ins
  rw [pos_cons]
  split <;> simp
theorem ins_asc : ∀ {p : Option T} {l : List E} {x : E}, asc p l = true → ok1 p x = true → has l x.1 = false → asc p (ins l x) = true
  | p, [], x, _, hx, _ => by simp [ins, asc, hx]
  | p, y :: l, x, h, hx, hn => by
    unfold has at hn
    rw [List.any_cons, Bool.or_eq_false_iff] at hn
    rw [ins_cons]
    simp only [asc, Bool.and_eq_true] at h
    by_cases hy : lt y.1 x.1 = true
    · rw [if_pos hy]
      simp only [asc, Bool.and_eq_true]
      refine ⟨h.1, ins_asc h.2 ?_ hn.2⟩
      simp only [ok1, Bool.and_eq_true] at hx ⊢
      exact ⟨hx.1, hy⟩
    · rw [if_neg hy]
      have hy' : lt y.1 x.1 = false := by simpa using hy
      have h3 := lt_tri hy' (by simpa using hn.1)
      simp only [asc, Bool.and_eq_true]
      refine ⟨hx, ?_, h.2⟩
      have h1 := h.1
      simp only [ok1, Bool.and_eq_true] at h1 ⊢
      exact ⟨h1.1, h3⟩
theorem ins_find : ∀ {l : List E} {x : E}, has l x.1 = false → fdV (ins l x) x.1 = x.2 ∧ has (ins l x) x.1 = true
  | [], x, _ => by simp [ins, fdV, has]
  | y :: l, x, hn => by
    unfold has at hn
    rw [List.any_cons, Bool.or_eq_false_iff] at hn
    have ih := ins_find (l := l) (x := x) hn.2
    unfold fdV has at ih ⊢
    rw [ins_cons]
    by_cases hy : lt y.1 x.1 = true
    · rw [if_pos hy, List.find?_cons, hn.1, List.any_cons, hn.1]
      simpa using ih
    · rw [if_neg hy, List.find?_cons]
      simp
theorem ins_out : ∀ {l : List E} {x : E}, has l x.1 = false → (ins l x).filter (fun e => !(e.1 == x.1)) = l := by
  intro l x hn
  have hl : ∀ m : List E, (∀ y ∈ m, y ∈ l) → m.filter (fun e => !(e.1 == x.1)) = m := by
    intro m hm
    rw [List.filter_eq_self]
    intro y hy
    unfold has at hn
    rw [List.any_eq_false] at hn
    simpa using hn y (hm y hy)
  unfold ins
  rw [List.filter_append, List.filter_cons, hl _ (fun y hy => List.mem_of_mem_take hy), hl _ (fun y hy => List.mem_of_mem_drop hy)]
  simp
theorem ins_len (l : List E) (x : E) : (ins l x).length = l.length + 1 := by
  have := pos_le l x.1
  simp [ins]
  omega
/-- what is added is found; taken away it is as before -/
theorem w_back {l : List E} {x : E} (h : wE l x = 0) : rt (wV l x) = true ∧ fdV (wV l x) x.1 = x.2 ∧ fdE (wV l x) x.1 = 0 ∧ oE (wV l x) x.1 = 0 ∧ oV (wV l x) x.1 = l := by
  have e : wV l x = ins l x := by unfold wV; rw [if_pos h]
  rw [e]
  unfold wE at h
  split at h
  · cases h
  rename_i h1
  split at h
  · cases h
  rename_i h2
  split at h
  · cases h
  rename_i h3
  split at h
  · cases h
  rename_i h4
  split at h
  · cases h
  rename_i h5
  have h1' : rt l = true := by simpa using h1
  have h4' : has l x.1 = false := by simpa using h4
  have hr : rt (ins l x) = true := by
    simp only [rt, Bool.and_eq_true, decide_eq_true_eq] at h1' ⊢
    refine ⟨by rw [ins_len]; omega, ins_asc h1'.2 ?_ h4'⟩
    simp only [ok1, Bool.and_eq_true]
    exact ⟨⟨by simpa using h2, by simpa using h3⟩, trivial⟩
  obtain ⟨f1, f2⟩ := ins_find h4'
  have ho : oE (ins l x) x.1 = 0 := by simp [oE, hr, f2]
  exact ⟨hr, f1, by simp [fdE, f2], ho, by unfold oV; rw [if_pos ho, ins_out h4']⟩

/-- bytes of entries, as numbers -/
def nb (l : T) : List Int := l.map fun b => (b.toNat : Int)
def by1 (x : E) : List Int := x.2 :: (x.1.length : Int) :: nb x.1
def byL (l : List E) : List Int := l.flatMap by1
theorem byL_snoc (l : List E) (x : E) : byL (l ++ [x]) = byL l ++ by1 x := by simp [byL]
theorem byL_take {l : List E} {k : Nat} (h : k < l.length) : byL (l.take (k + 1)) = byL (l.take k) ++ by1 l[k] := by
  rw [List.take_add_one, List.getElem?_eq_getElem h]
  exact byL_snoc _ _
theorem by1_len (x : E) : (by1 x).length = x.1.length + 2 := by simp [by1, nb]
/-- text of bytes -/
def txt (xs : List Int) : T := xs.map fun n => UInt8.ofNat n.toNat
theorem txt_nb (l : T) : txt (nb l) = l := by
  unfold txt nb
  rw [List.map_map]
  conv => rhs; rw [← List.map_id l]
  refine List.map_congr_left fun x _ => ?_
  simp
/-- entries of bytes -/
def ps : List Int → Option (List E)
  | [] => some []
  | [_] => none
  | n :: k :: r => if k.toNat ≤ r.length then (ps (r.drop k.toNat)).map ((txt (r.take k.toNat), n) :: ·) else none
termination_by b => b.length
decreasing_by simp; omega
def tE (b : List Int) : Int := match ps b with
  | none => 15
  | some l => if rt l then 0 else 15
def tV (b : List Int) : List E := match ps b with
  | none => []
  | some l => if rt l then l else []
theorem ps_byL : ∀ {p : Option T} {l : List E}, asc p l = true → ps (byL l) = some l
  | _, [], _ => by rw [byL, List.flatMap_nil, ps]
  | p, x :: l, h => by
    have hv := (asc_mem h x (by simp)).1
    show ps (by1 x ++ byL l) = _
    unfold by1
    rw [List.cons_append, List.cons_append, ps]
    have e : ((x.1.length : Int)).toNat = x.1.length := by omega
    have hl : (nb x.1).length = x.1.length := by simp [nb]
    rw [e, if_pos (by rw [List.length_append, hl]; omega), List.drop_left' hl, List.take_left' hl, txt_nb, ps_byL (asc_from h)]
    rfl
theorem nb_txt {xs : List Int} (h : ∀ x ∈ xs, 0 ≤ x ∧ x < 256) : nb (txt xs) = xs := by
  unfold txt nb
  rw [List.map_map]
  conv => rhs; rw [← List.map_id xs]
  refine List.map_congr_left fun x hx => ?_
  have := h x hx
  simp
  omega
theorem byL_ps : ∀ (k : Nat) {b : List Int} {l : List E}, b.length ≤ k → (∀ x ∈ b, 0 ≤ x ∧ x < 256) → ps b = some l → byL l = b
  | _, [], l, _, _, h => by rw [ps] at h; cases h; rfl
  | _, [_], l, _, _, h => by rw [ps] at h; cases h
  | 0, _ :: _ :: _, l, hk, _, _ => by simp at hk
  | m + 1, n :: k :: r, l, hk, hb, h => by
    rw [ps] at h
    by_cases hkr : k.toNat ≤ r.length
    · rw [if_pos hkr] at h
      cases hp : ps (r.drop k.toNat) with
      | none => rw [hp] at h; cases h
      | some l2 =>
        rw [hp] at h
        cases h
        have ih := byL_ps m (b := r.drop k.toNat) (by simp at hk ⊢; omega) (fun x hx => hb x (by simp [List.mem_of_mem_drop hx])) hp
        show by1 _ ++ byL l2 = _
        have hk2 := hb k (by simp)
        rw [ih, by1, nb_txt (fun x hx => hb x (by simp [List.mem_of_mem_take hx]))]
        simp only [txt, List.length_map, List.length_take, Nat.min_eq_left hkr, List.cons_append, List.take_append_drop]
        congr 2
        omega
    · rw [if_neg hkr] at h; cases h
/-- what is left to be taken -/
def Left (b : List Int) (l : List E) (r : List Int) : Prop := ps b = (ps r).map (l ++ ·)
theorem Left.start (b : List Int) : Left b [] b := by
  unfold Left
  cases ps b <;> rfl
theorem Left.next {b : List Int} {l : List E} {n k : Int} {r : List Int} (h : Left b l (n :: k :: r)) (hk : k.toNat ≤ r.length) : Left b (l ++ [(txt (r.take k.toNat), n)]) (r.drop k.toNat) := by
  unfold Left at h ⊢
  rw [h, ps, if_pos hk]
  cases ps (r.drop k.toNat) with
  | none => rfl
  | some m => simp
theorem Left.one {b : List Int} {l : List E} {n : Int} (h : Left b l [n]) : tE b = 15 ∧ tV b = [] := by
  unfold Left at h
  rw [ps] at h
  simp [tE, tV, h]
theorem Left.short {b : List Int} {l : List E} {n k : Int} {r : List Int} (h : Left b l (n :: k :: r)) (hk : ¬ k.toNat ≤ r.length) : tE b = 15 ∧ tV b = [] := by
  unfold Left at h
  rw [ps, if_neg hk] at h
  simp [tE, tV, h]
theorem Left.done {b : List Int} {l : List E} (h : Left b l []) : (rt l = true → tE b = 0 ∧ tV b = l) ∧ (rt l = false → tE b = 15 ∧ tV b = []) := by
  unfold Left at h
  rw [ps] at h
  simp only [Option.map_some, List.append_nil] at h
  exact ⟨fun e => by simp [tE, tV, h, e], fun e => by simp [tE, tV, h, e]⟩
theorem Left.many {b : List Int} {l : List E} {r : List Int} (h : Left b l r) (hl : 40 < l.length) : tE b = 15 ∧ tV b = [] := by
  unfold Left at h
  cases hp : ps r with
  | none => rw [hp] at h; simp [tE, tV, h]
  | some m =>
    rw [hp] at h
    have : rt (l ++ m) = false := by
      simp only [rt, Bool.and_eq_false_iff, decide_eq_false_iff_not, List.length_append]
      omega
    simp [tE, tV, h, this]
/-- put, taken; taken, put -/
theorem t_put {l : List E} (h : rt l = true) : tE (byL l) = 0 ∧ tV (byL l) = l := by
  have h2 : asc none l = true := by simp only [rt, Bool.and_eq_true] at h; exact h.2
  simp [tE, tV, ps_byL h2, h]
theorem put_t {b : List Int} (hb : ∀ x ∈ b, 0 ≤ x ∧ x < 256) (h : tE b = 0) : rt (tV b) = true ∧ byL (tV b) = b := by
  unfold tE tV at *
  cases hp : ps b with
  | none => rw [hp] at h; cases h
  | some l =>
    rw [hp] at h
    simp only at h ⊢
    by_cases hr : rt l = true
    · rw [if_pos hr]
      exact ⟨hr, byL_ps _ (Nat.le_refl _) hb hp⟩
    · rw [if_neg hr] at h; cases h
end En
end Go.Proofs.Ytdilbicdaljfkaa
