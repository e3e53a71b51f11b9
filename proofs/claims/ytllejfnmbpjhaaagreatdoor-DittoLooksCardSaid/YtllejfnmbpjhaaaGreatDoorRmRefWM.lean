/- remap: the reference's Write as the code's: the numbers alone; the reference's Write and Flush of disks. -/
import Derived.Test.YtllejfnmbpjhaaaGreatDoorRmRefWith
import Derived.Test.YtllejfnmbpjhaaaGreatDoorRmRefRead
import Derived.Test.YtllejfnmbpjhaaaGreatDoorJDw
namespace Go.Proofs.YtllejfnmbpjhaaaGreatDoor
set_option maxRecDepth 20000
namespace Rm
open Go.RowKit Dk Byt

theorem refwrite_x {w : World} {g n : Nat} {X : Dst} (h : HasD w g n X) (hk : Ok 1 X) (a : Int) (D : Nat → Int) : Calls Tryz.prog 78 #[.pointer (some ⟨g, 0, none⟩), .int .i64 a, .agg (bl D).toArray] w (Did w g n (dWrE n X a) (dWr n X a D)) := by
  obtain ⟨sa, sc, ca, cc, hh⟩ := h
  exact refwrite_any g sa ca n sc X.m cc X.S X.C X.f X.d a D w hh hk.2 hk.1
theorem refflush_x {w : World} {g n : Nat} {X : Dst} (h : HasD w g n X) (hk : Ok 0 X) : Calls Tryz.prog 80 #[.pointer (some ⟨g, 0, none⟩)] w (Did w g n (dFlE n X) (dFl n X)) := by
  obtain ⟨sa, sc, ca, cc, hh⟩ := h
  exact refflush_any g sa ca n sc X.m cc X.S X.C X.f X.d w hh hk.2
theorem halves_d {w : World} {g n : Nat} {X : Dst} (h : HasD w g n X) : ∃ sa sc ca cc, Bx w g (.slice sa n sc) (.slice ca X.m cc) (.int .i64 X.f) (.bool X.d) ∧ Calls Tryz.prog 79 #[.agg #[.slice sa n sc, .slice ca X.m cc, .int .i64 X.f, .bool X.d]] w fun e w' => e = .returned (.int .i64 (hfN n X)) ∧ Below w.heap.size w w' := by
  obtain ⟨sa, sc, ca, cc, hh⟩ := h
  have h47 := hh.n47
  exact ⟨sa, sc, ca, cc, hh.bx, halves_v sa ca n sc cc g X w h47.1 h47.2 hh.cs⟩

def formed (n : Nat) (X : Dst) : Prop := formedB n X.m X.C = true
theorem formed_more {n m m' : Nat} {C C' : Nat → Wr} (h : formedB n m C = true) (hi : inAll n C' m' = true) : formedB n m' C' = true := by
  unfold formedB at h ⊢
  simp only [Bool.and_eq_true] at h ⊢
  exact ⟨h.1, hi⟩
theorem formed.wr {n : Nat} {X : Dst} (h : formed n X) (a : Int) (D : Nat → Int) : formed n (dWr n X a D) := by
  show formedB n (wrM n X.m X.S X.C X.f X.d a) (wrC n X.m X.S X.C X.f X.d a D) = true
  unfold wrM wrC
  by_cases e : wrE n X.m X.S X.C X.f X.d a = 0
  · rw [if_pos e, if_pos e]
    refine formed_more h (inAll_upd X.m (formed_n h).2 ?_)
    unfold wrE wrOk at e
    by_cases hb : hasB n a = true
    · exact hb
    · rw [Bool.not_eq_true] at hb
      rw [hb] at e
      simp at e
  · rw [if_neg e, if_neg e]; exact h
theorem formed.fl {n : Nat} {X : Dst} (h : formed n X) : formed n (dFl n X) := by
  show formedB n (flM n X.m X.C X.f X.d) X.C = true
  unfold flM
  split
  · exact formed_more h rfl
  · exact h
theorem formed.sp {n k : Nat} {T V : Nat → Int} {X : Dst} (h : formed n X) : ∀ i, formed n (spS n k T V X i)
  | 0 => h
  | i + 1 => by
    simp only [spS]
    split
    · exact (formed.sp h i).wr _ _
    · exact formed.sp h i
theorem formed.spX {n k : Nat} {T V : Nat → Int} {X : Dst} (h : formed n X) : formed n (spX n k T V X) := by
  unfold Rm.spX
  split
  · exact h.sp _
  · exact h.sp _
theorem formed.hf {n : Nat} {X : Dst} (h : formed n X) : hfN n X = halfN n := by unfold hfN; rw [if_pos (show formedB n X.m X.C = true from h)]

/-- k unlike numbers in a room of r -/
theorem pig : ∀ (r : Nat) (lo : Int) (k : Nat) (T : Nat → Int), distB T k = true → (∀ i, i < k → lo ≤ T i ∧ T i < lo + r) → k ≤ r
  | 0, lo, k, T, _, h => by
    rcases Nat.eq_zero_or_pos k with h0 | h0
    · omega
    · have := h 0 h0
      omega
  | r + 1, lo, k, T, hd, h => by
    by_cases hx : ∃ j, j < k ∧ T j = lo + r
    · obtain ⟨j, hj, e⟩ := hx
      have hd' := distB_iff.1 hd
      have := pig r lo (k - 1) (fun i => if i < j then T i else T (i + 1)) (distB_iff.2 fun a b ha hb hab => by
        show (if a < j then T a else T (a + 1)) ≠ (if b < j then T b else T (b + 1))
        split <;> split <;> exact hd' _ _ (by omega) (by omega) (by omega)) (fun i hi => by
        show lo ≤ (if i < j then T i else T (i + 1)) ∧ (if i < j then T i else T (i + 1)) < lo + r
        split
        · have h1 := h i (by omega)
          have h2 := hd' i j (by omega) hj (by omega)
          omega
        · have h1 := h (i + 1) (by omega)
          have h2 := hd' (i + 1) j (by omega) hj (by omega)
          omega)
      omega
    · have := pig r lo k T hd (fun i hi => by
        have h1 := h i hi
        have h2 : T i ≠ lo + r := fun e => hx ⟨i, hi, e⟩
        omega)
      omega
/-- with as many pairs as there are spare sectors none is left -/
theorem no_room {n : Nat} {gen : Int} {F T : Nat → Int} {i : Nat} (h : rightB n gen 20 F T = true) (hi : i < 20) : noneB T ((n : Int) - 20 + i) 20 = false := by
  cases hn : noneB T ((n : Int) - 20 + i) 20 with
  | false => rfl
  | true =>
    obtain ⟨h0, _, _, _, hp, _, hd⟩ := right_parts h
    obtain ⟨_, _, hh⟩ := halfN_bd n
    obtain ⟨_, hh⟩ := hh h0
    have hp' := pairsB_iff.1 hp
    have hd' := distB_iff.1 hd
    have hn' := noneB_iff.1 hn
    have := pig 20 ((n : Int) - 20) 21 (fun j => if j < 20 then T j else (n : Int) - 20 + i) (distB_iff.2 fun a b ha hb hab => by
      show (if a < 20 then T a else (n : Int) - 20 + i) ≠ (if b < 20 then T b else (n : Int) - 20 + i)
      split <;> split
      · exact hd' _ _ (by omega) (by omega) hab
      · exact hn' a (by omega)
      · exact fun e => hn' b (by omega) e.symm
      · omega) (fun j hj => by
      show _ ≤ (if j < 20 then T j else (n : Int) - 20 + i) ∧ (if j < 20 then T j else (n : Int) - 20 + i) < _
      split
      · have h1 := hp' j (by omega)
        unfold pairB at h1
        simp only [Bool.and_eq_true, decide_eq_true_eq] at h1
        omega
      · omega)
    omega

section
variable {n : Nat} {X : Dst} {gen : Int} {k : Nat} {F T : Nat → Int} {h : Int}
theorem ly_0 (he : putEr n gen k F T ≠ 0) : lyE n X gen k F T = putEr n gen k F T ∧ lyX n X gen k F T = X := by
  unfold lyE lyX
  rw [if_neg he, if_neg he]
  exact ⟨rfl, rfl⟩
theorem ly_c0 (hh : hfN n X = h) (P : Nat → Int) : lyC n (hfN n X) (gen % 2) P X 0 = dWrE n X (gen % 2) := by
  rw [hh]
  unfold lyC
  simp [lyS]
theorem ly_s1 (hh : hfN n X = h) (P : Nat → Int) : lyS n (hfN n X) (gen % 2) P X 1 = dWr n X (gen % 2) P := by
  rw [hh]
  simp [lyS]
theorem ly_c1 (hh : hfN n X = h) (P : Nat → Int) : lyC n (hfN n X) (gen % 2) P X 1 = dWrE n (dWr n X (gen % 2) P) (h + gen % 2) := by
  rw [hh]
  unfold lyC
  simp [lyS]
theorem ly_s2 (hh : hfN n X = h) (P : Nat → Int) : lyS n (hfN n X) (gen % 2) P X 2 = dWr n (dWr n X (gen % 2) P) (h + gen % 2) P := by
  rw [hh]
  simp [lyS]
theorem ly_1 (he : putEr n gen k F T = 0) (hh : hfN n X = h) (hb : bad (dWrE n X (gen % 2))) : lyE n X gen k F T = dWrE n X (gen % 2) ∧ lyX n X gen k F T = dWr n X (gen % 2) (putV n gen k F T) := by
  have := ly_bad (n := n) (hh := hfN n X) (r := gen % 2) (V := putV n gen k F T) (X := X) 0 (by omega) (fun _ h => by omega) (by rw [ly_c0 hh]; exact hb)
  unfold lyE lyX
  rw [if_pos he, if_pos he, this.1, this.2, ly_c0 hh, ly_s1 hh]
  exact ⟨rfl, rfl⟩
theorem ly_2 (he : putEr n gen k F T = 0) (hh : hfN n X = h) (hb : ¬ bad (dWrE n X (gen % 2))) (hc : bad (dWrE n (dWr n X (gen % 2) (putV n gen k F T)) (h + gen % 2))) : lyE n X gen k F T = dWrE n (dWr n X (gen % 2) (putV n gen k F T)) (h + gen % 2) ∧ lyX n X gen k F T = dWr n (dWr n X (gen % 2) (putV n gen k F T)) (h + gen % 2) (putV n gen k F T) := by
  have hz : ∀ c, c < 1 → ¬ bad (lyC n (hfN n X) (gen % 2) (putV n gen k F T) X c) := fun c hc => by
    obtain rfl : c = 0 := by omega
    rw [ly_c0 hh]
    exact hb
  have := ly_bad (n := n) (hh := hfN n X) (r := gen % 2) (V := putV n gen k F T) (X := X) 1 (by omega) hz (by rw [ly_c1 hh]; exact hc)
  unfold lyE lyX
  rw [if_pos he, if_pos he, this.1, this.2, ly_c1 hh, ly_s2 hh]
  exact ⟨rfl, rfl⟩
theorem ly_3 (he : putEr n gen k F T = 0) (hh : hfN n X = h) (hb : ¬ bad (dWrE n X (gen % 2))) (hc : ¬ bad (dWrE n (dWr n X (gen % 2) (putV n gen k F T)) (h + gen % 2))) : lyE n X gen k F T = (if dWrE n X (gen % 2) = 2 ∧ dWrE n (dWr n X (gen % 2) (putV n gen k F T)) (h + gen % 2) = 2 then 2 else 0) ∧ lyX n X gen k F T = dWr n (dWr n X (gen % 2) (putV n gen k F T)) (h + gen % 2) (putV n gen k F T) := by
  have := ly_end (n := n) (hh := hfN n X) (r := gen % 2) (V := putV n gen k F T) (X := X) (fun c hc' => by
    match c, hc' with
    | 0, _ => rw [ly_c0 hh]; exact hb
    | 1, _ => rw [ly_c1 hh]; exact hc)
  unfold lyE lyX
  rw [if_pos he, if_pos he, this.1, this.2, ly_s2 hh]
  have hN : lyN n (hfN n X) (gen % 2) (putV n gen k F T) X 2 = 2 ↔ dWrE n X (gen % 2) = 2 ∧ dWrE n (dWr n X (gen % 2) (putV n gen k F T)) (h + gen % 2) = 2 := by
    simp only [lyN, ly_c0 hh, ly_c1 hh]
    by_cases h1 : dWrE n X (gen % 2) = 2 <;> by_cases h2 : dWrE n (dWr n X (gen % 2) (putV n gen k F T)) (h + gen % 2) = 2 <;> simp [h1, h2]
  refine ⟨?_, rfl⟩
  by_cases hq : dWrE n X (gen % 2) = 2 ∧ dWrE n (dWr n X (gen % 2) (putV n gen k F T)) (h + gen % 2) = 2
  · rw [if_pos hq, if_pos (hN.2 hq)]
  · rw [if_neg hq, if_neg (fun e => hq (hN.1 e))]
end
end Rm
end Go.Proofs.YtllejfnmbpjhaaaGreatDoor
