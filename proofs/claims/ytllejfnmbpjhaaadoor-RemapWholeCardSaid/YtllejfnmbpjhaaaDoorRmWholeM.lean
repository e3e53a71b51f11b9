/- remap: a crash in the midst of a write: the numbers alone. -/
import Derived.Test.YtllejfnmbpjhaaaDoorRmBackM
namespace Go.Proofs.YtllejfnmbpjhaaaDoor
set_option maxRecDepth 20000
namespace Rm
open Go.RowKit Dk Byt

/-- two disks that differ in the fuse alone, both with power; that of Y never burns down -/
structure Sim (Y Z : Dst) : Prop where
  m : Z.m = Y.m
  S : Z.S = Y.S
  C : Z.C = Y.C
  dy : Y.d = false
  dz : Z.d = false
  fy : Y.f < 0
theorem act_neg {f : Int} (h : f < 0) : actE f false = 0 ∧ actF f false = f ∧ actD f false = false := by
  unfold actE actF actD
  refine ⟨by rw [if_neg (by simp; omega)], by rw [if_neg (by simp), if_neg (by omega)], by simp; omega⟩
theorem act_on {f : Int} (h : f ≠ 0) : actE f false = 0 ∧ actD f false = false := by
  unfold actE actD
  exact ⟨by rw [if_neg (by simp [h])], by simp [h]⟩
theorem sim_wr {n : Nat} {Y Z : Dst} (h : Sim Y Z) (a : Int) (D : Nat → Int) : (dWrE n Z a = dWrE n Y a ∧ Sim (dWr n Y a D) (dWr n Z a D)) ∨ dWrE n Z a = 3 := by
  obtain ⟨e1, e2, e3⟩ := act_neg h.fy
  have hw : wrOk n Z.m Z.C a = wrOk n Y.m Y.C a := by rw [h.m, h.C]
  cases ho : wrOk n Y.m Y.C a with
  | false =>
    have hz : dWrE n Z a = 1 := by unfold dWrE wrE; rw [hw, ho]; rfl
    have hy : dWrE n Y a = 1 := by unfold dWrE wrE; rw [ho]; rfl
    refine .inl ⟨by rw [hz, hy], ?_⟩
    obtain ⟨z1, z2, z3⟩ := dWr_no (D := D) (show dWrE n Z a ≠ 0 by omega)
    obtain ⟨y1, y2, y3⟩ := dWr_no (D := D) (show dWrE n Y a ≠ 0 by omega)
    refine ⟨by rw [z1, y1, h.m], by rw [z3, y3, h.S], by rw [z2, y2, h.C], ?_, ?_, ?_⟩
    · show wrD n Y.m Y.C Y.f Y.d a = false
      unfold wrD; rw [ho]; exact h.dy
    · show wrD n Z.m Z.C Z.f Z.d a = false
      unfold wrD; rw [hw, ho]; exact h.dz
    · show wrF n Y.m Y.C Y.f Y.d a < 0
      unfold wrF; rw [ho]; exact h.fy
  | true =>
    by_cases hf : Z.f = 0
    · refine .inr ?_
      unfold dWrE wrE actE
      rw [hw, ho, if_pos rfl, if_neg (by rw [if_pos (.inr hf)]; omega)]
    · obtain ⟨a1, a2⟩ := act_on hf
      have hE : dWrE n Z a = dWrE n Y a := by
        unfold dWrE wrE
        rw [hw, h.dz, h.dy, a1, e1, h.S]
      refine .inl ⟨hE, ?_⟩
      have hdy : (dWr n Y a D).d = false := by
        show wrD n Y.m Y.C Y.f Y.d a = false
        unfold wrD; rw [ho, if_pos rfl, h.dy]; exact e3
      have hdz : (dWr n Z a D).d = false := by
        show wrD n Z.m Z.C Z.f Z.d a = false
        unfold wrD; rw [hw, ho, if_pos rfl, h.dz]; exact a2
      have hfy : (dWr n Y a D).f < 0 := by
        show wrF n Y.m Y.C Y.f Y.d a < 0
        unfold wrF; rw [ho, if_pos rfl, h.dy, e2]; exact h.fy
      by_cases h0 : dWrE n Y a = 0
      · obtain ⟨z1, z2, z3⟩ := dWr_yes (D := D) (hE.trans h0)
        obtain ⟨y1, y2, y3⟩ := dWr_yes (D := D) h0
        exact ⟨by rw [z1, y1, h.m], by rw [z3, y3, h.S], by rw [z2, y2, h.C, h.m], hdy, hdz, hfy⟩
      · obtain ⟨z1, z2, z3⟩ := dWr_no (D := D) (show dWrE n Z a ≠ 0 by rw [hE]; exact h0)
        obtain ⟨y1, y2, y3⟩ := dWr_no (D := D) h0
        exact ⟨by rw [z1, y1, h.m], by rw [z3, y3, h.S], by rw [z2, y2, h.C], hdy, hdz, hfy⟩
theorem sim_fl {n : Nat} {Y Z : Dst} (h : Sim Y Z) (hf : formed n Y) : (dFlE n Z = dFlE n Y ∧ dFlE n Y = 0 ∧ Sim (dFl n Y) (dFl n Z)) ∨ dFlE n Z = 3 := by
  obtain ⟨e1, e2, e3⟩ := act_neg h.fy
  have hfy : formedB n Y.m Y.C = true := hf
  have hfz : formedB n Z.m Z.C = true := by rw [h.m, h.C]; exact hfy
  by_cases h0 : Z.f = 0
  · refine .inr ?_
    unfold dFlE flE actE
    rw [hfz, if_pos rfl, if_pos (.inr h0)]
  · obtain ⟨a1, a2⟩ := act_on h0
    have hz : dFlE n Z = 0 := by unfold dFlE flE; rw [hfz, if_pos rfl, h.dz]; exact a1
    have hy : dFlE n Y = 0 := by unfold dFlE flE; rw [hfy, if_pos rfl, h.dy]; exact e1
    have oz : flOk n Z.m Z.C Z.f Z.d = true := by unfold flOk; rw [hfz, h.dz, a1]; rfl
    have oy : flOk n Y.m Y.C Y.f Y.d = true := by unfold flOk; rw [hfy, h.dy, e1]; rfl
    refine .inl ⟨by rw [hz, hy], hy, ?_, ?_, h.C, ?_, ?_, ?_⟩
    · show flM n Z.m Z.C Z.f Z.d = flM n Y.m Y.C Y.f Y.d
      unfold flM; rw [oz, oy]; rfl
    · show flS n Z.m Z.S Z.C Z.f Z.d = flS n Y.m Y.S Y.C Y.f Y.d
      unfold flS; rw [oz, oy, h.S, h.C, h.m]
    · show flD n Y.m Y.C Y.f Y.d = false
      unfold flD; rw [hfy, if_pos rfl, h.dy]; exact e3
    · show flD n Z.m Z.C Z.f Z.d = false
      unfold flD; rw [hfz, if_pos rfl, h.dz]; exact a2
    · show flF n Y.m Y.C Y.f Y.d < 0
      unfold flF; rw [hfy, if_pos rfl, h.dy, e2]; exact h.fy
/-- the search for a spare sector: as long as the power lasts, the same on both -/
theorem sim_sp' {n k : Nat} {T V : Nat → Int} {Y Z : Dst} (h : Sim Y Z) : ∀ i, (Sim (spS n k T V Y i) (spS n k T V Z i) ∧ ∀ j, j < i → stopB n k T V Z j = stopB n k T V Y j ∧ (noneB T ((n : Int) - 20 + j) k = true → spC n k T V Z j = spC n k T V Y j)) ∨
    ∃ j, j < i ∧ spC n k T V Z j = 3 ∧ stopB n k T V Z j = true ∧ ∀ j', j' < j → stopB n k T V Z j' = stopB n k T V Y j' ∧ (noneB T ((n : Int) - 20 + j') k = true → spC n k T V Z j' = spC n k T V Y j')
  | 0 => .inl ⟨h, fun j hj => by omega⟩
  | i + 1 => by
    rcases sim_sp' (n := n) (k := k) (T := T) (V := V) h i with ⟨hs, ha⟩ | ⟨j, hj, h1, h2, h3⟩
    · by_cases hn : noneB T ((n : Int) - 20 + i) k = true
      · rcases sim_wr (n := n) hs ((n : Int) - 20 + i) V with ⟨hE, hS⟩ | hE
        · refine .inl ⟨by simp only [spS]; rw [if_pos hn, if_pos hn]; exact hS, fun j hj => ?_⟩
          by_cases e : j < i
          · exact ha j e
          · obtain rfl : j = i := by omega
            have hc : spC n k T V Z j = spC n k T V Y j := hE
            exact ⟨by unfold stopB; rw [hc], fun _ => hc⟩
        · have hc : spC n k T V Z i = 3 := hE
          exact .inr ⟨i, by omega, hc, by unfold stopB; rw [hn, hc]; rfl, ha⟩
      · refine .inl ⟨by simp only [spS]; rw [if_neg hn, if_neg hn]; exact hs, fun j hj => ?_⟩
        by_cases e : j < i
        · exact ha j e
        · obtain rfl : j = i := by omega
          have hn' : noneB T ((n : Int) - 20 + j) k = false := by simpa using hn
          exact ⟨by unfold stopB; rw [hn']; rfl, fun e => by rw [hn'] at e; cases e⟩
    · exact .inr ⟨j, by omega, h1, h2, h3⟩
/-- the first at which it stops -/
theorem first_stop {P : Nat → Bool} : ∀ m : Nat, (∃ q, q < m ∧ P q = true) → ∃ i : Nat, i < m ∧ P i = true ∧ ∀ j, j < i → P j = false
  | 0, ⟨q, hq, _⟩ => by omega
  | m + 1, ⟨q, hq, hp⟩ => by
    by_cases h : ∃ q, q < m ∧ P q = true
    · obtain ⟨i, h1, h2, h3⟩ := first_stop m h
      exact ⟨i, by omega, h2, h3⟩
    · refine ⟨q, hq, hp, fun j hj => ?_⟩
      cases hv : P j with
      | false => rfl
      | true => exact absurd ⟨j, by omega, hv⟩ h
theorem sim_sp {n k : Nat} {T V : Nat → Int} {Y Z : Dst} (h : Sim Y Z) : (spE n k T V Z = spE n k T V Y ∧ spTo n k T V Z = spTo n k T V Y ∧ Sim (spX n k T V Y) (spX n k T V Z)) ∨ spE n k T V Z = 3 := by
  rcases sim_sp' (n := n) (k := k) (T := T) (V := V) h 20 with ⟨hs, ha⟩ | ⟨j, hj, h1, h2, h3⟩
  · by_cases hx : ∃ q, q < 20 ∧ stopB n k T V Y q = true
    · obtain ⟨i, hi, hi1, hi2⟩ := first_stop 20 hx
      have zi1 : stopB n k T V Z i = true := by rw [(ha i hi).1]; exact hi1
      have zi2 : ∀ j, j < i → stopB n k T V Z j = false := fun j hj => by rw [(ha j (by omega)).1]; exact hi2 j hj
      obtain ⟨y1, y2, y3⟩ := sp_at hi2 hi1 hi
      obtain ⟨z1, z2, z3⟩ := sp_at zi2 zi1 hi
      have hn : noneB T ((n : Int) - 20 + i) k = true := by
        unfold stopB at hi1
        simp only [Bool.and_eq_true] at hi1
        exact hi1.1
      have hc := (ha i hi).2 hn
      rcases sim_sp' (n := n) (k := k) (T := T) (V := V) h (i + 1) with ⟨hs', _⟩ | ⟨j, hj, j1, j2, j3⟩
      · exact .inl ⟨by rw [z2, y2, hc], by rw [z1, y1], by rw [z3, y3]; exact hs'⟩
      · have : j = i := by
          by_cases e : j < i
          · rw [zi2 j e] at j2; cases j2
          · omega
        subst this
        exact .inr (by rw [z2]; exact j1)
    · have yn : ∀ j, j < 20 → stopB n k T V Y j = false := fun j hj => by
        cases hv : stopB n k T V Y j with
        | false => rfl
        | true => exact absurd ⟨j, hj, hv⟩ hx
      have zn : ∀ j, j < 20 → stopB n k T V Z j = false := fun j hj => by rw [(ha j hj).1]; exact yn j hj
      have y := spF_none 20 yn
      have z := spF_none 20 zn
      refine .inl ⟨?_, ?_, ?_⟩
      · unfold spE; rw [y, z]; try rfl
      · unfold spTo; rw [y, z]; try rfl
      · unfold spX; rw [y, z]; exact hs
  · obtain ⟨i, hi, hi1, hi2⟩ := first_stop 20 ⟨j, hj, h2⟩
    have hij : i ≤ j := by
      by_cases e : i ≤ j
      · exact e
      · rw [hi2 j (by omega)] at h2; cases h2
    obtain ⟨z1, z2, z3⟩ := sp_at hi2 hi1 hi
    by_cases e : i = j
    · subst e
      exact .inr (by rw [z2]; exact h1)
    · have hyi : stopB n k T V Y i = true := by rw [← (h3 i (by omega)).1]; exact hi1
      have hyn : ∀ j', j' < i → stopB n k T V Y j' = false := fun j' hj' => by rw [← (h3 j' (by omega)).1]; exact hi2 j' hj'
      obtain ⟨y1, y2, y3⟩ := sp_at hyn hyi hi
      have hn : noneB T ((n : Int) - 20 + i) k = true := by
        unfold stopB at hi1
        simp only [Bool.and_eq_true] at hi1
        exact hi1.1
      have hc := (h3 i (by omega)).2 hn
      rcases sim_sp' (n := n) (k := k) (T := T) (V := V) h (i + 1) with ⟨hs', _⟩ | ⟨j', hj', j1, j2, j3⟩
      · exact .inl ⟨by rw [z2, y2, hc], by rw [z1, y1], by rw [z3, y3]; exact hs'⟩
      · have : j' = i := by
          by_cases e : j' < i
          · rw [hi2 j' e] at j2; cases j2
          · omega
        subst this
        exact .inr (by rw [z2]; exact j1)
/-- two writes of a table -/
theorem sim_ly {n : Nat} {hh r : Int} {P : Nat → Int} {Y Z : Dst} (h : Sim Y Z) : (lyE' n hh r P Z = lyE' n hh r P Y ∧ Sim (lyX' n hh r P Y) (lyX' n hh r P Z)) ∨ lyE' n hh r P Z = 3 := by
  rcases sim_wr (n := n) h (((0 : Nat) : Int) * hh + r) P with ⟨hE, hS⟩ | hE
  · have c0 : lyC n hh r P Z 0 = lyC n hh r P Y 0 := hE
    have s1 : Sim (lyS n hh r P Y 1) (lyS n hh r P Z 1) := hS
    by_cases b0 : bad (lyC n hh r P Y 0)
    · refine .inl ⟨?_, ?_⟩
      · unfold lyE'; rw [c0, if_pos b0, if_pos b0]
      · unfold lyX'; rw [c0, if_pos b0, if_pos b0]; exact s1
    · rcases sim_wr (n := n) s1 (((1 : Nat) : Int) * hh + r) P with ⟨hE1, hS1⟩ | hE1
      · have c1 : lyC n hh r P Z 1 = lyC n hh r P Y 1 := hE1
        refine .inl ⟨?_, ?_⟩
        · have hN : lyN n hh r P Z 2 = lyN n hh r P Y 2 := by simp only [lyN]; rw [c0, c1]
          unfold lyE'
          rw [c0, c1, hN]
        · unfold lyX'; rw [c0, if_neg b0, if_neg b0]; exact hS1
      · have c1 : lyC n hh r P Z 1 = 3 := hE1
        refine .inr ?_
        unfold lyE'
        rw [c0, if_neg b0, c1, if_pos (by unfold bad; omega)]
  · have c0 : lyC n hh r P Z 0 = 3 := hE
    refine .inr ?_
    unfold lyE'
    rw [c0, if_pos (by unfold bad; omega)]
end Rm
end Go.Proofs.YtllejfnmbpjhaaaDoor
