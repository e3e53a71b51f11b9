/- remap: the table that is loaded behind a crash in the midst of a write: the numbers alone. -/
import Derived.Test.YtllejfnmbpjhaaaDoorRmWholeN
import Derived.Test.YtllejfnmbpjhaaaDoorRmLoad
namespace Go.Proofs.YtllejfnmbpjhaaaDoor
set_option maxRecDepth 20000
namespace Rm
open Go.RowKit Dk Byt

section
variable {n : Nat} {X Z : Dst}
theorem ldA_tb {i : Nat} (hi : i < 4) : isTb n (ldA n i) := by
  unfold ldA
  have h : i = 0 ∨ i = 1 ∨ i = 2 ∨ i = 3 := by omega
  rcases h with rfl | rfl | rfl | rfl
  · exact ⟨0, by omega, by omega, .inl (by simp)⟩
  · exact ⟨1, by omega, by omega, .inl (by simp)⟩
  · exact ⟨0, by omega, by omega, .inr (by simp)⟩
  · exact ⟨1, by omega, by omega, .inr (by simp)⟩
/-- which of the two kinds a place is -/
theorem ldA_par {i : Nat} {r : Int} (hi : i < 4) (h0 : halfN n ≠ 0) (hr : 0 ≤ r ∧ r < 2) (h : ldA n i = r ∨ ldA n i = halfN n + r) : (i : Int) % 2 = r := by
  obtain ⟨_, _, hh⟩ := halfN_bd n
  obtain ⟨h4, _⟩ := hh h0
  unfold ldA at h
  have hc : i = 0 ∨ i = 1 ∨ i = 2 ∨ i = 3 := by omega
  rcases hc with rfl | rfl | rfl | rfl <;> simp at h <;> simp <;> omega
theorem ld_at {i : Nat} (hi : i < 4) (h0 : halfN n ≠ 0) (hm : X.m = 0) (hd : X.d = false) : ldE n X i = (if (X.S (ldA n i).toNat).noRead then 2 else 0) ∧ ldV n X i = if (X.S (ldA n i).toNat).noRead then fun _ => 0 else (X.S (ldA n i).toNat).data := by
  obtain ⟨b0, b1, _⟩ := isTb_bd h0 (ldA_tb (n := n) hi)
  obtain ⟨_, h1, hh⟩ := halfN_bd n
  obtain ⟨h4, hn⟩ := hh h0
  have hok : rdOk n X.m X.C (ldA n i) = true := by
    unfold rdOk formedB hasB
    rw [hm]
    simp only [inAll]
    simp
    omega
  have hE : ldE n X i = if (X.S (ldA n i).toNat).noRead then 2 else 0 := by
    unfold ldE rdE
    rw [hok, hd, hm]
    rfl
  refine ⟨hE, ?_⟩
  unfold ldE at hE
  unfold ldV rdV
  rw [hE, hm]
  cases (X.S (ldA n i).toNat).noRead <;> rfl
theorem ldB_iff {i : Nat} : ldB n X i = true ↔ ldE n X i = 0 ∧ tkOk n (ldV n X i) = true ∧ tkA (ldV n X i) % 2 = (i : Int) % 2 := by
  unfold ldB
  simp [Bool.and_eq_true, decide_eq_true_eq]
theorem ldI_none : ∀ k, ldI n X k = none → ∀ i, i < k → ldB n X i = false
  | 0, _, i, hi => by omega
  | k + 1, h, i, hi => by
    simp only [ldI] at h
    cases e : ldI n X k with
    | none =>
      rw [e] at h
      by_cases hb : ldB n X k = true
      · simp [hb] at h
      · by_cases hik : i < k
        · exact ldI_none k e i hik
        · obtain rfl : i = k := by omega
          simpa using hb
    | some j =>
      rw [e] at h
      dsimp only at h
      split at h <;> cases h
theorem ldI_some : ∀ k j, ldI n X k = some j → j < k ∧ ldB n X j = true ∧ (∀ i, i < k → ldB n X i = true → tkA (ldV n X i) ≤ tkA (ldV n X j)) ∧ ∀ i, i < j → ldB n X i = true → tkA (ldV n X i) < tkA (ldV n X j)
  | 0, j, h => by cases h
  | k + 1, j, h => by
    simp only [ldI] at h
    cases e : ldI n X k with
    | none =>
      rw [e] at h
      have hn := ldI_none k e
      by_cases hb : ldB n X k = true
      · simp [hb] at h
        subst h
        refine ⟨by omega, hb, fun i hi hi' => ?_, fun i hi hi' => ?_⟩
        · by_cases hik : i < k
          · rw [hn i hik] at hi'; cases hi'
          · obtain rfl : i = k := by omega
            omega
        · rw [hn i hi] at hi'; cases hi'
      · simp [hb] at h
    | some j' =>
      rw [e] at h
      dsimp only at h
      obtain ⟨h1, h2, h3, h4⟩ := ldI_some k j' e
      split at h
      · rename_i hc
        injection h with h
        subst h
        refine ⟨by omega, hc.1, fun i hi hi' => ?_, fun i hi hi' => ?_⟩
        · by_cases hik : i < k
          · have := h3 i hik hi'; omega
          · obtain rfl : i = k := by omega
            omega
        · have := h3 i hi hi'; omega
      · rename_i hc
        injection h with h
        subst h
        refine ⟨by omega, h2, fun i hi hi' => ?_, h4⟩
        by_cases hik : i < k
        · exact h3 i hik hi'
        · obtain rfl : i = k := by omega
          by_cases hg : tkA (ldV n X j') < tkA (ldV n X i)
          · exact absurd ⟨hi', hg⟩ hc
          · omega
/-- at each place what was there, or the next table at one of its places: what is loaded is the table from ahead, or the next one -/
theorem load_two {j0 : Nat} {P : Nat → Int} (hj : ldI n X 4 = some j0) (hP : tkOk n P = true) (hg : tkA P = tkA (ldV n X j0) + 1)
    (h : ∀ i, i < 4 → (ldE n Z i = ldE n X i ∧ ldV n Z i = ldV n X i) ∨ ((i : Int) % 2 = (tkA (ldV n X j0) + 1) % 2 ∧ ldE n Z i = 0 ∧ ldV n Z i = P)) :
    ∃ j1, ldI n Z 4 = some j1 ∧ (ldV n Z j1 = ldV n X j0 ∨ ldV n Z j1 = P) ∧ ((∃ i : Nat, i < 4 ∧ (i : Int) % 2 = (tkA (ldV n X j0) + 1) % 2 ∧ ldE n Z i = 0 ∧ ldV n Z i = P) → ldV n Z j1 = P) := by
  obtain ⟨a1, a2, a3, a4⟩ := ldI_some 4 j0 hj
  have b0 := ldB_iff.1 a2
  have hz0 : ldB n Z j0 = true ∧ ldV n Z j0 = ldV n X j0 := by
    rcases h j0 a1 with ⟨h1, h2⟩ | ⟨h1, _⟩
    · exact ⟨ldB_iff.2 (by rw [h1, h2]; exact b0), h2⟩
    · have := b0.2.2
      omega
  cases hI : ldI n Z 4 with
  | none =>
    have := ldI_none 4 hI j0 a1
    rw [hz0.1] at this
    cases this
  | some j1 =>
    obtain ⟨c1, c2, c3, c4⟩ := ldI_some 4 j1 hI
    have hge := c3 j0 a1 hz0.1
    rw [hz0.2] at hge
    refine ⟨j1, rfl, ?_, fun ⟨i, i1, i2, i3, i4⟩ => ?_⟩
    · rcases h j1 c1 with ⟨h1, h2⟩ | ⟨_, _, h3⟩
      · have hb : ldB n X j1 = true := ldB_iff.2 (by rw [← h1, ← h2]; exact ldB_iff.1 c2)
        have hle := a3 j1 c1 hb
        rw [h2] at hge
        have : j1 = j0 := by
          by_cases e1 : j1 < j0
          · have := a4 j1 e1 hb; omega
          · by_cases e2 : j0 < j1
            · have := c4 j0 e2 hz0.1
              rw [hz0.2, h2] at this
              omega
            · omega
        subst this
        exact .inl h2
      · exact .inr h3
    · have hbi : ldB n Z i = true := ldB_iff.2 ⟨i3, by rw [i4]; exact hP, by rw [i4, hg, i2]⟩
      have hle := c3 i i1 hbi
      rw [i4, hg] at hle
      rcases h j1 c1 with ⟨h1, h2⟩ | ⟨_, _, h3⟩
      · have hb : ldB n X j1 = true := ldB_iff.2 (by rw [← h1, ← h2]; exact ldB_iff.1 c2)
        have := a3 j1 c1 hb
        rw [h2] at hle
        omega
      · exact h3
theorem ldF_cr {K : Nat → Bool} (hf : formed n X) (h0 : halfN n ≠ 0) : ldF n (cr X K) = ldI n (cr X K) 4 ∧ ldEr n (cr X K) = if (ldI n (cr X K) 4).isSome = true then 0 else 2 := by
  have hh : hfN n (cr X K) = halfN n := by
    unfold hfN
    rw [if_pos]
    exact formed_more (show formedB n X.m X.C = true from hf) rfl
  unfold ldF ldEr
  rw [hh, if_neg (by simp [cr, h0]), if_neg h0]
  exact ⟨rfl, if_neg (by simp [cr])⟩
/-- a table that is laid, and one like it -/
def Like (A B : Tab) : Prop := A.gen = B.gen ∧ A.k = B.k ∧ ∀ i, i < A.k → A.F i = B.F i ∧ A.T i = B.T i
theorem like_put {s : Int} {N : Tab} (hp : putEr s N.gen N.k N.F N.T = 0) {D : Nat → Int} (hD : D = putV s N.gen N.k N.F N.T) : Like ⟨tkA D, tkK D, tkF D, tkT D⟩ N ∧ tkOk s D = true ∧ tkA D = N.gen := by
  have hr : rightB s N.gen N.k N.F N.T = true := by
    unfold putEr at hp
    split at hp
    · assumption
    · omega
  obtain ⟨h1, h2, h3, h4⟩ := put_taken hr
  subst hD
  exact ⟨⟨h2, h3, fun i hi => h4 i (by rw [h3] at hi; exact hi)⟩, h1, h2⟩
/-- behind a crash of a disk on which nothing has been laid, or the next table alone -/
theorem crash_cl {X0 : Dst} {j0 : Nat} {K : Nat → Bool} (h : Cl n X0 X) (h0 : halfN n ≠ 0) (hm : X0.m = 0) (hd : X0.d = false) (hj : ldI n X0 4 = some j0) : ∃ j1, ldI n (cr X K) 4 = some j1 ∧ ldV n (cr X K) j1 = ldV n X0 j0 := by
  have same : ∀ i, i < 4 → ldE n (cr X K) i = ldE n X0 i ∧ ldV n (cr X K) i = ldV n X0 i := fun i hi => by
    have hs : (cr X K).S (ldA n i).toNat = X0.S (ldA n i).toNat := by
      have ht := ldA_tb (n := n) hi
      show stS X.S X.C K X.m _ = _
      rcases st_at (n := n) (S := X.S) (C := X.C) (K := K) (isTb_bd h0 ht).1 X.m (formed_n h.f).2 with h1 | ⟨j, j1, j2, _⟩
      · rw [h1]; exact h.s _ ht
      · exact absurd (by rw [j2]; exact ht) (h.c j j1)
    obtain ⟨e1, e2⟩ := ld_at (X := cr X K) hi h0 rfl rfl
    obtain ⟨f1, f2⟩ := ld_at hi h0 hm hd
    rw [e1, e2, f1, f2, hs]
    exact ⟨rfl, rfl⟩
  have hb : ∀ i, i < 4 → ldB n (cr X K) i = ldB n X0 i := fun i hi => by
    unfold ldB
    rw [(same i hi).1, (same i hi).2]
  obtain ⟨a1, a2, a3, a4⟩ := ldI_some 4 j0 hj
  cases hI : ldI n (cr X K) 4 with
  | none =>
    have := ldI_none 4 hI j0 a1
    rw [hb j0 a1, a2] at this
    cases this
  | some j1 =>
    obtain ⟨c1, c2, c3, c4⟩ := ldI_some 4 j1 hI
    have c2' := c2
    rw [hb j1 c1] at c2'
    have g1 := a3 j1 c1 c2'
    have g2 := c3 j0 a1 (by rw [hb j0 a1]; exact a2)
    rw [(same j0 a1).2, (same j1 c1).2] at g2
    have : j1 = j0 := by
      by_cases e1 : j1 < j0
      · have := a4 j1 e1 c2'; omega
      · by_cases e2 : j0 < j1
        · have := c4 j0 e2 (by rw [hb j0 a1]; exact a2)
          rw [(same j0 a1).2, (same j1 c1).2] at this
          omega
        · omega
    subst this
    exact ⟨j1, rfl, (same j1 c1).2⟩
theorem crash_tb {X0 : Dst} {j0 : Nat} {K : Nat → Bool} {P : Nat → Int} {r : Int} (h : Tb n X0 r P X) (h0 : halfN n ≠ 0) (hm : X0.m = 0) (hd : X0.d = false) (hj : ldI n X0 4 = some j0) (hr : r = (tkA (ldV n X0 j0) + 1) % 2) (hP : tkOk n P = true) (hg : tkA P = tkA (ldV n X0 j0) + 1) : ∃ j1, ldI n (cr X K) 4 = some j1 ∧ (ldV n (cr X K) j1 = ldV n X0 j0 ∨ ldV n (cr X K) j1 = P) := by
  obtain ⟨j1, h1, h2, _⟩ := load_two (Z := cr X K) hj hP hg fun i hi => by
    have ht := ldA_tb (n := n) hi
    obtain ⟨e1, e2⟩ := ld_at (X := cr X K) hi h0 rfl rfl
    obtain ⟨f1, f2⟩ := ld_at hi h0 hm hd
    have hS : (cr X K).S (ldA n i).toNat = stS X.S X.C K X.m (ldA n i).toNat := rfl
    rcases st_at (n := n) (S := X.S) (C := X.C) (K := K) (isTb_bd h0 ht).1 X.m (formed_n h.f).2 with g1 | ⟨j, j1, j2, j3, j4⟩
    · refine .inl ?_
      rw [e1, e2, f1, f2, hS, g1, h.s _ ht]
      exact ⟨rfl, rfl⟩
    · obtain ⟨k1, k2⟩ := h.c j j1 (by rw [j2]; exact ht)
      rw [j2] at k1
      refine .inr ⟨by rw [← hr]; exact ldA_par hi h0 (by omega) k1, ?_, ?_⟩
      · rw [e1, hS, j3]; rfl
      · rw [e2, hS, j3, j4, k2]; rfl
  exact ⟨j1, h1, h2⟩
theorem crash_full {X0 : Dst} {j0 : Nat} {K : Nat → Bool} {P : Nat → Int} {r : Int} (h : Cl n X0 X) (h0 : halfN n ≠ 0) (hm : X0.m = 0) (hd : X0.d = false) (hj : ldI n X0 4 = some j0) (hr : r = (tkA (ldV n X0 j0) + 1) % 2) (hP : tkOk n P = true) (hg : tkA P = tkA (ldV n X0 j0) + 1)
    (c0 : lyC n (halfN n) r P X 0 = 0) (hb : ¬ bad (lyC n (halfN n) r P X 1)) (he : dFlE n (lyX' n (halfN n) r P X) = 0) : ∃ j1, ldI n (cr (dFl n (lyX' n (halfN n) r P X)) K) 4 = some j1 ∧ ldV n (cr (dFl n (lyX' n (halfN n) r P X)) K) j1 = P := by
  have hr2 : 0 ≤ r ∧ r < 2 := by omega
  obtain ⟨t1, t2⟩ := ly_there h.f h0 hr2 c0 hb he
  have hT : Tb n X0 r P (lyX' n (halfN n) r P X) := h.tb.ly
  obtain ⟨hk, _, _⟩ := up_fl he
  generalize lyX' n (halfN n) r P X = L at t1 t2 hT hk he
  have hSS : (cr (dFl n L) K).S = stS L.S L.C (fun _ => true) L.m := by
    show stS (dFl n L).S (dFl n L).C K (dFl n L).m = _
    rw [t2]
    show flS n L.m L.S L.C L.f L.d = _
    unfold flS
    rw [hk]
    rfl
  have hSr : ((cr (dFl n L) K).S r.toNat).noRead = false ∧ ((cr (dFl n L) K).S r.toNat).data = P := by
    have e : (cr (dFl n L) K).S = (dFl n L).S := by
      show stS (dFl n L).S (dFl n L).C K (dFl n L).m = _
      rw [t2]
      rfl
    unfold lk at t1
    rw [t2] at t1
    simp only [lastW] at t1
    rw [e]
    exact ⟨congrArg Prod.fst t1, congrArg Prod.snd t1⟩
  obtain ⟨j1, h1, _, h3⟩ := load_two (Z := cr (dFl n L) K) hj hP hg fun i hi => by
    have ht := ldA_tb (n := n) hi
    obtain ⟨e1, e2⟩ := ld_at (X := cr (dFl n L) K) hi h0 rfl rfl
    obtain ⟨f1, f2⟩ := ld_at hi h0 hm hd
    rw [hSS] at e1 e2
    rcases st_at (n := n) (S := L.S) (C := L.C) (K := fun _ => true) (isTb_bd h0 ht).1 L.m (formed_n hT.f).2 with g1 | ⟨j, j1, j2, j3, j4⟩
    · refine .inl ?_
      rw [e1, e2, f1, f2, g1, hT.s _ ht]
      exact ⟨rfl, rfl⟩
    · obtain ⟨k1, k2⟩ := hT.c j j1 (by rw [j2]; exact ht)
      rw [j2] at k1
      refine .inr ⟨by rw [← hr]; exact ldA_par hi h0 hr2 k1, ?_, ?_⟩
      · rw [e1, j3]; rfl
      · rw [e2, j3, j4, k2]; rfl
  refine ⟨j1, h1, h3 ?_⟩
  have hi : r.toNat < 4 := by omega
  have ha : ldA n r.toNat = r := by
    unfold ldA
    have : r = 0 ∨ r = 1 := by omega
    rcases this with e | e <;> rw [e] <;> simp
  obtain ⟨e1, e2⟩ := ld_at (X := cr (dFl n L) K) hi h0 rfl rfl
  rw [ha] at e1 e2
  refine ⟨r.toNat, hi, by omega, ?_, ?_⟩
  · rw [e1, hSr.1]; rfl
  · rw [e2, hSr.1, hSr.2]; rfl
end
end Rm
end Go.Proofs.YtllejfnmbpjhaaaDoor
