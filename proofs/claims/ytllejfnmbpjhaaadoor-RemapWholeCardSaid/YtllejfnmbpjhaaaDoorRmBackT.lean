/- remap: a table that is put is taken as it was: the numbers alone. -/
import Derived.Test.YtllejfnmbpjhaaaDoorRmTake
namespace Go.Proofs.YtllejfnmbpjhaaaDoor
set_option maxRecDepth 20000
namespace Rm
open Go.RowKit Dk Byt Eqb

theorem put_takeK (n : Nat) (a k z : Int) (f : Nat → Int) (h : Wd.putGood n a k z) (hz : z ≤ 9223372036854775807) : Wd.takeN n a k (Wd.putF n a k z f) = z ∧ Wd.takeE n a k (Wd.putF n a k z f) = 0 := by
  have hg := h
  obtain ⟨h1, h2, h3, h4, h5, h6⟩ := h
  have hr : Wd.rightAt n a k 8 := ⟨h1, h2, h3, h4⟩
  have e : Wd.takeS a k (Wd.putF n a k z f) = z := by
    unfold Wd.takeS Wd.putF
    rw [if_pos hg, Wd.sumLE_congr (g := Wd.byteAt z) (fun i hi => by rw [mix_in (by omega) (by omega), Nat.add_sub_cancel_left]), Wd.sumLE_byteAt]
    have hp := Wd.pow8_pos k.toNat
    have hlt : z < 2 ^ (8 * k.toNat) := by
      by_cases hl : z < 2 ^ (8 * k.toNat)
      · exact hl
      · have := Int.ediv_le_ediv hp (show (2 : Int) ^ (8 * k.toNat) ≤ z by omega)
        rw [Int.ediv_self (by omega), h6] at this
        omega
    exact Int.emod_eq_of_lt h5 hlt
  unfold Wd.takeN Wd.takeE
  rw [e, if_pos hr, if_pos hr, if_pos hz, if_pos hz]
  exact ⟨rfl, rfl⟩
theorem takeK_congr {n : Nat} {a k : Int} {f g : Nat → Int} (h : ∀ i, i < k.toNat → f (a.toNat + i) = g (a.toNat + i)) : Wd.takeN n a k f = Wd.takeN n a k g ∧ Wd.takeE n a k f = Wd.takeE n a k g := by
  have e : Wd.takeS a k f = Wd.takeS a k g := Wd.sumLE_congr fun i hi => h i hi
  unfold Wd.takeN Wd.takeE
  rw [e]
  exact ⟨rfl, rfl⟩
theorem putF_at {n : Nat} {a k z : Int} {f : Nat → Int} {i : Nat} (hi : (i : Int) < a ∨ a + k ≤ i) (ha : 0 ≤ a) (_ : 0 ≤ k) : Wd.putF n a k z f i = f i := by
  unfold Wd.putF
  split
  · exact mix_out (by omega)
  · rfl
theorem pow2_8 : (2 : Int) ^ (8 * (2 : Int).toNat) = 65536 := by decide
theorem pow8_8 : (2 : Int) ^ (8 * (8 : Int).toNat) = 18446744073709551616 := by decide

theorem pairs_out {F T D : Nat → Int} {i : Nat} : ∀ j : Nat, i < 10 ∨ 10 + 4 * j ≤ i → pairsD F T D j i = D i
  | 0, _ => rfl
  | j + 1, h => by
    simp only [pairsD]
    rw [putF_at (by omega) (by omega) (by omega), putF_at (by omega) (by omega) (by omega)]
    exact pairs_out j (by omega)
theorem pairs_more {F T D : Nat → Int} {i j : Nat} (hi : i < 10 + 4 * j) : ∀ q : Nat, pairsD F T D (j + q) i = pairsD F T D j i
  | 0 => rfl
  | q + 1 => by
    show Wd.putF 128 (12 + 4 * ((j + q : Nat) : Int)) 2 (T (j + q)) (Wd.putF 128 (10 + 4 * ((j + q : Nat) : Int)) 2 (F (j + q)) (pairsD F T D (j + q))) i = _
    rw [putF_at (by omega) (by omega) (by omega), putF_at (by omega) (by omega) (by omega)]
    exact pairs_more hi q
theorem pairs_congr {F T F' T' D : Nat → Int} : ∀ k : Nat, (∀ i, i < k → F i = F' i ∧ T i = T' i) → pairsD F T D k = pairsD F' T' D k
  | 0, _ => rfl
  | k + 1, h => by
    simp only [pairsD]
    rw [pairs_congr k fun i hi => h i (by omega), (h k (by omega)).1, (h k (by omega)).2]
theorem noneB_congr {F G : Nat → Int} {x : Int} : ∀ k, (∀ i, i < k → F i = G i) → noneB F x k = noneB G x k
  | 0, _ => rfl
  | k + 1, h => by
    simp only [noneB]
    rw [noneB_congr k fun i hi => h i (by omega), h k (by omega)]
theorem distB_congr {F G : Nat → Int} : ∀ k, (∀ i, i < k → F i = G i) → distB F k = distB G k
  | 0, _ => rfl
  | k + 1, h => by
    simp only [distB]
    rw [distB_congr k fun i hi => h i (by omega), noneB_congr k fun i hi => h i (by omega), h k (by omega)]
theorem pairsB_congr {a b : Int} {F T F' T' : Nat → Int} : ∀ k, (∀ i, i < k → F i = F' i ∧ T i = T' i) → pairsB a b F T k = pairsB a b F' T' k
  | 0, _ => rfl
  | k + 1, h => by
    simp only [pairsB]
    rw [pairsB_congr k fun i hi => h i (by omega), (h k (by omega)).1, (h k (by omega)).2]
theorem rightB_congr {s gen : Int} {k : Nat} {F T F' T' : Nat → Int} (h : ∀ i, i < k → F i = F' i ∧ T i = T' i) : rightB s gen k F T = rightB s gen k F' T' := by
  unfold rightB
  rw [pairsB_congr k h, distB_congr k fun i hi => (h i hi).1, distB_congr k fun i hi => (h i hi).2]
theorem putV_congr {s gen : Int} {k : Nat} {F T F' T' : Nat → Int} (h : ∀ i, i < k → F i = F' i ∧ T i = T' i) : putV s gen k F T = putV s gen k F' T' ∧ putEr s gen k F T = putEr s gen k F' T' := by
  unfold putV putEr tabD
  rw [rightB_congr h, pairs_congr k h]
  exact ⟨rfl, rfl⟩

theorem put_taken {s gen : Int} {k : Nat} {F T : Nat → Int} (hr : rightB s gen k F T = true) :
    tkOk s (putV s gen k F T) = true ∧ tkA (putV s gen k F T) = gen ∧ tkK (putV s gen k F T) = k ∧ ∀ i, i < k → tkF (putV s gen k F T) i = F i ∧ tkT (putV s gen k F T) i = T i := by
  obtain ⟨h0, g0, g1, hk, hp, _, _⟩ := right_parts hr
  obtain ⟨_, b1, hh⟩ := halfN_bd s
  obtain ⟨h4, hn⟩ := hh h0
  have hp' := pairsB_iff.1 hp
  have hD : putV s gen k F T = mix (tabD gen k F T) 96 32 (Sha.sumB (Sha.sumS (tab 96 (tabD gen k F T)))) := by unfold putV sealD; rw [if_pos hr]
  have out : ∀ i : Nat, i < 96 → putV s gen k F T i = tabD gen k F T i := fun i hi => by rw [hD]; exact mix_out (by omega)
  have hb : ∀ i, i < k → (0 ≤ F i ∧ F i < 65536) ∧ 0 ≤ T i ∧ T i < 65536 := fun i hi => by
    have h1 := hp' i hi
    unfold pairB at h1
    simp only [Bool.and_eq_true, decide_eq_true_eq] at h1
    obtain ⟨⟨h2, h3⟩, h5⟩ := h1
    obtain ⟨l0, l1, _⟩ := lent_bd h2
    omega
  have e9 : putV s gen k F T 9 = k := by
    rw [out 9 (by omega)]
    unfold tabD
    rw [pairs_out k (by omega)]
    simp [head, put]
  have e1 : ∀ i, i < (8 : Int).toNat → putV s gen k F T ((1 : Int).toNat + i) = Wd.putF 128 1 8 gen (put (fun _ => 0) 0 109) ((1 : Int).toNat + i) := fun i hi => by
    have hi' : i < 8 := hi
    rw [out _ (by show 1 + i < 96; omega)]
    unfold tabD
    rw [pairs_out k (by show 1 + i < 10 ∨ _; omega)]
    unfold head put
    rw [if_neg (by show ¬ (1 + i = 9); omega)]
  have gg : Wd.putGood (128 : Nat) 1 8 gen := ⟨by omega, by omega, by omega, by omega, g0, by rw [pow8_8]; omega⟩
  obtain ⟨t1, t2⟩ := put_takeK 128 1 8 gen (put (fun _ => 0) 0 109) gg (by omega)
  obtain ⟨c1, c2⟩ := takeK_congr (n := 128) (a := 1) (k := 8) e1
  have eA : tkA (putV s gen k F T) = gen := c1.trans t1
  have eE : Wd.takeE 128 1 8 (putV s gen k F T) = 0 := c2.trans t2
  have eK : tkK (putV s gen k F T) = k := by unfold tkK; rw [e9]; simp
  have ePr : ∀ i, i < k → tkF (putV s gen k F T) i = F i ∧ tkT (putV s gen k F T) i = T i := fun i hi => by
    obtain ⟨⟨f0, f1⟩, u0, u1⟩ := hb i hi
    have gF : Wd.putGood (128 : Nat) (10 + 4 * (i : Int)) 2 (F i) := ⟨by omega, by omega, by omega, by omega, f0, by rw [pow2_8]; omega⟩
    have gT : Wd.putGood (128 : Nat) (12 + 4 * (i : Int)) 2 (T i) := ⟨by omega, by omega, by omega, by omega, u0, by rw [pow2_8]; omega⟩
    obtain ⟨q, hq⟩ : ∃ q, k = (i + 1) + q := ⟨k - (i + 1), by omega⟩
    have at' : ∀ j : Nat, j < 10 + 4 * (i + 1) → j < 96 → putV s gen k F T j = pairsD F T (head gen k) (i + 1) j := fun j hj hj' => by
      rw [out j hj']
      unfold tabD
      rw [show pairsD F T (head gen k) k = pairsD F T (head gen k) ((i + 1) + q) by rw [← hq]]
      exact pairs_more hj q
    refine ⟨?_, ?_⟩
    · unfold tkF
      rw [(takeK_congr (g := Wd.putF 128 (10 + 4 * (i : Int)) 2 (F i) (pairsD F T (head gen k) i)) fun j hj => ?_).1]
      · exact (put_takeK 128 _ 2 _ _ gF (by omega)).1
      · have hj' : j < 2 := hj
        rw [at' _ (by omega) (by omega)]
        simp only [pairsD]
        exact putF_at (by omega) (by omega) (by omega)
    · unfold tkT
      rw [(takeK_congr (g := Wd.putF 128 (12 + 4 * (i : Int)) 2 (T i) (Wd.putF 128 (10 + 4 * (i : Int)) 2 (F i) (pairsD F T (head gen k) i))) fun j hj => ?_).1]
      · exact (put_takeK 128 _ 2 _ _ gT (by omega)).1
      · have hj' : j < 2 := hj
        rw [at' _ (by omega) (by omega)]
        simp only [pairsD]
  refine ⟨?_, eA, eK, ePr⟩
  obtain ⟨v1, v2⟩ := putV_congr (s := s) (gen := gen) (k := k) (F := tkF (putV s gen k F T)) (T := tkT (putV s gen k F T)) (F' := F) (T' := T) ePr
  have hz : putEr s gen k F T = 0 := by unfold putEr; rw [if_pos hr]
  unfold tkOk
  rw [eA, eK, v1, v2, eE, e9, hz, eqB_same, decide_eq_true (show (k : Int) ≤ 20 by omega)]
  rfl
theorem putF_byt {n : Nat} {a k z : Int} {f : Nat → Int} (h : ∀ i, 0 ≤ f i ∧ f i < 256) (i : Nat) : 0 ≤ Wd.putF n a k z f i ∧ Wd.putF n a k z f i < 256 := by
  unfold Wd.putF
  split
  · unfold mix
    split
    · exact Wd.byteAt_bd _ _
    · exact h i
  · exact h i
theorem put_byt {j : Nat} {z : Int} {f : Nat → Int} (h : ∀ i, 0 ≤ f i ∧ f i < 256) (hz : 0 ≤ z ∧ z < 256) (i : Nat) : 0 ≤ put f j z i ∧ put f j z i < 256 := by
  unfold put
  split
  · exact hz
  · exact h i
theorem pairs_byt {F T D : Nat → Int} (h : ∀ i, 0 ≤ D i ∧ D i < 256) : ∀ k i, 0 ≤ pairsD F T D k i ∧ pairsD F T D k i < 256
  | 0, i => h i
  | k + 1, i => by
    simp only [pairsD]
    exact putF_byt (putF_byt (pairs_byt h k)) i
theorem putV_byt (s gen : Int) (k : Nat) (F T : Nat → Int) (i : Nat) : 0 ≤ putV s gen k F T i ∧ putV s gen k F T i < 256 := by
  unfold putV
  split
  · rename_i hr
    obtain ⟨_, _, _, hk, _⟩ := right_parts hr
    unfold sealD mix
    split
    · unfold Sha.sumB
      omega
    · unfold tabD head
      exact pairs_byt (put_byt (putF_byt (put_byt (fun _ => ⟨Int.le_refl 0, (by decide : (0 : Int) < 256)⟩) (by omega))) (by omega)) _ _
  · exact ⟨Int.le_refl 0, (by decide : (0 : Int) < 256)⟩
/-- .. and what Take answers of it -/
theorem tk_back {s gen : Int} {k : Nat} {F T : Nat → Int} (h : putEr s gen k F T = 0) : tkE s (putV s gen k F T) = 0 ∧ tkG s (putV s gen k F T) = gen ∧ tkN s (putV s gen k F T) = k ∧ ∀ i, i < k → tkF (putV s gen k F T) i = F i ∧ tkT (putV s gen k F T) i = T i := by
  have hr : rightB s gen k F T = true := by
    unfold putEr at h
    split at h
    · assumption
    · omega
  obtain ⟨h1, h2, h3, h4⟩ := put_taken hr
  obtain ⟨g1, g2, g3⟩ := tk_y h1
  exact ⟨g3, g1.trans h2, g2.trans h3, h4⟩
end Rm
end Go.Proofs.YtllejfnmbpjhaaaDoor
