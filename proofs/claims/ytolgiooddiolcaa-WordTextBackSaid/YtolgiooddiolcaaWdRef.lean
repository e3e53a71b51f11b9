/- The reference of word: right, Fits, Put, Take, Zero, PutText, TakeText. -/
import Derived.Test.YtolgiooddiolcaaWdText
namespace Go.Proofs.Ytolgiooddiolcaa
namespace WdRef
open Go.RowKit Byt Wd Go.PlainAid

theorem ret_yes {p : Prop} [Decidable p] (h : p) : Ending.returned (.bool (decide p)) = .returned (.bool true) := by rw [decide_eq_true h]
theorem ret_no {p : Prop} [Decidable p] (h : ¬ p) : Ending.returned (.bool (decide p)) = .returned (.bool false) := by rw [decide_eq_false h]

theorem right_yes (ao : Option Addr) (n cap a k : Nat) (w : World) (hn : n ≤ 140737488355328) (h : a + k ≤ n) :
    Calls Try.prog 22 #[.slice ao n cap, .int .i64 a, .int .i64 k] w fun e w' => e = .returned (.bool true) ∧ w = w' := by
  go_enter Try.func22, Try.ntmps22
  go_wp2
  go_ret
  exact ⟨ret_yes (by omega), rfl⟩
theorem right_no (ao : Option Addr) (n cap : Nat) (a k : Int) (w : World) (hn : n ≤ 140737488355328) (h : a < 0 ∨ a > n - k) (hk : 1 ≤ k) :
    Calls Try.prog 22 #[.slice ao n cap, .int .i64 a, .int .i64 k] w fun e w' => e = .returned (.bool false) ∧ w = w' := by
  rcases (show a < 0 ∨ (0 ≤ a ∧ n < a) ∨ (0 ≤ a ∧ a ≤ n ∧ n - a < k) by omega) with h | h | h
  all_goals
    go_enter Try.func22, Try.ntmps22
    go_wp2
    go_ret
    first | exact ⟨rfl, rfl⟩ | exact ⟨ret_no (by omega), rfl⟩

theorem fits_yes (z : Int) (k : Nat) (w : World) (h0 : 0 ≤ z) (hk : k ≤ 8) (h : z / 2 ^ (8 * k) = 0) :
    Calls Try.prog 23 #[.int .i64 z, .int .i64 k] w fun e w' => e = .returned (.bool true) ∧ w = w' := by
  go_enter Try.func23, Try.ntmps23
  go_wp2
  all_goals
    go_ret
    exact ⟨rfl, rfl⟩
theorem fits_no (z : Int) (k : Nat) (w : World) (hk : k ≤ 8) (hz : z ≤ 9223372036854775807) (h : z < 0 ∨ z / 2 ^ (8 * k) ≠ 0) :
    Calls Try.prog 23 #[.int .i64 z, .int .i64 k] w fun e w' => e = .returned (.bool false) ∧ w = w' := by
  have h2 : z < 0 ∨ (0 ≤ z ∧ k < 8 ∧ (z / 2 ^ (8 * k) == 0) = false) := by
    by_cases h0 : z < 0
    · exact .inl h0
    · refine .inr ⟨by omega, ?_, by simpa using h.resolve_left h0⟩
      by_cases e : k = 8
      · subst e
        have := h.resolve_left h0
        have e2 : (2 : Int) ^ (8 * 8) = 18446744073709551616 := by decide
        rw [e2] at this
        omega
      · omega
  clear h
  rcases h2 with h | ⟨h0, h8, h⟩
  all_goals
    go_enter Try.func23, Try.ntmps23
    go_wp2
    go_ret
    first | exact ⟨rfl, rfl⟩ | exact ⟨ret_no (by omega), rfl⟩

set_option maxHeartbeats 400000 in
theorem put_ok (g off n cap a k : Nat) (z : Int) (f : Nat → Int) (w : World) (hr : Row w g off n f) (hc : n ≤ cap) (hn : n ≤ 140737488355328) (h1 : 1 ≤ k) (h2 : k ≤ 8) (h3 : a + k ≤ n) (z0 : 0 ≤ z) (z1 : z / 2 ^ (8 * k) = 0) :
    Calls Try.prog 11 #[.slice (some ⟨g, off, none⟩) n cap, .int .i64 a, .int .i64 k, .int .i64 z] w fun e w' =>
      e = .returned (.int .i64 0) ∧ w.grownBy w' (some g) ∧ Row w' g off n (mix f a k (byteAt z)) := by
  have HR := Lib.hid hr
  have hf := fits_yes z k w z0 h2 z1
  clear hr z1
  go_enter Try.func11, Try.ntmps11
  go_wp2_with fail
  refine (right_yes (some ⟨g, off, none⟩) n cap a k w hn h3).mono ?_
  rintro _ _ ⟨rfl, rfl⟩
  dsimp only
  go_wp2_with fail
  refine hf.mono ?_
  rintro _ _ ⟨rfl, rfl⟩
  dsimp only
  go_wp2_with fail
  clear hf
  go_loopw [9] (fun i wr => ∃ j : Nat, j ≤ k ∧ i = .int .i64 j ∧ w.grownBy wr (some g) ∧ Row wr g off n (mix f a j (byteAt z))) (fun i _ => k - (intOf i).toNat)
  case atStart => exact ⟨0, by omega, rfl, World.grownBy.refl _ _, by rw [mix_zero]; exact HR.out⟩
  case round =>
    obtain ⟨j, hj, rfl, hG, hR⟩ := hrel
    by_cases hlt : j < k
    · have hcell := hR.cell (j := a + j) (by omega)
      have hfr := hR.free (off + (a + j))
      have HG := Lib.hid hG
      have HRR := Lib.hid hR
      clear hG hR
      go_wp2_with fail
      go_roundw
      case rel =>
        refine ⟨j + 1, by omega, by go_num, only_store HG.out _ _, ?_⟩
        have := HRR.out.store (a + j) (byteAt z j)
        rw [put_mix] at this
        exact this
      case measure => simp [intOf]; omega
    · obtain rfl : j = k := by omega
      go_wp2_with fail
      go_ret
      exact ⟨rfl, hG, hR⟩

set_option maxHeartbeats 400000 in
theorem put_no (ao : Option Addr) (n cap : Nat) (a k z : Int) (w : World) (hn : n ≤ 140737488355328) (hz : z ≤ 9223372036854775807) (h : k < 1 ∨ k > 8 ∨ a < 0 ∨ a > n - k ∨ z < 0 ∨ z / 2 ^ (8 * k.toNat) ≠ 0) :
    Calls Try.prog 11 #[.slice ao n cap, .int .i64 a, .int .i64 k, .int .i64 z] w fun e w' => e = .returned (.int .i64 1) ∧ w = w' := by
  by_cases hp : k < 1 ∨ k > 8
  · clear h hz
    go_enter Try.func11, Try.ntmps11
    go_wp2_with fail
    all_goals
      go_ret
      exact ⟨rfl, rfl⟩
  by_cases hr : a < 0 ∨ a > n - k
  · have hr' := right_no ao n cap a k w hn hr (by omega)
    clear h hr hz
    go_enter Try.func11, Try.ntmps11
    go_wp2_with fail
    refine hr'.mono ?_
    rintro _ _ ⟨rfl, rfl⟩
    dsimp only
    go_wp2_with fail
    go_ret
    exact ⟨rfl, rfl⟩
  · obtain ⟨a, rfl⟩ : ∃ m : Nat, a = m := ⟨a.toNat, by omega⟩
    obtain ⟨k, rfl⟩ : ∃ m : Nat, k = m := ⟨k.toNat, by omega⟩
    have hr' := right_yes ao n cap a k w hn (by omega)
    have hf := fits_no z k w (by omega) hz (by rw [Int.toNat_natCast] at h; omega)
    clear h hr hz
    go_enter Try.func11, Try.ntmps11
    go_wp2_with fail
    refine hr'.mono ?_
    rintro _ _ ⟨rfl, rfl⟩
    dsimp only
    go_wp2_with fail
    refine hf.mono ?_
    rintro _ _ ⟨rfl, rfl⟩
    dsimp only
    go_wp2_with fail
    go_ret
    exact ⟨rfl, rfl⟩

set_option maxHeartbeats 400000 in
theorem take_ok (g off n cap a k : Nat) (f : Nat → Int) (w : World) (hr : ∀ j, j < n → w.cell? ⟨g, off + j, none⟩ = some (.int .u8 (f j))) (hf : ∀ j, j < n → 0 ≤ f j ∧ f j < 256) (hc : n ≤ cap) (hn : n ≤ 140737488355328) (h1 : 1 ≤ k) (h2 : k ≤ 8) (h3 : a + k ≤ n) :
    Calls Try.prog 14 #[.slice (some ⟨g, off, none⟩) n cap, .int .i64 a, .int .i64 k] w fun e w' =>
      e = .returned (takeVal (sumLE (fun i => f (a + i)) k)) ∧ w = w' := by
  have HR := Lib.hid hr
  have HF := Lib.hid hf
  clear hr hf
  rw [← sumHi_all]
  obtain ⟨F, hF⟩ : ∃ F : Nat → Int, F = fun i => f (a + i) := ⟨_, rfl⟩
  rw [← hF]
  have HC : Hid (∀ j, j < k → w.cell? ⟨g, off + (a + j), none⟩ = some (.int .u8 (F j))) := Lib.hid fun j hj => by rw [HR.out _ (by omega), hF]
  have HB : Hid (∀ j, j < k → 0 ≤ F j ∧ F j < 256) := Lib.hid fun j hj => by rw [hF]; exact HF.out _ (by omega)
  clear hF HR HF
  go_enter Try.func14, Try.ntmps14
  go_wp2_with fail
  refine (right_yes (some ⟨g, off, none⟩) n cap a k w hn h3).mono ?_
  rintro _ _ ⟨rfl, rfl⟩
  dsimp only
  go_wp2_with fail
  go_loop [8, 9] (fun v i => ∃ j : Nat, j ≤ k ∧ i = .int .i64 ((j : Int) - 1) ∧ v = .int .u64 (sumHi F j (k - j))) (fun _ i => (intOf i + 1).toNat)
  case atStart => exact ⟨k, by omega, rfl, by rw [Nat.sub_self]; rfl⟩
  case round =>
    obtain ⟨j, hj, rfl, rfl⟩ := hrel
    by_cases hlt : 1 ≤ j
    · obtain ⟨j, rfl⟩ : ∃ i, j = i + 1 := ⟨j - 1, by omega⟩
      have hb := sumHi_bd F (k - (j + 1)) (j + 1) (fun i hi => HB.out i (by omega))
      have hp := pow_le7 (k - (j + 1)) (by omega)
      have hcell := HC.out j (by omega)
      have hx := HB.out j (by omega)
      have hs : 0 ≤ sumHi F (j + 1) (k - (j + 1)) ∧ sumHi F (j + 1) (k - (j + 1)) ≤ 72057594037927935 := by omega
      have he : Hid (sumHi F j (k - j) = sumHi F (j + 1) (k - (j + 1)) * 256 + F j) := Lib.hid (by rw [show k - j = k - (j + 1) + 1 by omega]; rfl)
      clear hb hp
      generalize sumHi F (j + 1) (k - (j + 1)) = S at hs he ⊢
      rw [show (((j + 1 : Nat) : Int) - 1) = (j : Int) by omega]
      go_wp2_with fail
      go_round
      case rel => exact ⟨j, by omega, rfl, by rw [he.out]⟩
      case measure => simp [intOf]
    · obtain rfl : j = 0 := by omega
      rw [Nat.sub_zero]
      have hb := sumHi_bd F k 0 (fun i hi => HB.out i (by omega))
      have h64 := pow_le k h2
      by_cases hbig : sumHi F 0 k ≤ 9223372036854775807
      · have he := Lib.hid (takeVal_small hbig)
        go_wp2_with fail
        go_ret2
        exact ⟨congrArg Ending.returned he.out.symm, rfl⟩
      · have he := Lib.hid (takeVal_big hbig)
        go_wp2_with fail
        go_ret2
        exact ⟨congrArg Ending.returned he.out.symm, rfl⟩

end WdRef
end Go.Proofs.Ytolgiooddiolcaa
