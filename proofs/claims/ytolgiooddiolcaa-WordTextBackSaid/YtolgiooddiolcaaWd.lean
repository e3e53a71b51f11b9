/- word: place, Put, Take, Zero. -/
import Derived.Test.YtolgiooddiolcaaRow
import Derived.Test.YtolgiooddiolcaaWdMath
import Derived.BigQuiet
import Derived.Deep.QuietTactic
import Derived.Outline
namespace Go.Proofs.Ytolgiooddiolcaa
namespace Wd
open Go.RowKit Byt

set_option maxHeartbeats 400000 in
theorem place_ok (g off n cap a k : Nat) (most : Int) (w : World) (hc : n ≤ cap) (hn : n ≤ 140737488355328) (h1 : 1 ≤ k) (h2 : (k : Int) ≤ most) (h3 : a + k ≤ n) :
    Calls Try.prog 21 #[.slice (some ⟨g, off, none⟩) n cap, .int .i64 a, .int .i64 k, .int .i64 most] w fun e w' => e = .returned (.tuple #[.slice (some ⟨g, off + a, none⟩) k (cap - a), .bool true]) ∧ w = w' := by
  go_enter Try.func21, Try.ntmps21
  go_wp2
  go_ret2
  refine ⟨?_, rfl⟩
  show Ending.returned (.tuple #[.slice (some ⟨g, off + a, none⟩) (a + k - a) (cap - a), .bool true]) = _
  rw [Nat.add_sub_cancel_left]

set_option maxHeartbeats 400000 in
theorem place_no (ao : Option Addr) (n cap : Nat) (a k most : Int) (w : World) (hn : n ≤ 140737488355328) (hm : most ≤ 1000) (h : k < 1 ∨ k > most ∨ a < 0 ∨ a > n - k) :
    Calls Try.prog 21 #[.slice ao n cap, .int .i64 a, .int .i64 k, .int .i64 most] w fun e w' => e = .returned (.tuple #[.slice none 0 0, .bool false]) ∧ w = w' := by
  go_enter Try.func21, Try.ntmps21
  go_wp2
  all_goals
    go_ret2
    exact ⟨rfl, rfl⟩

set_option maxHeartbeats 400000 in
theorem put_ok (g off n cap a k : Nat) (z : Int) (f : Nat → Int) (w : World) (hr : Row w g off n f) (hc : n ≤ cap) (hn : n ≤ 140737488355328) (h1 : 1 ≤ k) (h2 : k ≤ 8) (h3 : a + k ≤ n) (z0 : 0 ≤ z) (z1 : z / 2 ^ (8 * k) = 0) :
    Calls Try.prog 10 #[.slice (some ⟨g, off, none⟩) n cap, .int .i64 a, .int .i64 k, .int .i64 z] w fun e w' =>
      e = .returned (.int .i64 0) ∧ w.grownBy w' (some g) ∧ Row w' g off n (mix f a k (byteAt z)) := by
  have HR := Lib.hid hr
  clear hr
  go_enter Try.func10, Try.ntmps10
  go_wp2_with fail
  refine (place_ok g off n cap a k 8 w hc hn h1 (by omega) h3).mono ?_
  rintro _ _ ⟨rfl, rfl⟩
  dsimp only
  go_wp2_with fail
  clear z1
  go_loopw [34] (fun i wr => ∃ j : Nat, j ≤ k ∧ i = .int .i64 j ∧ w.grownBy wr (some g) ∧ Row wr g off n (mix f a j (byteAt z))) (fun i _ => k - (intOf i).toNat)
  case atStart => exact ⟨0, by omega, rfl, World.grownBy.refl _ _, by rw [mix_zero]; exact HR.out⟩
  case round =>
    obtain ⟨j, hj, rfl, hG, hR⟩ := hrel
    by_cases hlt : j < k
    · have hcell := hR.cell (j := a + j) (by omega)
      have hfr := hR.free (off + (a + j))
      rw [← Nat.add_assoc] at hcell hfr
      have HG := Lib.hid hG
      have HRR := Lib.hid hR
      clear hG hR
      go_wp2_with fail
      go_roundw
      case rel =>
        refine ⟨j + 1, by omega, by go_num, only_store HG.out _ _, ?_⟩
        have := HRR.out.store (a + j) (byteAt z j)
        rw [put_mix] at this
        rw [← Nat.add_assoc] at this
        exact this
      case measure => simp [intOf]; omega
    · obtain rfl : j = k := by omega
      go_wp2_with fail
      go_ret
      exact ⟨rfl, hG, hR⟩

set_option maxHeartbeats 400000 in
theorem put_no (ao : Option Addr) (n cap : Nat) (a k z : Int) (w : World) (hn : n ≤ 140737488355328) (h : k < 1 ∨ k > 8 ∨ a < 0 ∨ a > n - k ∨ z < 0 ∨ z / 2 ^ (8 * k.toNat) ≠ 0) (hg : n = 0 ∨ ∃ g off, ao = some ⟨g, off, none⟩) (hc : n ≤ cap) :
    Calls Try.prog 10 #[.slice ao n cap, .int .i64 a, .int .i64 k, .int .i64 z] w fun e w' => e = .returned (.int .i64 1) ∧ w = w' := by
  by_cases hp : k < 1 ∨ k > 8 ∨ a < 0 ∨ a > n - k
  · clear h
    have hp' := place_no ao n cap a k 8 w hn (by omega) hp
    clear hp
    go_enter Try.func10, Try.ntmps10
    go_wp2_with fail
    refine hp'.mono ?_
    rintro _ _ ⟨rfl, rfl⟩
    dsimp only
    go_wp2_with fail
    go_ret
    exact ⟨rfl, rfl⟩
  · obtain ⟨a, rfl⟩ : ∃ m : Nat, a = m := ⟨a.toNat, by omega⟩
    obtain ⟨k, rfl⟩ : ∃ m : Nat, k = m := ⟨k.toNat, by omega⟩
    obtain ⟨g, off, rfl⟩ : ∃ g off, ao = some ⟨g, off, none⟩ := hg.resolve_left (by omega)
    have hz : z < 0 ∨ (0 ≤ z ∧ z / 2 ^ (8 * k) ≠ 0) := by
      rw [Int.toNat_natCast] at h
      omega
    have hp' := place_ok g off n cap a k 8 w hc hn (by omega) (by omega) (by omega)
    have hz2 : z < 0 ∨ (0 ≤ z ∧ (z / 2 ^ (8 * k) != 0) = true) := by simpa using hz
    clear hz
    have hk8 : k ≤ 8 := by omega
    rcases hz2 with hz | ⟨hz, hz'⟩
    all_goals
      clear h hp hg
      go_enter Try.func10, Try.ntmps10
      go_wp2_with fail
      refine hp'.mono ?_
      rintro _ _ ⟨rfl, rfl⟩
      dsimp only
      go_wp2_with fail
      go_ret
      exact ⟨rfl, rfl⟩

def takeVal (s : Int) : Value := if s ≤ 9223372036854775807 then .tuple #[.int .i64 s, .int .i64 0] else .tuple #[.int .i64 0, .int .i64 15]
theorem takeVal_small {s : Int} (h : s ≤ 9223372036854775807) : takeVal s = .tuple #[.int .i64 s, .int .i64 0] := by unfold takeVal; rw [if_pos h]
theorem takeVal_big {s : Int} (h : ¬ s ≤ 9223372036854775807) : takeVal s = .tuple #[.int .i64 0, .int .i64 15] := by unfold takeVal; rw [if_neg h]

set_option maxHeartbeats 400000 in
theorem take_ok (g off n cap a k : Nat) (f : Nat → Int) (w : World) (hr : ∀ j, j < n → w.cell? ⟨g, off + j, none⟩ = some (.int .u8 (f j))) (hf : ∀ j, j < n → 0 ≤ f j ∧ f j < 256) (hc : n ≤ cap) (hn : n ≤ 140737488355328) (h1 : 1 ≤ k) (h2 : k ≤ 8) (h3 : a + k ≤ n) :
    Calls Try.prog 13 #[.slice (some ⟨g, off, none⟩) n cap, .int .i64 a, .int .i64 k] w fun e w' =>
      e = .returned (takeVal (sumLE (fun i => f (a + i)) k)) ∧ w = w' := by
  have HR := Lib.hid hr
  have HF := Lib.hid hf
  clear hr hf
  obtain ⟨F, hF⟩ : ∃ F : Nat → Int, F = fun i => f (a + i) := ⟨_, rfl⟩
  rw [← hF]
  have HC : Hid (∀ j, j < k → w.cell? ⟨g, off + a + j, none⟩ = some (.int .u8 (F j))) := Lib.hid fun j hj => by rw [Nat.add_assoc, HR.out _ (by omega), hF]
  have HB : Hid (∀ j, j < k → 0 ≤ F j ∧ F j < 256) := Lib.hid fun j hj => by rw [hF]; exact HF.out _ (by omega)
  clear hF HR HF
  go_enter Try.func13, Try.ntmps13
  go_wp2_with fail
  refine (place_ok g off n cap a k 8 w hc hn h1 (by omega) h3).mono ?_
  rintro _ _ ⟨rfl, rfl⟩
  dsimp only
  go_wp2_with fail
  go_loop [10, 24] (fun v i => ∃ j : Nat, j ≤ k ∧ i = .int .i64 j ∧ v = .int .u64 (sumLE F j)) (fun _ i => k - (intOf i).toNat)
  case atStart => exact ⟨0, by omega, rfl, rfl⟩
  case round =>
    obtain ⟨j, hj, rfl, rfl⟩ := hrel
    have hb := sumLE_bd F j (fun i hi => HB.out i (by omega))
    by_cases hlt : j < k
    · have hcell := HC.out j hlt
      have hx := HB.out j hlt
      have hor := or_step (sumLE F j) (F j) j hb hx (by omega)
      have h0 : 0 ≤ F j * 2 ^ (8 * j) := Int.mul_nonneg hx.1 (by have := pow8_pos j; omega)
      have hm : F j * 2 ^ (8 * j) ≤ 18446744073709551615 := by
        have h1 := pow_le (j + 1) (by omega)
        rw [pow8] at h1
        have h2 : F j * 2 ^ (8 * j) ≤ 255 * 2 ^ (8 * j) := Int.mul_le_mul_of_nonneg_right (by omega) (by have := pow8_pos j; omega)
        have := pow8_pos j
        omega
      go_wp2_with fail
      go_round
      case rel => exact ⟨j + 1, by omega, by go_num, rfl⟩
      case measure => simp [intOf]; omega
    · obtain rfl : j = k := by omega
      have h64 := pow_le j h2
      by_cases hbig : sumLE F j ≤ 9223372036854775807
      · have he := Lib.hid (takeVal_small hbig)
        go_wp2_with fail
        go_ret2
        exact ⟨congrArg Ending.returned he.out.symm, rfl⟩
      · have he := Lib.hid (takeVal_big hbig)
        go_wp2_with fail
        go_ret2
        exact ⟨congrArg Ending.returned he.out.symm, rfl⟩

set_option maxHeartbeats 400000 in
theorem take_no (ao : Option Addr) (n cap : Nat) (a k : Int) (w : World) (hn : n ≤ 140737488355328) (h : k < 1 ∨ k > 8 ∨ a < 0 ∨ a > n - k) :
    Calls Try.prog 13 #[.slice ao n cap, .int .i64 a, .int .i64 k] w fun e w' => e = .returned (.tuple #[.int .i64 0, .int .i64 1]) ∧ w = w' := by
  have hp' := place_no ao n cap a k 8 w hn (by omega) h
  clear h
  go_enter Try.func13, Try.ntmps13
  go_wp2_with fail
  refine hp'.mono ?_
  rintro _ _ ⟨rfl, rfl⟩
  dsimp only
  go_wp2_with fail
  go_ret2
  exact ⟨rfl, rfl⟩

def zeroB (f : Nat → Int) : Nat → Bool
  | 0 => true
  | n + 1 => zeroB f n && (f n == 0)
theorem zeroB_true {f : Nat → Int} : ∀ {n}, zeroB f n = true ↔ ∀ i, i < n → f i = 0
  | 0 => by simp [zeroB]
  | n + 1 => by
    simp only [zeroB, Bool.and_eq_true, zeroB_true (n := n), beq_iff_eq]
    constructor
    · intro h i hi
      by_cases e : i = n
      · subst e; exact h.2
      · exact h.1 i (by omega)
    · intro h
      exact ⟨fun i hi => h i (by omega), h n (by omega)⟩
theorem zeroB_false {f : Nat → Int} {n i : Nat} (h : i < n) (hi : f i ≠ 0) : zeroB f n = false := by
  rw [Bool.eq_false_iff]
  intro e
  exact hi (zeroB_true.1 e i h)
theorem zeroB_congr {f g : Nat → Int} {n : Nat} (h : ∀ i, i < n → f i = g i) : zeroB f n = zeroB g n := by
  rw [Bool.eq_iff_iff, zeroB_true, zeroB_true]
  constructor
  · intro k i hi; rw [← h i hi]; exact k i hi
  · intro k i hi; rw [h i hi]; exact k i hi

/-- the bytes f 0 .. f (n - 1) are read at ao -/
def Reads (w : World) (ao : Option Addr) (n cap : Nat) (f : Nat → Int) : Prop := n ≤ cap ∧ (ao = none → cap = 0) ∧ (n = 0 ∨ ∃ g off, ao = some ⟨g, off, none⟩ ∧ ∀ j, j < n → w.cell? ⟨g, off + j, none⟩ = some (.int .u8 (f j)))

set_option maxHeartbeats 400000 in
theorem zero_any (ao : Option Addr) (n cap : Nat) (f : Nat → Int) (w : World) (hr : Reads w ao n cap f) (hn : n ≤ 140737488355328) :
    Calls Try.prog 15 #[.slice ao n cap] w fun e w' => e = .returned (.bool (zeroB f n)) ∧ w = w' := by
  obtain ⟨hc, _, h0 | ⟨g, off, rfl, hr⟩⟩ := hr
  · subst h0
    go_enter Try.func15, Try.ntmps15
    go_wp2_with fail
    go_rounds 1
    go_ret
    exact ⟨rfl, rfl⟩
  have HR := Lib.hid hr
  clear hr
  obtain ⟨z, hz⟩ : ∃ z, z = zeroB f n := ⟨_, rfl⟩
  rw [← hz]
  have HZ := Lib.hid hz
  clear hz
  go_enter Try.func15, Try.ntmps15
  go_wp2_with fail
  go_loop [7] (fun i => ∃ j : Nat, j ≤ n ∧ i = .int .i64 j ∧ Hid (∀ i, i < j → f i = 0)) (fun i => n - (intOf i).toNat)
  case atStart => exact ⟨0, by omega, rfl, fun i hi => by omega⟩
  case round =>
    obtain ⟨j, hj, rfl, hz⟩ := hrel
    by_cases hlt : j < n
    · have hcell := HR.out j hlt
      by_cases hx : f j = 0
      · have hz' : Hid (∀ i, i < j + 1 → f i = 0) := Lib.hid fun i hi => by
          by_cases e : i = j
          · subst e; exact hx
          · exact hz.out i (by omega)
        go_wp2_with fail
        go_round
        case rel => exact ⟨j + 1, by omega, by go_num, hz'⟩
        case measure => simp [intOf]; omega
      · have hx' : (f j != 0) = true := by simpa using hx
        have hz' := Lib.hid (zeroB_false hlt hx)
        clear hx
        go_wp2_with fail
        go_ret
        exact ⟨congrArg (fun b => Ending.returned (.bool b)) (HZ.out.trans hz'.out).symm, rfl⟩
    · obtain rfl : j = n := by omega
      have hz' := Lib.hid (zeroB_true.2 hz.out)
      go_wp2_with fail
      go_ret
      exact ⟨congrArg (fun b => Ending.returned (.bool b)) (HZ.out.trans hz'.out).symm, rfl⟩

end Wd
end Go.Proofs.Ytolgiooddiolcaa
