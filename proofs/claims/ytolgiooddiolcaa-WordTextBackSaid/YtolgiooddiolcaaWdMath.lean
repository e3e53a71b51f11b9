/- Numbers as bytes, the lowest first: plain mathematics. -/
import Derived.WalkKit
namespace Go.Proofs.Ytolgiooddiolcaa
namespace Wd
open Go.RowKit

def byteAt (n : Int) (i : Nat) : Int := n / 2 ^ (8 * i) % 256
theorem byteAt_bd (n : Int) (i : Nat) : 0 ≤ byteAt n i ∧ byteAt n i < 256 := by unfold byteAt; omega
def sumLE (f : Nat → Int) : Nat → Int
  | 0 => 0
  | k + 1 => sumLE f k + f k * 2 ^ (8 * k)
def sumHi (f : Nat → Int) : Nat → Nat → Int
  | _, 0 => 0
  | i, k + 1 => sumHi f (i + 1) k * 256 + f i
theorem pow8 (k : Nat) : (2 : Int) ^ (8 * (k + 1)) = 2 ^ (8 * k) * 256 := by
  rw [show 8 * (k + 1) = 8 * k + 8 by omega, Int.pow_add]; rfl
theorem pow8_pos (k : Nat) : (0 : Int) < 2 ^ (8 * k) := Int.pow_pos (by decide)
theorem sumLE_bd (f : Nat → Int) : ∀ k, (∀ i, i < k → 0 ≤ f i ∧ f i < 256) → 0 ≤ sumLE f k ∧ sumLE f k < 2 ^ (8 * k)
  | 0, _ => by simp [sumLE]
  | k + 1, h => by
    have ih := sumLE_bd f k fun i hi => h i (by omega)
    have hk := h k (by omega)
    have hp := pow8_pos k
    rw [pow8]
    simp only [sumLE]
    have h1 : 0 ≤ f k * 2 ^ (8 * k) := Int.mul_nonneg hk.1 (by omega)
    have h2 : f k * 2 ^ (8 * k) ≤ 255 * 2 ^ (8 * k) := Int.mul_le_mul_of_nonneg_right (by omega) (by omega)
    omega
theorem sumHi_bd (f : Nat → Int) : ∀ k i, (∀ j, j < i + k → 0 ≤ f j ∧ f j < 256) → 0 ≤ sumHi f i k ∧ sumHi f i k < 2 ^ (8 * k)
  | 0, _, _ => by simp [sumHi]
  | k + 1, i, h => by
    have ih := sumHi_bd f k (i + 1) fun j hj => h j (by omega)
    have hk := h i (by omega)
    rw [pow8]
    simp only [sumHi]
    omega
theorem pow_le (k : Nat) (h : k ≤ 8) : (2 : Int) ^ (8 * k) ≤ 18446744073709551616 := by
  match k, h with
  | 0, _ | 1, _ | 2, _ | 3, _ | 4, _ | 5, _ | 6, _ | 7, _ | 8, _ => decide
theorem pow_le7 (k : Nat) (h : k ≤ 7) : (2 : Int) ^ (8 * k) ≤ 72057594037927936 := by
  match k, h with
  | 0, _ | 1, _ | 2, _ | 3, _ | 4, _ | 5, _ | 6, _ | 7, _ => decide
theorem sum_part (f : Nat → Int) : ∀ k i, sumLE f i + 2 ^ (8 * i) * sumHi f i k = sumLE f (i + k)
  | 0, i => by simp [sumHi]
  | k + 1, i => by
    have ih := sum_part f k (i + 1)
    simp only [sumLE] at ih
    rw [show i + (k + 1) = i + 1 + k by omega, ← ih]
    simp only [sumHi]
    rw [pow8, Int.mul_add, Int.mul_comm (2 ^ (8 * i)) (f i), ← Int.mul_assoc, Int.mul_right_comm (2 ^ (8 * i)) 256]
    omega
theorem sumHi_all (f : Nat → Int) (k : Nat) : sumHi f 0 k = sumLE f k := by
  have := sum_part f k 0
  simpa [sumLE] using this
theorem sumLE_congr {f g : Nat → Int} : ∀ {k}, (∀ i, i < k → f i = g i) → sumLE f k = sumLE g k
  | 0, _ => rfl
  | k + 1, h => by simp only [sumLE]; rw [sumLE_congr (fun i hi => h i (by omega)), h k (by omega)]
theorem sumLE_byteAt (n : Int) : ∀ k, sumLE (byteAt n) k = n % 2 ^ (8 * k)
  | 0 => by simp [sumLE]
  | k + 1 => by
    simp only [sumLE]
    rw [sumLE_byteAt n k, pow8]
    unfold byteAt
    have hp := pow8_pos k
    rw [Int.emod_def n (2 ^ (8 * k)), Int.emod_def n (2 ^ (8 * k) * 256), Int.emod_def (n / 2 ^ (8 * k)) 256, ← Int.ediv_ediv_of_nonneg (by omega : (0 : Int) ≤ 2 ^ (8 * k))]
    generalize (n / 2 ^ (8 * k)) = q
    generalize (2 : Int) ^ (8 * k) = a
    generalize q / 256 = r
    rw [Int.sub_mul, Int.mul_comm q a, Int.mul_right_comm 256 r a, Int.mul_comm 256 a]
    omega
theorem or_nat (a b i : Nat) (ha : a < 2 ^ i) : a ||| b * 2 ^ i = a + b * 2 ^ i := by
  rw [Nat.or_comm, ← Nat.shiftLeft_eq, Nat.add_comm]
  exact (Nat.shiftLeft_add_eq_or_of_lt ha b).symm
theorem or_step (a x : Int) (i : Nat) (ha : 0 ≤ a ∧ a < 2 ^ (8 * i)) (hx : 0 ≤ x ∧ x < 256) (hi : i < 8) : bits .or .u64 a (x * 2 ^ (8 * i)) = a + x * 2 ^ (8 * i) := by
  obtain ⟨n, rfl⟩ : ∃ n : Nat, a = n := ⟨a.toNat, by omega⟩
  obtain ⟨m, rfl⟩ : ∃ m : Nat, x = m := ⟨x.toNat, by omega⟩
  have hn : n < 2 ^ (8 * i) := by
    have := ha.2
    rw [show ((2 : Int) ^ (8 * i)) = ((2 ^ (8 * i) : Nat) : Int) by simp] at this
    omega
  have e : ((m : Int) * 2 ^ (8 * i)) = ((m * 2 ^ (8 * i) : Nat) : Int) := by simp
  have hle := pow_le (i + 1) (by omega)
  rw [pow8] at hle
  have hN : 2 ^ (8 * i) * 256 ≤ 18446744073709551616 := by
    have : ((2 : Int) ^ (8 * i)) = ((2 ^ (8 * i) : Nat) : Int) := by simp
    rw [this] at hle
    omega
  have hm : m * 2 ^ (8 * i) ≤ 255 * 2 ^ (8 * i) := Nat.mul_le_mul_right _ (by omega)
  rw [e]
  unfold bits
  have h1 : (BitVec.ofInt IntKind.u64.bits (n : Int)).toNat = n := by
    show (BitVec.ofInt 64 (n : Int)).toNat = n
    rw [BitVec.toNat_ofInt]
    have : ((2 ^ 64 : Nat) : Int) = 18446744073709551616 := by decide
    omega
  have h2 : (BitVec.ofInt IntKind.u64.bits ((m * 2 ^ (8 * i) : Nat) : Int)).toNat = m * 2 ^ (8 * i) := by
    show (BitVec.ofInt 64 ((m * 2 ^ (8 * i) : Nat) : Int)).toNat = m * 2 ^ (8 * i)
    rw [BitVec.toNat_ofInt]
    have : ((2 ^ 64 : Nat) : Int) = 18446744073709551616 := by decide
    omega
  simp only [BitVec.toNat_or, h1, h2, or_nat n m _ hn]
  rw [IntKind.wrap_u64]
  omega

end Wd
end Go.Proofs.Ytolgiooddiolcaa
