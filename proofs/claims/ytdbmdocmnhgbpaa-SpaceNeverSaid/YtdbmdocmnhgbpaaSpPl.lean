/- space: place, of the code and of the reference. -/
import Derived.Test.YtdbmdocmnhgbpaaSpFm
import Derived.BigQuiet
namespace Go.Proofs.Ytdbmdocmnhgbpaa
set_option maxRecDepth 20000
namespace Sp
open Go.RowKit Dk Eqb Byt

/-- which of the states is a sector's; below 0: none -/
def plI (A B Z at' : Int) : Int := if A ≤ at' ∧ at' < A + Z then at' - A else if B ≤ at' ∧ at' < B + Z then Z + (at' - B) else -1
theorem plI_a {A B Z x : Int} (h : A ≤ x ∧ x < A + Z) : plI A B Z x = x - A := if_pos h
theorem plI_b {A B Z x : Int} (h : ¬ (A ≤ x ∧ x < A + Z)) (h2 : B ≤ x ∧ x < B + Z) : plI A B Z x = Z + (x - B) := by unfold plI; rw [if_neg h, if_pos h2]
theorem plI_no {A B Z x : Int} (h : ¬ (A ≤ x ∧ x < A + Z)) (h2 : ¬ (B ≤ x ∧ x < B + Z)) : plI A B Z x = -1 := by unfold plI; rw [if_neg h, if_neg h2]
structure Ap (A B Z : Int) : Prop where
  z1 : 1 ≤ Z
  z2 : Z ≤ 2000
  a0 : 0 ≤ A
  ab : A + Z ≤ B
  b1 : B + Z ≤ 4096
theorem plI_lt {A B Z x : Int} (h : Ap A B Z) : plI A B Z x < 2 * Z := by
  obtain ⟨h1, h2, h3, h4, h5⟩ := h
  unfold plI
  split
  · omega
  · split <;> omega
def clip (x : Int) : Int := if 0 ≤ x then x else 0

section
variable (A B : Int) (w : World)
theorem idx0 : (Instr.index 23 (.agg #[.int .i64 A, .int .i64 B]) (.int .i64 0)).run Try.prog w = .ok (.int .i64 A) w := by kernel_rfl
theorem idx1 : (Instr.index 23 (.agg #[.int .i64 A, .int .i64 B]) (.int .i64 1)).run Try.prog w = .ok (.int .i64 B) w := by kernel_rfl
end

set_option maxHeartbeats 2000000 in
theorem place_any (A B Z x : Int) (ao : Option Addr) (n cap : Nat) (w : World) (hx : i64 x) (ha : Ap A B Z) :
    Calls Try.prog 35 #[.agg #[.int .i64 A, .int .i64 B, .int .i64 Z, .slice ao n cap], .int .i64 x] w fun e w' => e = .returned (.tuple #[.int .i64 (clip (plI A B Z x)), .bool (decide (0 ≤ plI A B Z x))]) ∧ Below w.heap.size w w' := by
  have hb0 := (Below.refl w.heap.size w).alloc (Nat.le_refl _) (.cells #[.int .i64 A, .int .i64 B, .int .i64 Z, .slice ao n cap] 26)
  obtain ⟨z1, z2, a0, ab, b1⟩ := ha
  obtain ⟨hx1, hx2⟩ := hx
  have i0 := idx0 A B
  have i1 := idx1 A B
  go_enter Try.func35, Try.ntmps35
  go_wp2_with fail
  go_loop [10] (fun i => ∃ j : Nat, j ≤ 2 ∧ i = .int .i64 j ∧ Hid ((1 ≤ j → ¬ (A ≤ x ∧ x < A + Z)) ∧ (2 ≤ j → ¬ (B ≤ x ∧ x < B + Z)))) (fun i => 2 - (intOf i).toNat)
  case atStart => exact ⟨0, by omega, rfl, Lib.hid ⟨fun h => by omega, fun h => by omega⟩⟩
  case round =>
    obtain ⟨j, hj, rfl, hR⟩ := hrel
    obtain rfl | rfl | rfl : j = 0 ∨ j = 1 ∨ j = 2 := by omega
    · by_cases e1 : A ≤ x
      · by_cases e2 : x - A < Z
        · have HP := Lib.hid (plI_a (B := B) (Z := Z) (show A ≤ x ∧ x < A + Z by omega))
          go_wp2_with fail
          go_ret2
          exact ⟨by rw [HP.out, decide_eq_true (by omega)]; unfold clip; rw [if_pos (by omega)]; rfl, hb0⟩
        · have HN : Hid ((1 ≤ 0 + 1 → ¬ (A ≤ x ∧ x < A + Z)) ∧ (2 ≤ 0 + 1 → ¬ (B ≤ x ∧ x < B + Z))) := Lib.hid ⟨fun _ => by omega, fun h => by omega⟩
          go_wp2_with fail
          go_round
          case rel => exact ⟨0 + 1, by omega, by go_num, HN⟩
          case measure => simp [intOf]
      · have HN : Hid ((1 ≤ 0 + 1 → ¬ (A ≤ x ∧ x < A + Z)) ∧ (2 ≤ 0 + 1 → ¬ (B ≤ x ∧ x < B + Z))) := Lib.hid ⟨fun _ => by omega, fun h => by omega⟩
        go_wp2_with fail
        go_round
        case rel => exact ⟨0 + 1, by omega, by go_num, HN⟩
        case measure => simp [intOf]
    · by_cases e1 : B ≤ x
      · by_cases e2 : x - B < Z
        · have HP := Lib.hid (plI_b (hR.out.1 (by omega)) (show B ≤ x ∧ x < B + Z by omega))
          go_wp2_with fail
          go_ret2
          exact ⟨by rw [HP.out, decide_eq_true (by omega)]; unfold clip; rw [if_pos (by omega), show Z + (x - B) = Z + x - B by omega]; rfl, hb0⟩
        · have HN : Hid ((1 ≤ 1 + 1 → ¬ (A ≤ x ∧ x < A + Z)) ∧ (2 ≤ 1 + 1 → ¬ (B ≤ x ∧ x < B + Z))) := Lib.hid ⟨fun _ => hR.out.1 (by omega), fun h => by omega⟩
          go_wp2_with fail
          go_round
          case rel => exact ⟨1 + 1, by omega, by go_num, HN⟩
          case measure => simp [intOf]
      · have HN : Hid ((1 ≤ 1 + 1 → ¬ (A ≤ x ∧ x < A + Z)) ∧ (2 ≤ 1 + 1 → ¬ (B ≤ x ∧ x < B + Z))) := Lib.hid ⟨fun _ => hR.out.1 (by omega), fun h => by omega⟩
        go_wp2_with fail
        go_round
        case rel => exact ⟨1 + 1, by omega, by go_num, HN⟩
        case measure => simp [intOf]
    · have HP := Lib.hid (plI_no (hR.out.1 (by omega)) (hR.out.2 (by omega)))
      go_wp2_with fail
      go_ret2
      exact ⟨by rw [HP.out]; rfl, hb0⟩
set_option maxHeartbeats 2000000 in
theorem refplace_any (A B Z x : Int) (ao : Option Addr) (n cap : Nat) (w : World) (hx : i64 x) (ha : Ap A B Z) :
    Calls Try.prog 36 #[.agg #[.int .i64 A, .int .i64 B, .int .i64 Z, .slice ao n cap], .int .i64 x] w fun e w' => e = .returned (.int .i64 (plI A B Z x)) ∧ Below w.heap.size w w' := by
  obtain ⟨W, hW, hbW, hsW, hxW⟩ := box_sp w A B Z ao n cap
  obtain ⟨z1, z2, a0, ab, b1⟩ := ha
  obtain ⟨hx1, hx2⟩ := hx
  go_enter Try.func36, Try.ntmps36
  go_wp2_with fail
  rw [← hW]
  clear hW
  go_loopw [5] (fun i wr => ∃ j : Nat, j ≤ 2 ∧ i = .int .i64 j ∧ Hid ((1 ≤ j → ¬ (A ≤ x ∧ x < A + Z)) ∧ (2 ≤ j → ¬ (B ≤ x ∧ x < B + Z))) ∧ Below W.heap.size W wr) (fun i _ => 2 - (intOf i).toNat)
  case atStart => exact ⟨0, by omega, rfl, Lib.hid ⟨fun h => by omega, fun h => by omega⟩, Below.refl _ _⟩
  case round =>
    obtain ⟨j, hj, rfl, hR, hB⟩ := hrel
    have e0 := (hxW.below hB (by omega)).c0
    have e1 := (hxW.below hB (by omega)).c1
    have e2 := (hxW.below hB (by omega)).c2
    obtain rfl | rfl | rfl : j = 0 ∨ j = 1 ∨ j = 2 := by omega
    · cases g1 : decide (A ≤ x) with
      | true =>
        have g1' : A ≤ x := of_decide_eq_true g1
        by_cases g2 : x < A + Z
        · have HP := Lib.hid (plI_a (B := B) (Z := Z) (show A ≤ x ∧ x < A + Z by omega))
          go_wp2_with fail
          go_quiet (fail)
          go_wp2_with fail
          go_quiet (fail)
          go_wp2_with fail
          go_ret
          exact ⟨by rw [HP.out]; rfl, hbW.trans ((below_drewN (below_drewN hB _) _).mono (by omega))⟩
        · have HN : Hid ((1 ≤ 0 + 1 → ¬ (A ≤ x ∧ x < A + Z)) ∧ (2 ≤ 0 + 1 → ¬ (B ≤ x ∧ x < B + Z))) := Lib.hid ⟨fun _ => by omega, fun h => by omega⟩
          go_wp2_with fail
          go_quiet (fail)
          go_wp2_with fail
          go_roundw
          case rel => exact ⟨0 + 1, by omega, by go_num, HN, below_drewN hB _⟩
          case measure => simp [intOf]
      | false =>
        have HN : Hid ((1 ≤ 0 + 1 → ¬ (A ≤ x ∧ x < A + Z)) ∧ (2 ≤ 0 + 1 → ¬ (B ≤ x ∧ x < B + Z))) := Lib.hid ⟨fun _ h => by simp at g1; omega, fun h => by omega⟩
        go_wp2_with fail
        go_quiet (fail)
        go_wp2_with fail
        go_roundw
        case rel => exact ⟨0 + 1, by omega, by go_num, HN, below_drewN hB _⟩
        case measure => simp [intOf]
    · cases g1 : decide (B ≤ x) with
      | true =>
        have g1' : B ≤ x := of_decide_eq_true g1
        by_cases g2 : x < B + Z
        · have HP := Lib.hid (plI_b (hR.out.1 (by omega)) (show B ≤ x ∧ x < B + Z by omega))
          go_wp2_with fail
          go_quiet (fail)
          go_wp2_with fail
          go_quiet (fail)
          go_wp2_with fail
          go_ret
          exact ⟨by rw [HP.out, show Z + (x - B) = Z + x - B by omega]; rfl, hbW.trans ((below_drewN (below_drewN hB _) _).mono (by omega))⟩
        · have HN : Hid ((1 ≤ 1 + 1 → ¬ (A ≤ x ∧ x < A + Z)) ∧ (2 ≤ 1 + 1 → ¬ (B ≤ x ∧ x < B + Z))) := Lib.hid ⟨fun _ => hR.out.1 (by omega), fun h => by omega⟩
          go_wp2_with fail
          go_quiet (fail)
          go_wp2_with fail
          go_roundw
          case rel => exact ⟨1 + 1, by omega, by go_num, HN, below_drewN hB _⟩
          case measure => simp [intOf]
      | false =>
        have HN : Hid ((1 ≤ 1 + 1 → ¬ (A ≤ x ∧ x < A + Z)) ∧ (2 ≤ 1 + 1 → ¬ (B ≤ x ∧ x < B + Z))) := Lib.hid ⟨fun _ => hR.out.1 (by omega), fun _ h => by simp at g1; omega⟩
        go_wp2_with fail
        go_quiet (fail)
        go_wp2_with fail
        go_roundw
        case rel => exact ⟨1 + 1, by omega, by go_num, HN, below_drewN hB _⟩
        case measure => simp [intOf]
    · have HP := Lib.hid (plI_no (hR.out.1 (by omega)) (hR.out.2 (by omega)))
      go_wp2_with fail
      go_ret
      exact ⟨by rw [HP.out]; rfl, hbW.trans (hB.mono (by omega))⟩
end Sp
end Go.Proofs.Ytdbmdocmnhgbpaa
