/- space: spaces as values; apart, Max, Formed and the reference's. -/
import Derived.Test.YtdbmdocmnhgbpaaEq
import Derived.Test.YtdbmdocmnhgbpaaJWd
import Derived.WalkSmall
import Derived.Laws.Small
namespace Go.Proofs.Ytdbmdocmnhgbpaa
set_option maxRecDepth 20000
namespace Sp
open Go.RowKit Dk Eqb Byt

/-- a space: At, Size, how many states, the states -/
structure Sc where
  A : Int
  B : Int
  Z : Int
  n : Nat
  f : Nat → Int
def apartB (A B Z : Int) : Bool := decide (1 ≤ Z ∧ Z ≤ 2000 ∧ 0 ≤ A ∧ A + Z ≤ B ∧ B + Z ≤ 4096)
theorem apartB_yes {A B Z : Int} (h : 1 ≤ Z ∧ Z ≤ 2000 ∧ 0 ≤ A ∧ A + Z ≤ B ∧ B + Z ≤ 4096) : apartB A B Z = true := decide_eq_true h
theorem apartB_no {A B Z : Int} (h : ¬ (1 ≤ Z ∧ Z ≤ 2000 ∧ 0 ≤ A ∧ A + Z ≤ B ∧ B + Z ≤ 4096)) : apartB A B Z = false := decide_eq_false h
theorem apartB_iff {A B Z : Int} : apartB A B Z = true ↔ 1 ≤ Z ∧ Z ≤ 2000 ∧ 0 ≤ A ∧ A + Z ≤ B ∧ B + Z ≤ 4096 := by simp [apartB]
def i64 (z : Int) : Prop := -9223372036854775808 ≤ z ∧ z ≤ 9223372036854775807

/-- the variable of a space in block g -/
def Bs (w : World) (g : Nat) (A B Z : Int) (ao : Option Addr) (n cap : Nat) : Prop := w.heap[g]? = some (.cells #[.int .i64 A, .int .i64 B, .int .i64 Z, .slice ao n cap] 26 (0, 0))
section
variable {w w' : World} {g : Nat} {A B Z : Int} {ao : Option Addr} {n cap : Nat}
theorem Bs.c0 (h : Bs w g A B Z ao n cap) : w.cell? ⟨g, 0, none⟩ = some (.int .i64 A) := by rw [cell_of_row w g 0 _ _ _ h]; rfl
theorem Bs.c1 (h : Bs w g A B Z ao n cap) : w.cell? ⟨g, 1, none⟩ = some (.int .i64 B) := by rw [cell_of_row w g 1 _ _ _ h]; rfl
theorem Bs.c2 (h : Bs w g A B Z ao n cap) : w.cell? ⟨g, 2, none⟩ = some (.int .i64 Z) := by rw [cell_of_row w g 2 _ _ _ h]; rfl
theorem Bs.c3 (h : Bs w g A B Z ao n cap) : w.cell? ⟨g, 3, none⟩ = some (.slice ao n cap) := by rw [cell_of_row w g 3 _ _ _ h]; rfl
theorem Bs.fr (h : Bs w g A B Z ao n cap) (j : Nat) : w.frozen? ⟨g, j, none⟩ = false := frozen_of_row w g j _ _ h
theorem Bs.lt (h : Bs w g A B Z ao n cap) : g < w.heap.size := (Array.getElem?_eq_some_iff.1 h).1
theorem Bs.block (h : Bs w g A B Z ao n cap) (hb : w'.heap[g]? = w.heap[g]?) : Bs w' g A B Z ao n cap := hb.trans h
theorem Bs.below (h : Bs w g A B Z ao n cap) {K : Nat} (hb : Below K w w') (hg : g < K) : Bs w' g A B Z ao n cap := h.block (hb.block g hg)
theorem Bs.s3 (h : Bs w g A B Z ao n cap) (ao' : Option Addr) (n' cap' : Nat) : Bs (w.setCell ⟨g, 3, none⟩ (.slice ao' n' cap')) g A B Z ao' n' cap' := by unfold Bs; rw [heap_setCell_same w g 3 _ _ _ h]; rfl
theorem box_sp (w : World) (A B Z : Int) (ao : Option Addr) (n cap : Nat) : ∃ W, W = w.alloc (.cells #[.int .i64 A, .int .i64 B, .int .i64 Z, .slice ao n cap] 26) ∧ Below w.heap.size w W ∧ W.heap.size = w.heap.size + 1 ∧ Bs W w.heap.size A B Z ao n cap :=
  ⟨_, rfl, (Below.refl _ _).alloc (Nat.le_refl _) _, by simp, heap_alloc_new _ _⟩
end

set_option maxHeartbeats 1000000 in
theorem apart_any (A B Z : Int) (ao : Option Addr) (n cap : Nat) (w : World) (hB : i64 B) :
    Calls Try.prog 32 #[.agg #[.int .i64 A, .int .i64 B, .int .i64 Z, .slice ao n cap]] w fun e w' => e = .returned (.bool (apartB A B Z)) ∧ Below w.heap.size w w' := by
  have hb := (Below.refl w.heap.size w).alloc (Nat.le_refl _) (.cells #[.int .i64 A, .int .i64 B, .int .i64 Z, .slice ao n cap] 26)
  unfold i64 at *
  obtain ⟨hB1, hB2⟩ := hB
  by_cases h1 : Z < 1
  · rw [apartB_no (by omega)]
    go_enter Try.func32, Try.ntmps32
    go_wp2_with fail
    go_ret
    exact ⟨rfl, hb⟩
  by_cases h2 : 2000 < Z
  · rw [apartB_no (by omega)]
    go_enter Try.func32, Try.ntmps32
    go_wp2_with fail
    go_ret
    exact ⟨rfl, hb⟩
  by_cases h3 : 0 ≤ A
  · by_cases h4 : Z ≤ B
    · by_cases h5 : A ≤ B - Z
      · by_cases h6 : B ≤ 4096 - Z
        · rw [apartB_yes (by omega)]
          go_enter Try.func32, Try.ntmps32
          go_wp2_with fail
          go_quiet (fail)
          go_wp2_with fail
          go_ret
          exact ⟨rfl, below_drewN hb _⟩
        · have h6' : decide (B ≤ 4096 - Z) = false := decide_eq_false h6
          rw [apartB_no (by omega)]
          go_enter Try.func32, Try.ntmps32
          go_wp2_with fail
          go_quiet (fail)
          go_wp2_with fail
          go_ret
          exact ⟨rfl, below_drewN hb _⟩
      · rw [apartB_no (by omega)]
        go_enter Try.func32, Try.ntmps32
        go_wp2_with fail
        go_quiet (fail)
        go_wp2_with fail
        go_ret
        exact ⟨rfl, below_drewN hb _⟩
    · rw [apartB_no (by omega)]
      go_enter Try.func32, Try.ntmps32
      go_wp2_with fail
      go_quiet (fail)
      go_wp2_with fail
      go_ret
      exact ⟨rfl, below_drewN hb _⟩
  · rw [apartB_no (by omega)]
    go_enter Try.func32, Try.ntmps32
    go_wp2_with fail
    go_quiet (fail)
    go_wp2_with fail
    go_ret
    exact ⟨rfl, below_drewN hb _⟩

def mxF (f : Nat → Int) : Nat → Int
  | 0 => f 0
  | j + 1 => if f (j + 1) > mxF f j then f (j + 1) else mxF f j
theorem mxF_le {f : Nat → Int} {k : Int} : ∀ {j : Nat}, mxF f j ≤ k ↔ ∀ i, i < j + 1 → f i ≤ k
  | 0 => by
    constructor
    · intro h i hi
      obtain rfl : i = 0 := by omega
      exact h
    · intro h; exact h 0 (by omega)
  | j + 1 => by
    have ih := @mxF_le f k j
    unfold mxF
    constructor
    · intro h i hi
      by_cases e : i = j + 1
      · subst e; split at h <;> omega
      · exact ih.1 (by split at h <;> omega) i (by omega)
    · intro h
      have h1 := ih.2 fun i hi => h i (by omega)
      have h2 := h (j + 1) (by omega)
      split <;> omega

set_option maxHeartbeats 1000000 in
theorem max_any (ao : Option Addr) (n cap : Nat) (f : Nat → Int) (w : World) (hl : Lies w w.heap.size ao cap (tab n f)) (h1 : 1 ≤ n) (hn : n ≤ 140737488355328) :
    Calls Try.prog 37 #[.slice ao n cap] w fun e w' => e = .returned (.int .u8 (mxF f (n - 1))) ∧ w' = w := by
  obtain ⟨b, off, rfl, hb, hc⟩ := hl.cells (by intro h; have := congrArg List.length h; simp [tab] at this; omega)
  have hcell : ∀ i, i < n → w.cell? ⟨b, off + i, none⟩ = some (.int .u8 (f i)) := fun i hi => by
    rw [hc i (by simpa [tab] using hi), tab_getD n f hi]
  have h0 := hcell 0 (by omega)
  rw [Nat.add_zero] at h0
  have HC := Lib.hid hcell
  have hn0 : ¬ (n : Int) < 1 := by omega
  clear hc hcell hl
  go_enter Try.func37, Try.ntmps37
  go_wp2_with fail
  go_loop [3, 4] (fun m i => ∃ j : Nat, 1 ≤ j ∧ j ≤ n ∧ i = .int .i64 j ∧ m = .int .u8 (mxF f (j - 1))) (fun _ i => n - (intOf i).toNat)
  case atStart => exact ⟨1, by omega, by omega, rfl, rfl⟩
  case round =>
    obtain ⟨j, hj1, hj, rfl, rfl⟩ := hrel
    by_cases hlt : j < n
    · have hcj := HC.out j hlt
      have hj0 : (0 : Int) ≤ (j : Int) := by omega
      have hjn : (j : Int) < (n : Int) := by omega
      have HM : Hid (mxF f (j + 1 - 1) = if f j > mxF f (j - 1) then f j else mxF f (j - 1)) := Lib.hid (by
        obtain ⟨k, rfl⟩ : ∃ k, j = k + 1 := ⟨j - 1, by omega⟩
        rfl)
      generalize mxF f (j - 1) = m at HM ⊢
      generalize f j = x at hcj HM
      obtain ⟨m', hm'⟩ : ∃ m', m' = mxF f (j + 1 - 1) := ⟨_, rfl⟩
      have hmx : ∀ w' ts t, (Builtin.max_ ts t #[.int .u8 m, .int .u8 x]).run Try.prog w' = .ok (.int .u8 m') w' := fun w' ts t => by rw [hm', HM.out]; exact run_max_int2 w' ts t _ _ m x
      have HM' := Lib.hid hm'
      clear hm'
      go_wp2_with fail
      go_round
      case rel => exact ⟨j + 1, by omega, by omega, by go_num, by rw [HM'.out]⟩
      case measure => simp [intOf]; omega
    · obtain rfl : j = n := by omega
      go_wp2_with fail
      go_ret
      exact ⟨rfl, rfl⟩
end Sp
end Go.Proofs.Ytdbmdocmnhgbpaa
