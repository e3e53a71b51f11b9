/- space: Formed, of the code and of the reference. -/
import Derived.Test.YtdbmdocmnhgbpaaSpForm
namespace Go.Proofs.Ytdbmdocmnhgbpaa
set_option maxRecDepth 20000
namespace Sp
open Go.RowKit Dk Eqb Byt

def allB (n : Nat) (f : Nat → Int) : Bool := (List.range n).all fun i => decide (f i ≤ 4)
theorem allB_iff {n : Nat} {f : Nat → Int} : allB n f = true ↔ ∀ i, i < n → f i ≤ 4 := by simp [allB]
/-- is it formed -/
def formB (A B Z : Int) (n : Nat) (f : Nat → Int) : Bool := apartB A B Z && (((n : Int) == 2 * Z) && allB n f)
theorem formB_iff {A B Z : Int} {n : Nat} {f : Nat → Int} : formB A B Z n f = true ↔ (1 ≤ Z ∧ Z ≤ 2000 ∧ 0 ≤ A ∧ A + Z ≤ B ∧ B + Z ≤ 4096) ∧ (n : Int) = 2 * Z ∧ ∀ i, i < n → f i ≤ 4 := by
  simp [formB, apartB_iff, allB_iff]
theorem bytes_tab {n : Nat} {f : Nat → Int} {w : World} {K : Nat} {ao : Option Addr} {cap : Nat} (hl : Lies w K ao cap (tab n f)) (h0 : 0 < n) : ∃ b off, ao = some ⟨b, off, none⟩ ∧ b < K ∧ n ≤ cap ∧ ∀ i, i < n → w.cell? ⟨b, off + i, none⟩ = some (.int .u8 (f i)) := by
  obtain ⟨b, off, rfl, hb, hc⟩ := hl.cells (by intro h; have := congrArg List.length h; simp [tab] at this; omega)
  refine ⟨b, off, rfl, hb, by simpa [tab] using hl.room, fun i hi => ?_⟩
  rw [hc i (by simpa [tab] using hi), tab_getD n f hi]

set_option maxHeartbeats 1000000 in
theorem Formed_any (A B Z : Int) (ao : Option Addr) (n cap : Nat) (f : Nat → Int) (w : World) (hB : i64 B) (hn : n ≤ 140737488355328) (hl : Lies w w.heap.size ao cap (tab n f)) :
    Calls Try.prog 16 #[.agg #[.int .i64 A, .int .i64 B, .int .i64 Z, .slice ao n cap]] w fun e w' => e = .returned (.bool (formB A B Z n f)) ∧ Below w.heap.size w w' := by
  have HL := Lib.hid hl
  have HA := Lib.hid (fun W => apart_any A B Z ao n cap W hB)
  have hb0 := (Below.refl w.heap.size w).alloc (Nat.le_refl _) (.cells #[.int .i64 A, .int .i64 B, .int .i64 Z, .slice ao n cap] 26)
  unfold formB
  clear hl hB
  cases hp : apartB A B Z with
  | false =>
    rw [hp] at HA
    clear hp
    go_enter Try.func16, Try.ntmps16
    go_wp2_with fail
    refine (HA.out _).mono ?_
    rintro _ w1 ⟨rfl, hb1⟩
    dsimp only
    go_wp2_with fail
    go_ret
    exact ⟨rfl, hb0.trans (hb1.mono (by simp))⟩
  | true =>
    rw [hp] at HA
    obtain ⟨h1, h2, -⟩ := apartB_iff.1 hp
    obtain ⟨W, hW, hbW, hsW, hxW⟩ := box_sp w A B Z ao n cap
    cases hq : ((n : Int) == 2 * Z) with
    | false =>
      go_enter Try.func16, Try.ntmps16
      go_wp2_with fail
      rw [← hW]
      clear hW hb0
      refine (HA.out _).mono ?_
      rintro _ w1 ⟨rfl, hb1⟩
      dsimp only
      have d2 := (hxW.below hb1 (by omega)).c2
      have d3 := (hxW.below hb1 (by omega)).c3
      go_wp2_with fail
      go_ret
      exact ⟨rfl, hbW.trans (hb1.mono (by omega))⟩
    | true =>
      have hlen : Hid (1 ≤ n) := Lib.hid (by have : (n : Int) = 2 * Z := by simpa using hq
                                             omega)
      have hv : Hid (decide (mxF f (n - 1) < 5) = allB n f) := Lib.hid (by
        have h1 : n - 1 + 1 = n := by have := hlen.out; omega
        rw [Bool.eq_iff_iff, allB_iff, decide_eq_true_iff]
        constructor
        · intro h i hi; exact mxF_le.1 (show mxF f (n - 1) ≤ 4 by omega) i (by omega)
        · intro h
          have h2 : mxF f (n - 1) ≤ 4 := mxF_le.2 fun i hi => h i (by omega)
          omega)
      go_enter Try.func16, Try.ntmps16
      go_wp2_with fail
      rw [← hW]
      clear hW hb0
      refine (HA.out _).mono ?_
      rintro _ w1 ⟨rfl, hb1⟩
      dsimp only
      have d2 := (hxW.below hb1 (by omega)).c2
      have d3 := (hxW.below hb1 (by omega)).c3
      go_wp2_with fail
      refine (max_any ao n cap f w1 (((HL.out.below hbW).below (hb1.mono (by omega))).more (by have := hb1.size; omega)) hlen.out hn).mono ?_
      rintro _ w2 ⟨rfl, rfl⟩
      dsimp only
      go_wp2_with fail
      go_ret
      exact ⟨by rw [← hv.out]; rfl, hbW.trans (hb1.mono (by omega))⟩
theorem formB_no {A B Z : Int} {n : Nat} {f : Nat → Int} (h : ¬ ((1 ≤ Z ∧ Z ≤ 2000 ∧ 0 ≤ A ∧ A + Z ≤ B ∧ B + Z ≤ 4096) ∧ (n : Int) = 2 * Z ∧ ∀ i, i < n → f i ≤ 4)) : formB A B Z n f = false := by
  cases e : formB A B Z n f with
  | false => rfl
  | true => exact absurd (formB_iff.1 e) h
theorem allB_no {n j : Nat} {f : Nat → Int} (hj : j < n) (h : 4 < f j) : allB n f = false := by
  cases e : allB n f with
  | false => rfl
  | true => have := allB_iff.1 e j hj; omega

set_option maxHeartbeats 2000000 in
theorem refFormed_any (A B Z : Int) (ao : Option Addr) (n cap : Nat) (f : Nat → Int) (w : World) (hn : n ≤ 140737488355328) (hl : Lies w w.heap.size ao cap (tab n f)) :
    Calls Try.prog 17 #[.agg #[.int .i64 A, .int .i64 B, .int .i64 Z, .slice ao n cap]] w fun e w' => e = .returned (.bool (formB A B Z n f)) ∧ Below w.heap.size w w' := by
  have hb0 := (Below.refl w.heap.size w).alloc (Nat.le_refl _) (.cells #[.int .i64 A, .int .i64 B, .int .i64 Z, .slice ao n cap] 26)
  by_cases h0 : Z < 1
  · rw [formB_no (by omega)]
    clear hl
    go_enter Try.func17, Try.ntmps17
    go_wp2_with fail
    go_ret
    exact ⟨rfl, hb0⟩
  by_cases h1 : 2000 < Z
  · rw [formB_no (by omega)]
    clear hl
    go_enter Try.func17, Try.ntmps17
    go_wp2_with fail
    go_ret
    exact ⟨rfl, hb0⟩
  by_cases h2 : A < 0
  · rw [formB_no (by omega)]
    clear hl
    go_enter Try.func17, Try.ntmps17
    go_wp2_with fail
    go_ret
    exact ⟨rfl, hb0⟩
  by_cases h3 : 4096 < A
  · rw [formB_no (by omega)]
    clear hl
    go_enter Try.func17, Try.ntmps17
    go_wp2_with fail
    go_ret
    exact ⟨rfl, hb0⟩
  by_cases h4 : B < A + Z
  · rw [formB_no (by omega)]
    clear hl
    go_enter Try.func17, Try.ntmps17
    go_wp2_with fail
    go_ret
    exact ⟨rfl, hb0⟩
  by_cases h5 : 4096 - Z < B
  · rw [formB_no (by omega)]
    clear hl
    go_enter Try.func17, Try.ntmps17
    go_wp2_with fail
    go_ret
    exact ⟨rfl, hb0⟩
  cases hq : ((n : Int) == 2 * Z) with
  | false =>
    have hne : ¬ (n : Int) = 2 * Z := by simpa using hq
    rw [formB_no (by omega)]
    clear hl hne
    have hq' : ((n : Int) != 2 * Z) = true := by simp only [bne, hq]; rfl
    go_enter Try.func17, Try.ntmps17
    go_wp2_with fail
    go_ret
    exact ⟨rfl, hb0⟩
  | true =>
    have HE : Hid ((n : Int) = 2 * Z) := Lib.hid (by simpa using hq)
    have hq' : ((n : Int) != 2 * Z) = false := by simp only [bne, hq]; rfl
    have HV : Hid (formB A B Z n f = allB n f) := Lib.hid (by
      unfold formB
      rw [apartB_yes (by omega), hq]; rfl)
    obtain ⟨W, hW, hbW, hsW, hxW⟩ := box_sp w A B Z ao n cap
    obtain ⟨b, off, rfl, hb, hnc, hc⟩ := bytes_tab hl (by have := HE.out; omega)
    have HC := Lib.hid (fun i hi => (hbW.cell (p := ⟨b, off + i, none⟩) hb).trans (hc i hi))
    have d3 := hxW.c3
    clear hl hc hb0 hq
    go_enter Try.func17, Try.ntmps17
    go_wp2_with fail
    rw [← hW]
    clear hW
    go_loop [3] (fun i => ∃ j : Nat, j ≤ n ∧ i = .int .i64 j ∧ Hid (allB j f = true)) (fun i => n - (intOf i).toNat)
    case atStart => exact ⟨0, by omega, rfl, Lib.hid rfl⟩
    case round =>
      obtain ⟨j, hj, rfl, hR⟩ := hrel
      by_cases hlt : j < n
      · have hcj := HC.out j hlt
        have hj0 : (0 : Int) ≤ (j : Int) := by omega
        have hjn : (j : Int) < (n : Int) := by omega
        by_cases hf : 4 < f j
        · have HN := Lib.hid (allB_no hlt hf)
          go_wp2_with fail
          go_ret
          exact ⟨by rw [HV.out, HN.out]; rfl, hbW⟩
        · have HN : Hid (allB (j + 1) f = true) := Lib.hid (allB_iff.2 fun i hi => by
            by_cases e : i = j
            · subst e; omega
            · exact allB_iff.1 hR.out i (by omega))
          clear hR
          go_wp2_with fail
          go_round
          case rel => exact ⟨j + 1, by omega, by go_num, HN⟩
          case measure => simp [intOf]; omega
      · obtain rfl : j = n := by omega
        have hR' := Lib.hid (HV.out.trans hR.out)
        go_wp2_with fail
        go_ret
        exact ⟨by rw [hR'.out]; rfl, hbW⟩
end Sp
end Go.Proofs.Ytdbmdocmnhgbpaa
