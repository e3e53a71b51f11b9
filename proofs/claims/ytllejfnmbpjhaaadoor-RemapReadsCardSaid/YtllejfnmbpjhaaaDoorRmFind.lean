/- remap: find, At, and the reference's At. -/
import Derived.Test.YtllejfnmbpjhaaaDoorRmRight
namespace Go.Proofs.YtllejfnmbpjhaaaDoor
set_option maxRecDepth 20000
namespace Rm
open Go.RowKit Dk

set_option maxHeartbeats 1000000 in
theorem find1_any (xb : Nat) (a b x : Int) (w : World) (hc : w.cell? ⟨xb, 0, none⟩ = some (.int .i64 x)) :
    Calls Tryd.prog 120 #[.agg #[.int .i64 a, .int .i64 b], .pointer (some ⟨xb, 0, none⟩)] w fun e w' => e = .returned (.bool (a == x)) ∧ Below w.heap.size w w' := by
  have hlt := World.block_lt_of_cell? w _ hc
  have hc' : (w.alloc (.cells #[.int .i64 a, .int .i64 b] 100)).cell? ⟨xb, 0, none⟩ = some (.int .i64 x) := (World.cell?_alloc_lt _ _ _ hlt).trans hc
  go_enter Tryd.func120, Tryd.ntmps120
  go_wp2_with fail
  go_ret
  exact ⟨rfl, (Below.refl _ _).alloc (Nat.le_refl _) _⟩

theorem pr_cells {w : World} {n : Nat} {F T : Nat → Int} {b off : Nat} (hr : ∀ i, i < n → w.rangeAt b (off + i * 2) (prV F T i)) {j : Nat} (hj : j < n) : w.cell? ⟨b, off + j * 2, none⟩ = some (.int .i64 (F j)) ∧ w.cell? ⟨b, off + j * 2 + 1, none⟩ = some (.int .i64 (T j)) :=
  ⟨hr j hj 0 _ rfl, hr j hj 1 _ rfl⟩

set_option maxRecDepth 100000 in
set_option maxHeartbeats 2000000 in
theorem idx_any (n : Nat) (F T : Nat → Int) (pa : Option Addr) (cap g xb : Nat) (x : Int) (w : World) (hl : Lay w w.heap.size g pa n cap 2 (prV F T)) (hn : n ≤ 140737488355328) (hc : w.cell? ⟨xb, 0, none⟩ = some (.int .i64 x)) :
    Calls Tryd.prog 119 #[.slice pa n cap, .func (.func 120) #[] #[.pointer (some ⟨xb, 0, none⟩)]] w fun e w' => e = .returned (.int .i64 (findI F x n)) ∧ Below w.heap.size w w' := by
  have hxb := World.block_lt_of_cell? w _ hc
  have HL := Lib.hid hl
  have HC := Lib.hid hc
  clear hl hc
  go_enter Tryd.func119, Tryd.ntmps119
  go_wp2_with fail
  go_loopw [8] (fun i wr => ∃ j : Nat, j ≤ n ∧ i = .int .i64 j ∧ Hid (noneB F x j = true ∧ Below w.heap.size w wr)) (fun i _ => n - (intOf i).toNat)
  case atStart => exact ⟨0, by omega, rfl, Lib.hid ⟨rfl, Below.refl _ _⟩⟩
  case round =>
    obtain ⟨j, hj, rfl, hR⟩ := hrel
    by_cases hlt : j < n
    · obtain ⟨b, off, rfl, hb, _, hrow⟩ := HL.out.rows.resolve_left (by omega)
      obtain ⟨d0, d1⟩ := pr_cells hrow hlt
      have cF := (hR.out.2.cell (p := ⟨b, off + j * 2, none⟩) hb).trans d0
      have cT := (hR.out.2.cell (p := ⟨b, off + j * 2 + 1, none⟩) hb).trans d1
      have cx := (hR.out.2.cell (p := ⟨xb, 0, none⟩) hxb).trans HC.out
      have hj0 : (0 : Int) ≤ (j : Int) := by omega
      have hjn : (j : Int) < (n : Int) := by omega
      clear hrow d0 d1
      go_wp2_with fail
      refine (find1_any xb (F j) (T j) x wr cx).mono ?_
      rintro _ w2 ⟨rfl, hb2⟩
      have hB2 := hR.out.2.trans (hb2.mono hR.out.2.size)
      by_cases e : F j = x
      · have e' : (F j == x) = true := by simpa using e
        have HV := Lib.hid (find_at (n := n) hR.out.1 e hlt)
        rw [e']
        clear cF cT cx e e' hb2
        dsimp only
        go_wp2_with fail
        go_ret
        exact ⟨by rw [HV.out]; rfl, hB2⟩
      · have e' : (F j == x) = false := by simpa using e
        have HN : Hid (noneB F x (j + 1) = true ∧ Below w.heap.size w w2) := Lib.hid ⟨by simp only [noneB, hR.out.1, Bool.true_and]; simpa using e, hB2⟩
        rw [e']
        clear cF cT cx e e' hb2 hR hB2
        dsimp only
        go_wp2_with fail
        go_roundw
        case rel => exact ⟨j + 1, by omega, by go_num, HN⟩
        case measure => simp [intOf]; omega
    · obtain rfl : j = n := by omega
      have HV := Lib.hid (find_none hR.out.1)
      have hB := hR.out.2
      clear hR
      go_wp2_with fail
      go_ret
      exact ⟨by rw [HV.out]; rfl, hB⟩

set_option maxHeartbeats 1000000 in
theorem find_any (n : Nat) (F T : Nat → Int) (pa : Option Addr) (cap g : Nat) (x : Int) (w : World) (hl : Lay w w.heap.size g pa n cap 2 (prV F T)) (hn : n ≤ 140737488355328) :
    Calls Tryd.prog 92 #[.slice pa n cap, .int .i64 x] w fun e w' => e = .returned (.int .i64 (findI F x n)) ∧ Below w.heap.size w w' := by
  have HL := Lib.hid hl
  clear hl
  have hb0 : Below w.heap.size w (w.alloc (.cells #[.int .i64 x] 3)) := (Below.refl _ _).alloc (Nat.le_refl _) _
  have hx0 : (w.alloc (.cells #[.int .i64 x] 3)).cell? ⟨w.heap.size, 0, none⟩ = some (.int .i64 x) := by rw [cell_of_row _ _ _ _ _ _ (heap_alloc_new _ _)]; rfl
  have hs0 : w.heap.size ≤ (w.alloc (.cells #[.int .i64 x] 3)).heap.size := by simp
  go_enter Tryd.func92, Tryd.ntmps92
  go_wp2_with fail
  generalize w.alloc (.cells #[.int .i64 x] 3) = W at hb0 hx0 hs0 ⊢
  refine (idx_any n F T pa cap g w.heap.size x W ((HL.out.below hb0).more hs0) hn hx0).mono ?_
  rintro _ w1 ⟨rfl, hb1⟩
  dsimp only
  go_wp2_with fail
  go_ret
  exact ⟨rfl, hb0.trans (hb1.mono hs0)⟩

set_option maxHeartbeats 1000000 in
theorem at_any (gen : Int) (n : Nat) (F T : Nat → Int) (pa : Option Addr) (cap g : Nat) (x : Int) (w : World) (hl : Lay w w.heap.size g pa n cap 2 (prV F T)) (hn : n ≤ 140737488355328) :
    Calls Tryd.prog 46 #[.agg #[.int .i64 gen, .slice pa n cap], .int .i64 x] w fun e w' => e = .returned (.int .i64 (atT F T n x)) ∧ Below w.heap.size w w' := by
  have HL := Lib.hid hl
  clear hl
  have hb0 : Below w.heap.size w (w.alloc (.cells #[.int .i64 gen, .slice pa n cap] 26)) := (Below.refl _ _).alloc (Nat.le_refl _) _
  have hx0 : (w.alloc (.cells #[.int .i64 gen, .slice pa n cap] 26)).heap[w.heap.size]? = some (.cells #[.int .i64 gen, .slice pa n cap] 26 (0, 0)) := heap_alloc_new _ _
  have hs0 : (w.alloc (.cells #[.int .i64 gen, .slice pa n cap] 26)).heap.size = w.heap.size + 1 := by simp
  have hbd := find_bd F x n
  have hA : atT F T n x = if 0 ≤ findI F x n then T (findI F x n).toNat else x := rfl
  have HFI := Lib.hid (fun W hl => find_any n F T pa cap g x W hl hn)
  generalize findI F x n = k at hbd hA HFI
  obtain ⟨hk0, hk1, _⟩ := hbd
  go_enter Tryd.func46, Tryd.ntmps46
  go_wp2_with fail
  generalize w.alloc (.cells #[.int .i64 gen, .slice pa n cap] 26) = W at hb0 hx0 hs0 ⊢
  refine (HFI.out W ((HL.out.below hb0).more (by omega))).mono ?_
  rintro _ w1 ⟨rfl, hb1⟩
  have hx1 := (hb1.block w.heap.size (by omega)).trans hx0
  have c1 : w1.cell? ⟨w.heap.size, 1, none⟩ = some (.slice pa n cap) := by rw [cell_of_row _ _ _ _ _ _ hx1]; rfl
  have hB : Below w.heap.size w w1 := hb0.trans (hb1.mono (by omega))
  have hL1 := HL.out.below hB
  clear hb0 hb1 hx0 hx1 HFI
  by_cases hk : 0 ≤ k
  · rw [if_pos hk] at hA
    obtain ⟨j, rfl⟩ : ∃ j : Nat, k = j := ⟨k.toNat, by omega⟩
    rw [Int.toNat_natCast] at hA
    have HA := Lib.hid hA
    clear hA
    obtain ⟨b, off, rfl, hb, _, hrow⟩ := hL1.rows.resolve_left (by omega)
    obtain ⟨d0, d1⟩ := pr_cells hrow (j := j) (by omega)
    clear hrow d0 hL1
    dsimp only
    go_wp2_with fail
    go_ret
    exact ⟨by rw [HA.out]; rfl, hB⟩
  · rw [if_neg hk] at hA
    have HA := Lib.hid hA
    clear hA
    dsimp only
    go_wp2_with fail
    go_ret
    exact ⟨by rw [HA.out]; rfl, hB⟩

set_option maxRecDepth 100000 in
set_option maxHeartbeats 1000000 in
theorem refat_any (gen : Int) (n : Nat) (F T : Nat → Int) (pa : Option Addr) (cap g : Nat) (x : Int) (w : World) (hl : Lay w w.heap.size g pa n cap 2 (prV F T)) (hn : n ≤ 140737488355328) :
    Calls Tryd.prog 54 #[.agg #[.int .i64 gen, .slice pa n cap], .int .i64 x] w fun e w' => e = .returned (.int .i64 (atT F T n x)) ∧ Below w.heap.size w w' := by
  have HL := Lib.hid hl
  clear hl
  have hb0 : Below w.heap.size w (w.alloc (.cells #[.int .i64 gen, .slice pa n cap] 26)) := (Below.refl _ _).alloc (Nat.le_refl _) _
  have hx0 : (w.alloc (.cells #[.int .i64 gen, .slice pa n cap] 26)).heap[w.heap.size]? = some (.cells #[.int .i64 gen, .slice pa n cap] 26 (0, 0)) := heap_alloc_new _ _
  have hs0 : (w.alloc (.cells #[.int .i64 gen, .slice pa n cap] 26)).heap.size = w.heap.size + 1 := by simp
  go_enter Tryd.func54, Tryd.ntmps54
  go_wp2_with fail
  generalize w.alloc (.cells #[.int .i64 gen, .slice pa n cap] 26) = W at hb0 hx0 hs0 ⊢
  have c1 : W.cell? ⟨w.heap.size, 1, none⟩ = some (.slice pa n cap) := by rw [cell_of_row _ _ _ _ _ _ hx0]; rfl
  clear hx0
  go_loopw [5] (fun i wr => ∃ j : Nat, j ≤ n ∧ i = .int .i64 j ∧ Hid (noneB F x j = true ∧ Below W.heap.size W wr)) (fun i _ => n - (intOf i).toNat)
  case atStart => exact ⟨0, by omega, rfl, Lib.hid ⟨rfl, Below.refl _ _⟩⟩
  case round =>
    obtain ⟨j, hj, rfl, hR⟩ := hrel
    have hBw : Below w.heap.size w wr := hb0.trans (hR.out.2.mono (by omega))
    have c1' := (hR.out.2.cell (p := ⟨w.heap.size, 1, none⟩) (show w.heap.size < W.heap.size by omega)).trans c1
    clear c1
    by_cases hlt : j < n
    · obtain ⟨b, off, rfl, hb, _, hrow⟩ := (HL.out.below hBw).rows.resolve_left (by omega)
      obtain ⟨d0, d1⟩ := pr_cells hrow hlt
      have hj0 : (0 : Int) ≤ (j : Int) := by omega
      have hjn : (j : Int) < (n : Int) := by omega
      clear hrow
      by_cases e : F j = x
      · have e' : (F j == x) = true := by simpa using e
        have HV : Hid (atT F T n x = T j) := Lib.hid (by unfold atT; rw [find_at (n := n) hR.out.1 e hlt, if_pos (by omega), Int.toNat_natCast])
        clear e
        go_wp2_with fail
        go_ret
        exact ⟨by rw [HV.out]; rfl, hBw⟩
      · have e' : (F j == x) = false := by simpa using e
        have HN : Hid (noneB F x (j + 1) = true ∧ Below W.heap.size W wr) := Lib.hid ⟨by simp only [noneB, hR.out.1, Bool.true_and]; simpa using e, hR.out.2⟩
        clear e hR
        go_wp2_with fail
        go_roundw
        case rel => exact ⟨j + 1, by omega, by go_num, HN⟩
        case measure => simp [intOf]; omega
    · obtain rfl : j = n := by omega
      have HV : Hid (atT F T j x = x) := Lib.hid (by unfold atT; rw [find_none hR.out.1, if_neg (by omega)])
      clear hR
      go_wp2_with fail
      go_ret
      exact ⟨by rw [HV.out]; rfl, hBw⟩
end Rm
end Go.Proofs.YtllejfnmbpjhaaaDoor
