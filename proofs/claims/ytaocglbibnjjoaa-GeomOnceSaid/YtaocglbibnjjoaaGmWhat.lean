/- geom: What. -/
import Derived.Test.YtaocglbibnjjoaaGmQuo
import Derived.OwnWalk
namespace Go.Proofs.Ytaocglbibnjjoaa
set_option maxRecDepth 20000
namespace Gm
open Go.RowKit

/-- the cells of a box -/
theorem cells_lay {w : World} {b : Nat} {q : Int} (h : Bg w b (lay q)) : w.cell? ⟨b, 0, none⟩ = some (.int .i64 (4 * q + 316)) ∧ w.cell? ⟨b, 1, none⟩ = some (.int .i64 (2 * q + 148)) ∧ w.cell? ⟨b, 2, none⟩ = some (.int .i64 2) ∧ w.cell? ⟨b, 3, none⟩ = some (.int .i64 4) ∧ w.cell? ⟨b, 4, none⟩ = some (.int .i64 28) ∧ w.cell? ⟨b, 5, none⟩ = some (.int .i64 (2 * q + 120)) :=
  ⟨h.c0, h.c1, h.c2, h.c3, h.c4, h.c5⟩
theorem half_div {q h i x : Int} (hq : inQ q) (hh : h = 0 ∨ h = 1) (h0 : 0 ≤ i) (h1 : i < 2 * q + 148) (e : x = h * (2 * q + 148) + i) : x.tdiv (2 * q + 148) = h ∧ x.tmod (2 * q + 148) = i := by
  unfold inQ at hq
  have hx : 0 ≤ x := by rcases hh with rfl | rfl <;> omega
  have hd : (2 * q + 148) ≠ 0 := by omega
  rw [Int.tdiv_eq_ediv_of_nonneg hx, Int.tmod_eq_emod_of_nonneg hx, e]
  constructor
  · rw [Int.add_comm, Int.add_mul_ediv_right _ _ hd, Int.ediv_eq_zero_of_lt h0 h1, Int.zero_add]
  · rw [Int.add_comm, Int.add_mul_emod_self_right, Int.emod_eq_of_lt h0 h1]

set_option maxRecDepth 100000 in
set_option maxHeartbeats 4000000 in
theorem what_lay (q x : Int) (w : World) (hq : inQ q) (hx : i64 x) : Calls Try.prog 12 #[.agg (gA (lay q)), .int .i64 x] w fun e w' => e = .returned (.tuple #[.int .i64 (wha (lay q) x).k, .int .i64 (wha (lay q) x).h, .int .i64 (wha (lay q) x).i]) ∧ Below w.heap.size w w' := by
  have HQ := Lib.hid (fun w => quota_any (lay q) w (by unfold inQ at hq; simp only [lay, i64]; omega))
  rw [qn_of hq] at HQ
  obtain ⟨W, hW, HX⟩ := box_g w (lay q)
  have hws := HX.out.2.1
  have HQQ := Lib.hid hq
  have HC := Lib.hid (fun w' (h : Below W.heap.size W w') => cells_lay (HX.out.1.below h (by omega)))
  obtain ⟨c0, c1, c2, c3, c4, c5⟩ := cells_lay HX.out.1
  unfold inQ at hq
  obtain ⟨hq1, hq2⟩ := hq
  obtain ⟨hx1, hx2⟩ := hx
  have b0 : (q == 0) = false := by simp; omega
  by_cases hneg : x < 0
  · rw [wha_zero (.inr (.inl hneg))]
    have b1 : decide (x < 0) = true := decide_eq_true hneg
    dsimp only [gA, lay, zW] at hW HQ ⊢
    go_enter Try.func12, Try.ntmps12
    go_wp2_with (rw [← hW])
    clear hW
    refine (HQ.out _).mono ?_
    rintro _ w1 ⟨rfl, hb1⟩
    have HB := Lib.hid hb1
    clear hb1
    dsimp only
    go_wp2_with fail
    go_ret3
    exact ⟨rfl, HX.out.2.2.trans (HB.out.mono (by omega))⟩
  have b1 : decide (x < 0) = false := decide_eq_false hneg
  by_cases hbig : 4 * q + 316 ≤ x
  · rw [wha_zero (.inr (.inr (by simp only [lay]; exact hbig)))]
    have b2 : decide (4 * q + 316 ≤ x) = true := decide_eq_true hbig
    dsimp only [gA, lay, zW] at hW HQ ⊢
    go_enter Try.func12, Try.ntmps12
    go_wp2_with (rw [← hW])
    clear hW
    refine (HQ.out _).mono ?_
    rintro _ w1 ⟨rfl, hb1⟩
    have HB := Lib.hid hb1
    obtain ⟨d0, d1, d2, d3, d4, d5⟩ := HC.out w1 HB.out
    clear hb1
    dsimp only
    go_wp2_with fail
    go_ret3
    exact ⟨rfl, HX.out.2.2.trans (HB.out.mono (by omega))⟩
  have b2 : decide (4 * q + 316 ≤ x) = false := decide_eq_false hbig
  by_cases hsp : 4 * q + 296 ≤ x
  · rw [wha_spare HQQ.out hsp (by omega)]
    have hsp2 : 2 * (2 * q + 148) ≤ x := by omega
    have e1 : x - 2 * (2 * q + 148) = x - (4 * q + 296) := by omega
    have HE1 := Lib.hid e1
    clear e1
    dsimp only [gA, lay, zW] at hW HQ ⊢
    go_enter Try.func12, Try.ntmps12
    go_wp2_with (rw [← hW])
    clear hW
    refine (HQ.out _).mono ?_
    rintro _ w1 ⟨rfl, hb1⟩
    have HB := Lib.hid hb1
    obtain ⟨d0, d1, d2, d3, d4, d5⟩ := HC.out w1 HB.out
    clear hb1
    dsimp only
    go_wp2_with fail
    go_quiet (fail)
    go_wp2_with fail
    rw [← HE1.out]
    go_ret3
    exact ⟨rfl, HX.out.2.2.trans ((below_drewN HB.out _).mono (by omega))⟩
  obtain ⟨h, i, hh, hi0, hi1, he⟩ := (sect HQQ.out (by omega : 0 ≤ x) (by omega)).resolve_left hsp
  obtain ⟨hd, hm⟩ := half_div HQQ.out hh hi0 hi1 he
  rw [show wha (lay q) x = inHalf h i by rw [he]; exact wha_half HQQ.out hh hi0 hi1]
  have hh1 : 0 ≤ h ∧ h ≤ 1 := by omega
  obtain ⟨hh1, hh2⟩ := hh1
  have hnz : ¬ 2 * q + 148 = 0 := by omega
  have hns : ¬ 2 * (2 * q + 148) ≤ x := by omega
  clear he hh hsp
  by_cases k1 : i < 2
  · rw [ih1 k1]
    dsimp only [gA, lay, zW] at hW HQ ⊢
    go_enter Try.func12, Try.ntmps12
    go_wp2_with (rw [← hW])
    clear hW
    refine (HQ.out _).mono ?_
    rintro _ w1 ⟨rfl, hb1⟩
    have HB := Lib.hid hb1
    obtain ⟨d0, d1, d2, d3, d4, d5⟩ := HC.out w1 HB.out
    clear hb1
    dsimp only
    go_wp2_with fail
    go_quiet (fail)
    go_wp2_with fail
    go_ret3
    exact ⟨rfl, HX.out.2.2.trans ((below_drewN HB.out _).mono (by omega))⟩
  by_cases k2 : i < 4
  · rw [ih2 (by omega) k2]
    dsimp only [gA, lay, zW] at hW HQ ⊢
    go_enter Try.func12, Try.ntmps12
    go_wp2_with (rw [← hW])
    clear hW
    refine (HQ.out _).mono ?_
    rintro _ w1 ⟨rfl, hb1⟩
    have HB := Lib.hid hb1
    obtain ⟨d0, d1, d2, d3, d4, d5⟩ := HC.out w1 HB.out
    clear hb1
    dsimp only
    go_wp2_with fail
    go_quiet (fail)
    go_wp2_with fail
    go_ret3
    exact ⟨rfl, HX.out.2.2.trans ((below_drewN HB.out _).mono (by omega))⟩
  by_cases k3 : i < 28
  · rw [ih3 (by omega) k3, show i - 4 = i - 2 - 2 by omega]
    dsimp only [gA, lay, zW] at hW HQ ⊢
    go_enter Try.func12, Try.ntmps12
    go_wp2_with (rw [← hW])
    clear hW
    refine (HQ.out _).mono ?_
    rintro _ w1 ⟨rfl, hb1⟩
    have HB := Lib.hid hb1
    obtain ⟨d0, d1, d2, d3, d4, d5⟩ := HC.out w1 HB.out
    clear hb1
    dsimp only
    go_wp2_with fail
    go_quiet (fail)
    go_wp2_with fail
    go_ret3
    exact ⟨rfl, HX.out.2.2.trans ((below_drewN HB.out _).mono (by omega))⟩
  · rw [ih4 (by omega), show i - 28 = i - 24 - 2 - 2 by omega]
    dsimp only [gA, lay, zW] at hW HQ ⊢
    go_enter Try.func12, Try.ntmps12
    go_wp2_with (rw [← hW])
    clear hW
    refine (HQ.out _).mono ?_
    rintro _ w1 ⟨rfl, hb1⟩
    have HB := Lib.hid hb1
    obtain ⟨d0, d1, d2, d3, d4, d5⟩ := HC.out w1 HB.out
    clear hb1
    dsimp only
    go_wp2_with fail
    go_quiet (fail)
    go_wp2_with fail
    go_ret3
    exact ⟨rfl, HX.out.2.2.trans ((below_drewN HB.out _).mono (by omega))⟩
set_option maxHeartbeats 1000000 in
theorem what_any (g : Gg) (x : Int) (w : World) (hS : i64 g.S) (hx : i64 x) : Calls Try.prog 12 #[.agg (gA g), .int .i64 x] w fun e w' => e = .returned (.tuple #[.int .i64 (wha g x).k, .int .i64 (wha g x).h, .int .i64 (wha g x).i]) ∧ Below w.heap.size w w' := by
  rcases qn_cases g with ⟨q, hq, hg, _⟩ | ⟨hn, _⟩
  · subst hg
    exact what_lay q x w hq hx
  · have HQ := Lib.hid (fun w => quota_any g w hS)
    rw [hn] at HQ
    rw [wha_zero (.inl hn)]
    obtain ⟨W, hW, HX⟩ := box_g w g
    have hws := HX.out.2.1
    have c0 := HX.out.1.c0
    have c1 := HX.out.1.c1
    have c2 := HX.out.1.c2
    have c3 := HX.out.1.c3
    have c4 := HX.out.1.c4
    have c5 := HX.out.1.c5
    clear hn
    obtain ⟨S, H, R, L, J, Z⟩ := g
    dsimp only [gA, zW] at hW HQ c0 c1 c2 c3 c4 c5 ⊢
    go_enter Try.func12, Try.ntmps12
    go_wp2_with (rw [← hW])
    clear hW
    refine (HQ.out _).mono ?_
    rintro _ w1 ⟨rfl, hb1⟩
    dsimp only
    go_wp2_with fail
    go_ret3
    exact ⟨rfl, HX.out.2.2.trans (hb1.mono (by omega))⟩
end Gm
end Go.Proofs.Ytaocglbibnjjoaa
