/- geom: RootAt, LogAt, RegionAt. -/
import Derived.Test.YtaocglbibnjjoaaGmAt
namespace Go.Proofs.Ytaocglbibnjjoaa
set_option maxRecDepth 20000
namespace Gm
open Go.RowKit

def rtI (g : Gg) (n h : Int) : Int := if n < 0 then 0 else pl g 2 h (n.tmod 2)
def rtE (g : Gg) (n h : Int) : Int := if n < 0 then 1 else plE g 2 h (n.tmod 2)
theorem tmod_two {n : Int} (h : 0 ≤ n) : 0 ≤ n.tmod 2 ∧ n.tmod 2 < 2 := by
  rw [Int.tmod_eq_emod_of_nonneg h]
  omega
theorem inhalf_pl (g : Gg) (k h i j : Int) (w : World) (hS : i64 g.S) (hk : k = 2 ∨ k = 3 ∨ k = 4) (hi : ∀ q, inQ q → g = lay q → 0 ≤ i ∧ i < cnt q k ∧ j = off k + i) : Calls Try.prog 20 #[.agg (gA g), .int .i64 h, .int .i64 j] w fun e w' => e = .returned (.tuple #[.int .i64 (pl g k h i), .int .i64 (plE g k h i)]) ∧ Below w.heap.size w w' := by
  obtain ⟨e1, e2⟩ := ih_pl (h := h) hk hi
  rw [← e1, ← e2]
  refine inhalf_any g h j w hS ?_
  rcases qn_cases g with ⟨q, hq, hg, _⟩ | ⟨hn, _⟩
  · obtain ⟨i0, i1, rfl⟩ := hi q hq hg
    unfold inQ at hq
    unfold cnt at i1
    unfold off
    rcases hk with rfl | rfl | rfl <;> simp at i1 ⊢ <;> omega
  · exact .inl hn

set_option maxRecDepth 100000 in
set_option maxHeartbeats 2000000 in
theorem root_any (g : Gg) (n h : Int) (w : World) (hg : i64 g.S ∧ i64 g.R) (hn : i64 n) : Calls Try.prog 16 #[.agg (gA g), .int .i64 n, .int .i64 h] w fun e w' => e = .returned (.tuple #[.int .i64 (rtI g n h), .int .i64 (rtE g n h)]) ∧ Below w.heap.size w w' := by
  obtain ⟨hS, hR⟩ := hg
  have HI := Lib.hid (fun j hj w => inhalf_pl g 2 h (n.tmod 2) j w hS (by simp) hj)
  obtain ⟨W, hW, HX⟩ := box_g w g
  have hws := HX.out.2.1
  have c0 := HX.out.1.c0
  have c1 := HX.out.1.c1
  have c2 := HX.out.1.c2
  have c3 := HX.out.1.c3
  have c4 := HX.out.1.c4
  have c5 := HX.out.1.c5
  obtain ⟨hn1, hn2⟩ := hn
  by_cases h0 : n < 0
  · rw [show rtI g n h = 0 from if_pos h0, show rtE g n h = 1 from if_pos h0]
    clear HI
    obtain ⟨S, H, R, L, J, Z⟩ := g
    dsimp only [gA] at hW c0 c1 c2 c3 c4 c5 ⊢
    go_enter Try.func16, Try.ntmps16
    go_wp2_with (rw [← hW])
    clear hW
    go_ret2
    exact ⟨rfl, HX.out.2.2⟩
  rw [show rtI g n h = pl g 2 h (n.tmod 2) from if_neg h0, show rtE g n h = plE g 2 h (n.tmod 2) from if_neg h0]
  obtain ⟨m0, m1⟩ := tmod_two (Int.not_lt.1 h0)
  obtain ⟨hR1, hR2⟩ := hR
  have HM := Lib.hid (show ∃ m, m = n.tmod 2 from ⟨_, rfl⟩)
  obtain ⟨m, hm⟩ := HM.out
  rw [← hm] at HI m0 m1 ⊢
  have hm2 := hm.symm
  clear hm HM
  rcases qn_cases g with ⟨q, hq, hg, _⟩ | ⟨hn, hno⟩
  · subst hg
    have HJ := Lib.hid (HI.out (2 + m) (fun p hp e => by
      have hpq := lay_inj e
      subst hpq
      simp [cnt, off]
      unfold inQ at hp
      omega))
    clear HI
    unfold inQ at hq
    obtain ⟨hq1, hq2⟩ := hq
    generalize pl (lay q) 2 h m = P at *
    generalize plE (lay q) 2 h m = E at *
    dsimp only [gA, lay] at HJ
    dsimp only [gA, lay] at hW c0 c1 c2 c3 c4 c5 ⊢
    go_enter Try.func16, Try.ntmps16
    go_wp2_with (rw [← hW])
    clear hW
    refine (HJ.out _).mono ?_
    rintro _ w1 ⟨rfl, hb1⟩
    dsimp only
    go_wp2_with fail
    go_ret2
    exact ⟨rfl, HX.out.2.2.trans (hb1.mono (by omega))⟩
  · have HJ := Lib.hid (HI.out (wrap64 (g.R + m)) (fun p hp e => absurd e.symm (hno p hp)))
    clear HI hn hno hS
    generalize pl g 2 h m = P at *
    generalize plE g 2 h m = E at *
    obtain ⟨S, H, R, L, J, Z⟩ := g
    dsimp only [gA] at HJ
    dsimp only [gA] at hW c0 c1 c2 c3 c4 c5 ⊢
    go_enter Try.func16, Try.ntmps16
    go_wp2_with (rw [← hW])
    clear hW
    refine (HJ.out _).mono ?_
    rintro _ w1 ⟨rfl, hb1⟩
    dsimp only
    go_wp2_with fail
    go_ret2
    exact ⟨rfl, HX.out.2.2.trans (hb1.mono (by omega))⟩
set_option maxRecDepth 100000 in
set_option maxHeartbeats 2000000 in
theorem log_any (g : Gg) (n h : Int) (w : World) (hg : i64 g.S ∧ i64 g.L) (hn : i64 n) : Calls Try.prog 17 #[.agg (gA g), .int .i64 n, .int .i64 h] w fun e w' => e = .returned (.tuple #[.int .i64 (pl g 3 h n), .int .i64 (plE g 3 h n)]) ∧ Below w.heap.size w w' := by
  obtain ⟨hS, hR⟩ := hg
  have HI := Lib.hid (fun j hj w => inhalf_pl g 3 h n j w hS (by simp) hj)
  obtain ⟨W, hW, HX⟩ := box_g w g
  have hws := HX.out.2.1
  have c0 := HX.out.1.c0
  have c1 := HX.out.1.c1
  have c2 := HX.out.1.c2
  have c3 := HX.out.1.c3
  have c4 := HX.out.1.c4
  have c5 := HX.out.1.c5
  obtain ⟨hn1, hn2⟩ := hn
  by_cases h0 : n < 0 ∨ 24 ≤ n
  · have e : pl g 3 h n = 0 ∧ plE g 3 h n = 1 := by
      rcases qn_cases g with ⟨q, hq, hg, _⟩ | ⟨hz, _⟩
      · subst hg
        exact pl_out hq (fun c => by
          obtain ⟨_, c1, c2⟩ := c
          simp [cnt] at c2
          omega)
      · exact pl_none hz _ _ _
    rw [e.1, e.2]
    clear HI e
    obtain ⟨S, H, R, L, J, Z⟩ := g
    by_cases h1 : n < 0
    · have b1 : decide (n < 0) = true := decide_eq_true h1
      clear h0
      dsimp only [gA] at hW c0 c1 c2 c3 c4 c5 ⊢
      go_enter Try.func17, Try.ntmps17
      go_wp2_with (rw [← hW])
      clear hW
      go_ret2
      exact ⟨rfl, HX.out.2.2⟩
    · have b1 : decide (n < 0) = false := decide_eq_false h1
      have h2 : 24 ≤ n := by omega
      have b2 : decide (24 ≤ n) = true := decide_eq_true h2
      clear h0
      dsimp only [gA] at hW c0 c1 c2 c3 c4 c5 ⊢
      go_enter Try.func17, Try.ntmps17
      go_wp2_with (rw [← hW])
      clear hW
      go_ret2
      exact ⟨rfl, HX.out.2.2⟩
  have n0 : 0 ≤ n := by omega
  have n1 : n < 24 := by omega
  have b1 : decide (n < 0) = false := decide_eq_false (by omega)
  have b2 : decide (24 ≤ n) = false := decide_eq_false (by omega)
  obtain ⟨hR1, hR2⟩ := hR
  clear h0
  rcases qn_cases g with ⟨q, hq, hg, _⟩ | ⟨hn, hno⟩
  · subst hg
    have HJ := Lib.hid (HI.out (4 + n) (fun p hp e => by
      have hpq := lay_inj e
      subst hpq
      simp [cnt, off]
      unfold inQ at hp
      omega))
    clear HI
    unfold inQ at hq
    obtain ⟨hq1, hq2⟩ := hq
    generalize pl (lay q) 3 h n = P at *
    generalize plE (lay q) 3 h n = E at *
    dsimp only [gA, lay] at HJ
    dsimp only [gA, lay] at hW c0 c1 c2 c3 c4 c5 ⊢
    go_enter Try.func17, Try.ntmps17
    go_wp2_with (rw [← hW])
    clear hW
    refine (HJ.out _).mono ?_
    rintro _ w1 ⟨rfl, hb1⟩
    dsimp only
    go_wp2_with fail
    go_ret2
    exact ⟨rfl, HX.out.2.2.trans (hb1.mono (by omega))⟩
  · have HJ := Lib.hid (HI.out (wrap64 (g.L + n)) (fun p hp e => absurd e.symm (hno p hp)))
    clear HI hn hno hS
    generalize pl g 3 h n = P at *
    generalize plE g 3 h n = E at *
    obtain ⟨S, H, R, L, J, Z⟩ := g
    dsimp only [gA] at HJ
    dsimp only [gA] at hW c0 c1 c2 c3 c4 c5 ⊢
    go_enter Try.func17, Try.ntmps17
    go_wp2_with (rw [← hW])
    clear hW
    refine (HJ.out _).mono ?_
    rintro _ w1 ⟨rfl, hb1⟩
    dsimp only
    go_wp2_with fail
    go_ret2
    exact ⟨rfl, HX.out.2.2.trans (hb1.mono (by omega))⟩
set_option maxRecDepth 100000 in
set_option maxHeartbeats 2000000 in
theorem region_any (g : Gg) (h : Int) (w : World) (hS : i64 g.S) : Calls Try.prog 18 #[.agg (gA g), .int .i64 h] w fun e w' => e = .returned (.tuple #[.int .i64 (pl g 4 h 0), .int .i64 (plE g 4 h 0)]) ∧ Below w.heap.size w w' := by
  have HI := Lib.hid (fun j hj w => inhalf_pl g 4 h 0 j w hS (by simp) hj)
  obtain ⟨W, hW, HX⟩ := box_g w g
  have hws := HX.out.2.1
  have c0 := HX.out.1.c0
  have c1 := HX.out.1.c1
  have c2 := HX.out.1.c2
  have c3 := HX.out.1.c3
  have c4 := HX.out.1.c4
  have c5 := HX.out.1.c5
  rcases qn_cases g with ⟨q, hq, hg, _⟩ | ⟨hn, hno⟩
  · subst hg
    have HJ := Lib.hid (HI.out 28 (fun p hp e => by
      have hpq := lay_inj e
      subst hpq
      simp [cnt, off]
      unfold inQ at hp
      omega))
    clear HI
    unfold inQ at hq
    obtain ⟨hq1, hq2⟩ := hq
    generalize pl (lay q) 4 h 0 = P at *
    generalize plE (lay q) 4 h 0 = E at *
    dsimp only [gA, lay] at HJ
    dsimp only [gA, lay] at hW c0 c1 c2 c3 c4 c5 ⊢
    go_enter Try.func18, Try.ntmps18
    go_wp2_with (rw [← hW])
    clear hW
    refine (HJ.out _).mono ?_
    rintro _ w1 ⟨rfl, hb1⟩
    dsimp only
    go_wp2_with fail
    go_ret2
    exact ⟨rfl, HX.out.2.2.trans (hb1.mono (by omega))⟩
  · have HJ := Lib.hid (HI.out g.J (fun p hp e => absurd e.symm (hno p hp)))
    clear HI hn hno hS
    generalize pl g 4 h 0 = P at *
    generalize plE g 4 h 0 = E at *
    obtain ⟨S, H, R, L, J, Z⟩ := g
    dsimp only [gA] at HJ
    dsimp only [gA] at hW c0 c1 c2 c3 c4 c5 ⊢
    go_enter Try.func18, Try.ntmps18
    go_wp2_with (rw [← hW])
    clear hW
    refine (HJ.out _).mono ?_
    rintro _ w1 ⟨rfl, hb1⟩
    dsimp only
    go_wp2_with fail
    go_ret2
    exact ⟨rfl, HX.out.2.2.trans (hb1.mono (by omega))⟩
end Gm
end Go.Proofs.Ytaocglbibnjjoaa
