/- geom: inHalf, RootAt, LogAt, RegionAt. -/
import Derived.Test.YtaocglbibnjjoaaGmWhat
namespace Go.Proofs.Ytaocglbibnjjoaa
set_option maxRecDepth 20000
namespace Gm
open Go.RowKit

def ihI (g : Gg) (h i : Int) : Int := if qn g = 0 ∨ h < 0 ∨ 2 ≤ h then 0 else h * g.H + i
def ihE (g : Gg) (h : Int) : Int := if qn g = 0 ∨ h < 0 ∨ 2 ≤ h then 1 else 0
theorem ih_no {g : Gg} {h : Int} (c : qn g = 0 ∨ h < 0 ∨ 2 ≤ h) (i : Int) : ihI g h i = 0 ∧ ihE g h = 1 := ⟨if_pos c, if_pos c⟩
theorem ih_yes {q h : Int} (hq : inQ q) (h0 : 0 ≤ h) (h1 : h < 2) (i : Int) : ihI (lay q) h i = h * (2 * q + 148) + i ∧ ihE (lay q) h = 0 := by
  have c : ¬ (qn (lay q) = 0 ∨ h < 0 ∨ 2 ≤ h) := by
    rw [qn_of hq]
    unfold inQ at hq
    omega
  exact ⟨if_neg c, if_neg c⟩
/-- as the document says it -/
theorem ih_pl {g : Gg} {k h i j : Int} (_hk : k = 2 ∨ k = 3 ∨ k = 4) (hi : ∀ q, inQ q → g = lay q → 0 ≤ i ∧ i < cnt q k ∧ j = off k + i) : ihI g h j = pl g k h i ∧ ihE g h = plE g k h i := by
  rcases qn_cases g with ⟨q, hq, hg, hn⟩ | ⟨hn, _⟩
  · obtain ⟨i0, i1, rfl⟩ := hi q hq hg
    subst hg
    by_cases hh : h = 0 ∨ h = 1
    · have hb : atB q k h i := ⟨hh, i0, i1⟩
      rw [(pl_in hq hb).1, (pl_in hq hb).2, (ih_yes hq (by omega) (by omega) _).1, (ih_yes hq (by omega) (by omega) (off k + i)).2]
      exact ⟨rfl, rfl⟩
    · have hb : ¬ atB q k h i := fun c => hh c.1
      rw [(pl_out hq hb).1, (pl_out hq hb).2]
      exact ih_no (by omega) _
  · rw [(pl_none hn k h i).1, (pl_none hn k h i).2]
    exact ih_no (.inl hn) _

set_option maxRecDepth 100000 in
set_option maxHeartbeats 2000000 in
theorem inhalf_any (g : Gg) (h i : Int) (w : World) (hS : i64 g.S) (hi : qn g = 0 ∨ 0 ≤ i ∧ i ≤ 4096) : Calls Try.prog 20 #[.agg (gA g), .int .i64 h, .int .i64 i] w fun e w' => e = .returned (.tuple #[.int .i64 (ihI g h i), .int .i64 (ihE g h)]) ∧ Below w.heap.size w w' := by
  have HQ := Lib.hid (fun w => quota_any g w hS)
  obtain ⟨W, hW, HX⟩ := box_g w g
  have hws := HX.out.2.1
  have c0 := HX.out.1.c0
  have c1 := HX.out.1.c1
  have c2 := HX.out.1.c2
  have c3 := HX.out.1.c3
  have c4 := HX.out.1.c4
  have c5 := HX.out.1.c5
  rcases qn_cases g with ⟨q, hq, hg, hn⟩ | ⟨hn, _⟩
  · subst hg
    have HC := Lib.hid (fun w' (h : Below W.heap.size W w') => cells_lay (HX.out.1.below h (by omega)))
    rw [hn] at HQ hi
    have HQQ := Lib.hid hq
    unfold inQ at hq
    obtain ⟨hq1, hq2⟩ := hq
    have b0 : (q == 0) = false := by simp; omega
    obtain ⟨hi0, hi1⟩ := hi.resolve_left (by omega)
    clear hn hi
    by_cases h0 : h < 0
    · rw [(ih_no (.inr (.inl h0)) _).1, (ih_no (.inr (.inl h0)) i).2]
      have b1 : decide (h < 0) = true := decide_eq_true h0
      dsimp only [gA, lay] at hW HQ c0 c1 c2 c3 c4 c5 ⊢
      go_enter Try.func20, Try.ntmps20
      go_wp2_with (rw [← hW])
      clear hW
      refine (HQ.out _).mono ?_
      rintro _ w1 ⟨rfl, hb1⟩
      dsimp only
      go_wp2_with fail
      go_ret2
      exact ⟨rfl, HX.out.2.2.trans (hb1.mono (by omega))⟩
    have b1 : decide (h < 0) = false := decide_eq_false h0
    by_cases h2 : 2 ≤ h
    · rw [(ih_no (.inr (.inr h2)) _).1, (ih_no (.inr (.inr h2)) i).2]
      have b2 : decide (2 ≤ h) = true := decide_eq_true h2
      dsimp only [gA, lay] at hW HQ c0 c1 c2 c3 c4 c5 ⊢
      go_enter Try.func20, Try.ntmps20
      go_wp2_with (rw [← hW])
      clear hW
      refine (HQ.out _).mono ?_
      rintro _ w1 ⟨rfl, hb1⟩
      dsimp only
      go_wp2_with fail
      go_ret2
      exact ⟨rfl, HX.out.2.2.trans (hb1.mono (by omega))⟩
    rw [(ih_yes HQQ.out (by omega) (by omega) i).1, (ih_yes HQQ.out (by omega : 0 ≤ h) (by omega) i).2]
    obtain rfl | rfl : h = 0 ∨ h = 1 := by omega
    · clear h0 b1 h2
      dsimp only [gA, lay] at hW HQ c0 c1 c2 c3 c4 c5 ⊢
      go_enter Try.func20, Try.ntmps20
      go_wp2_with (rw [← hW])
      clear hW
      refine (HQ.out _).mono ?_
      rintro _ w1 ⟨rfl, hb1⟩
      obtain ⟨d0, d1, d2, d3, d4, d5⟩ := HC.out w1 hb1
      have HB := Lib.hid hb1
      clear hb1
      dsimp only
      go_wp2_with fail
      go_ret2
      exact ⟨by simp, HX.out.2.2.trans (HB.out.mono (by omega))⟩
    · clear h0 b1 h2
      dsimp only [gA, lay] at hW HQ c0 c1 c2 c3 c4 c5 ⊢
      go_enter Try.func20, Try.ntmps20
      go_wp2_with (rw [← hW])
      clear hW
      refine (HQ.out _).mono ?_
      rintro _ w1 ⟨rfl, hb1⟩
      obtain ⟨d0, d1, d2, d3, d4, d5⟩ := HC.out w1 hb1
      have HB := Lib.hid hb1
      clear hb1
      dsimp only
      go_wp2_with fail
      go_ret2
      exact ⟨by simp, HX.out.2.2.trans (HB.out.mono (by omega))⟩
  · rw [(ih_no (.inl hn) _).1, (ih_no (.inl hn) i).2]
    rw [hn] at HQ
    clear hn hi hS
    obtain ⟨S, H, R, L, J, Z⟩ := g
    dsimp only [gA] at hW HQ c0 c1 c2 c3 c4 c5 ⊢
    go_enter Try.func20, Try.ntmps20
    go_wp2_with (rw [← hW])
    clear hW
    refine (HQ.out _).mono ?_
    rintro _ w1 ⟨rfl, hb1⟩
    dsimp only
    go_wp2_with fail
    go_ret2
    exact ⟨rfl, HX.out.2.2.trans (hb1.mono (by omega))⟩
end Gm
end Go.Proofs.Ytaocglbibnjjoaa
