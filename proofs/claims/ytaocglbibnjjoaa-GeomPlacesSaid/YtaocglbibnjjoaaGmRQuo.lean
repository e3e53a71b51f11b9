/- geom: the reference's Quota. -/
import Derived.Test.YtaocglbibnjjoaaGmQuo
namespace Go.Proofs.Ytaocglbibnjjoaa
set_option maxRecDepth 20000
namespace Gm
open Go.RowKit

set_option maxHeartbeats 1000000 in
theorem refquota_any (g : Gg) (w : World) : Calls Try.prog 15 #[.agg (gA g)] w fun e w' => e = .returned (.int .i64 (qn g)) ∧ Below w.heap.size w w' := by
  have HF := Lib.hid refforq_any
  obtain ⟨W, hW, HX⟩ := box_g w g
  have hws := HX.out.2.1
  obtain ⟨S, H, R, L, J, Z⟩ := g
  dsimp only [gA] at hW ⊢
  go_enter Try.func15, Try.ntmps15
  go_wp2_with (rw [← hW])
  clear hW
  go_loopw [3] (fun i wr => ∃ q : Int, 4 ≤ q ∧ q ≤ 901 ∧ i = .int .i64 q ∧ Hid (Below W.heap.size W wr ∧ ∀ p, 4 ≤ p → p < q → lay p ≠ ⟨S, H, R, L, J, Z⟩)) (fun i _ => (901 - intOf i).toNat)
  case atStart => exact ⟨4, by omega, by omega, rfl, Lib.hid ⟨Below.refl _ _, fun p _ _ => by omega⟩⟩
  case round =>
    obtain ⟨q, hq4, hq9, rfl, HB⟩ := hrel
    have hsz := HB.out.1.size
    by_cases hlt : q ≤ 900
    · have hq : inQ q := ⟨hq4, hlt⟩
      have HQ := HF.out q
      rw [geo_in hq, er_in hq] at HQ
      have HQ2 := Lib.hid HQ
      clear hq HQ
      go_wp2_with fail
      refine (HQ2.out _).mono ?_
      rintro _ w2 ⟨rfl, hb2⟩
      dsimp only [gA, lay]
      have hs2 := hb2.size
      obtain ⟨W2, hW2, HY⟩ := box_g w2 (lay q)
      have x := HX.out.1.below (HB.out.1.trans ((hb2.trans (HY.out.2.2.mono hs2)).mono hsz)) (by omega)
      have y := HY.out.1
      have x0 := x.c0; have x1 := x.c1; have x2 := x.c2; have x3 := x.c3; have x4 := x.c4; have x5 := x.c5
      have y0 := y.c0; have y1 := y.c1; have y2 := y.c2; have y3 := y.c3; have y4 := y.c4; have y5 := y.c5
      have HB2 := Lib.hid (HB.out.1.trans ((hb2.trans (HY.out.2.2.mono hs2)).mono hsz))
      clear hb2 x y
      dsimp only [gA, lay] at x0 x1 x2 x3 x4 x5 y0 y1 y2 y3 y4 y5 hW2
      by_cases he : lay q = ⟨S, H, R, L, J, Z⟩
      · have HE := Lib.hid (eqG_iff.2 he)
        have HQN : Hid (qn ⟨S, H, R, L, J, Z⟩ = q) := Lib.hid (by rw [← he]; exact qn_of ⟨hq4, hlt⟩)
        clear he HB
        subst hW2
        go_wp2_with ((refine @wpList_eqlG _ _ _ _ _ _ (.tmp 15) (.tmp 16) rfl rfl (lay q) ⟨S, H, R, L, J, Z⟩ rfl rfl ?_; rw [HE.out]; simp only [Act.put]))
        go_ret
        rw [HQN.out]
        exact ⟨rfl, HX.out.2.2.trans (HB2.out.mono (by omega))⟩
      · have HE := Lib.hid (eqG_no he)
        have HN := Lib.hid he
        clear he
        subst hW2
        go_wp2_with ((refine @wpList_eqlG _ _ _ _ _ _ (.tmp 15) (.tmp 16) rfl rfl (lay q) ⟨S, H, R, L, J, Z⟩ rfl rfl ?_; rw [HE.out]; simp only [Act.put]))
        go_roundw
        case rel => exact ⟨q + 1, by omega, by omega, by go_num, Lib.hid ⟨HB2.out, fun p h1 h2 => by
          rcases Int.lt_or_eq_of_le (show p ≤ q by omega) with h | h
          · exact HB.out.2 p h1 h
          · rw [h]; exact HN.out⟩⟩
        case measure => simp [intOf]; omega
    · obtain rfl : q = 901 := by omega
      have HF0 := Lib.hid (show qn ⟨S, H, R, L, J, Z⟩ = 0 from qn_no fun p hp => HB.out.2 p hp.1 (by have := hp.2; omega))
      go_wp2_with fail
      go_ret
      rw [HF0.out]
      exact ⟨rfl, HX.out.2.2.trans (HB.out.1.mono (by omega))⟩
end Gm
end Go.Proofs.Ytaocglbibnjjoaa
