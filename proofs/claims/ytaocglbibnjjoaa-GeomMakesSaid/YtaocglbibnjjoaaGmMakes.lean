/- geom: the law GeomMakes. -/
import Derived.Test.YtaocglbibnjjoaaGmAlive
namespace Go.Proofs.Ytaocglbibnjjoaa
set_option maxRecDepth 20000
namespace Gm
open Go.RowKit

set_option maxRecDepth 100000 in
set_option maxHeartbeats 4000000 in
theorem makes8_any (q n : Int) (w : World) (hn : i64 n) : Calls Try.prog 3 #[.int .i64 q, .int .i64 n] w fun e w' => e = .returned (.bool true) ∧ Below w.heap.size w w' := by
  have HA := Lib.hid alive8_any
  have H1 := Lib.hid (fun w => forq_any q w)
  have H2 := Lib.hid (fun w => refforq_any q w)
  have H3 := Lib.hid (fun w => fors_any n w hn)
  have H4 := Lib.hid (fun w => refors_any n w)
  generalize geo q = g at *
  generalize er q = e at *
  generalize geo (fsq n) = k at *
  generalize er (fsq n) = f at *
  obtain ⟨S, H, R, L, J, Z⟩ := g
  obtain ⟨S', H', R', L', J', Z'⟩ := k
  dsimp only [gA] at H1 H2 H3 H4
  go_enter Try.func3, Try.ntmps3
  go_wp2_with fail
  refine (HA.out _).mono ?_
  rintro _ w1 ⟨rfl, hb1⟩
  dsimp only
  go_wp2_with fail
  have HB1 := Lib.hid hb1
  have hs1 := hb1.size
  clear hb1 HA
  refine (H1.out _).mono ?_
  rintro _ w2 ⟨rfl, hb2⟩
  dsimp only
  obtain ⟨w3, hW0, X0⟩ := box_g w2 ⟨S, H, R, L, J, Z⟩
  have hs2 := hb2.size
  have hs3 := X0.out.2.1
  have HB2 := Lib.hid (HB1.out.trans ((hb2.trans (X0.out.2.2.mono hs2)).mono (by omega)))
  have K0 := Lib.hid (hb2.trans (X0.out.2.2.mono hs2))
  dsimp only [gA] at hW0
  clear hb2
  go_wp2_with (rw [← hW0])
  clear hW0
  refine (H2.out _).mono ?_
  rintro _ w4 ⟨rfl, hb3⟩
  dsimp only
  obtain ⟨w5, hW1, X1⟩ := box_g w4 ⟨S, H, R, L, J, Z⟩
  have hs4 := hb3.size
  have hs5 := X1.out.2.1
  have HB3 := Lib.hid (HB2.out.trans ((hb3.trans (X1.out.2.2.mono hs4)).mono (by omega)))
  have K1 := Lib.hid (hb3.trans (X1.out.2.2.mono hs4))
  dsimp only [gA] at hW1
  clear hb3
  go_wp2_with (rw [← hW1])
  clear hW1
  refine (H3.out _).mono ?_
  rintro _ w6 ⟨rfl, hb4⟩
  dsimp only
  obtain ⟨w7, hW2, X2⟩ := box_g w6 ⟨S', H', R', L', J', Z'⟩
  have hs6 := hb4.size
  have hs7 := X2.out.2.1
  have HB4 := Lib.hid (HB3.out.trans ((hb4.trans (X2.out.2.2.mono hs6)).mono (by omega)))
  have K2 := Lib.hid (hb4.trans (X2.out.2.2.mono hs6))
  dsimp only [gA] at hW2
  clear hb4
  go_wp2_with (rw [← hW2])
  clear hW2
  refine (H4.out _).mono ?_
  rintro _ w8 ⟨rfl, hb5⟩
  dsimp only
  obtain ⟨w9, hW3, X3⟩ := box_g w8 ⟨S', H', R', L', J', Z'⟩
  have hs8 := hb5.size
  have hs9 := X3.out.2.1
  have HB5 := Lib.hid (HB4.out.trans ((hb5.trans (X3.out.2.2.mono hs8)).mono (by omega)))
  have K3 := Lib.hid (hb5.trans (X3.out.2.2.mono hs8))
  dsimp only [gA] at hW3
  clear hb5
  have y0 := X0.out.1.below ((K1.out.trans ((K2.out.trans (K3.out.mono (by omega))).mono (by omega)))) (by omega)
  have y1 := X1.out.1.below (K2.out.trans (K3.out.mono (by omega))) (by omega)
  have y2 := X2.out.1.below K3.out (by omega)
  have y3 := X3.out.1
  have z00 := y0.c0
  have z01 := y0.c1
  have z02 := y0.c2
  have z03 := y0.c3
  have z04 := y0.c4
  have z05 := y0.c5
  have z10 := y1.c0
  have z11 := y1.c1
  have z12 := y1.c2
  have z13 := y1.c3
  have z14 := y1.c4
  have z15 := y1.c5
  have z20 := y2.c0
  have z21 := y2.c1
  have z22 := y2.c2
  have z23 := y2.c3
  have z24 := y2.c4
  have z25 := y2.c5
  have z30 := y3.c0
  have z31 := y3.c1
  have z32 := y3.c2
  have z33 := y3.c3
  have z34 := y3.c4
  have z35 := y3.c5
  clear y0 y1 y2 y3 H1 H2 H3 H4
  dsimp only at z00 z01 z02 z03 z04 z05 z10 z11 z12 z13 z14 z15 z20 z21 z22 z23 z24 z25 z30 z31 z32 z33 z34 z35
  subst hW3
  go_wp2_with fail
  go_ret
  exact ⟨by simp, HB5.out⟩
end Gm
end Go.Proofs.Ytaocglbibnjjoaa
