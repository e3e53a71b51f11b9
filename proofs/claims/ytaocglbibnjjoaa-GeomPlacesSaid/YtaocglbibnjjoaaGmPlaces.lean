/- geom: the law GeomPlaces. -/
import Derived.Test.YtaocglbibnjjoaaGmAlive
import Derived.Test.YtaocglbibnjjoaaGmRAt
namespace Go.Proofs.Ytaocglbibnjjoaa
set_option maxRecDepth 20000
namespace Gm
open Go.RowKit

/-- the cells of the two boxes -/
def Two (w : World) (b : Nat) (g : Gg) (x y : Int) : Prop := (w.cell? ⟨b, 0, none⟩ = some (.int .i64 g.S) ∧ w.cell? ⟨b, 1, none⟩ = some (.int .i64 g.H) ∧ w.cell? ⟨b, 2, none⟩ = some (.int .i64 g.R) ∧ w.cell? ⟨b, 3, none⟩ = some (.int .i64 g.L) ∧ w.cell? ⟨b, 4, none⟩ = some (.int .i64 g.J) ∧ w.cell? ⟨b, 5, none⟩ = some (.int .i64 g.Z)) ∧ w.cell? ⟨b + 1, 0, none⟩ = some (.int .i64 x) ∧ w.cell? ⟨b + 1, 1, none⟩ = some (.int .i64 y)
theorem two_boxes (w : World) (g : Gg) (x y : Int) : ∃ W, W = (w.alloc (.cells (gA g) 24)).alloc (.cells #[.int .i64 x, .int .i64 y] 34) ∧ Hid ((∀ w', Below W.heap.size W w' → Two w' w.heap.size g x y) ∧ W.heap.size = w.heap.size + 2 ∧ Below w.heap.size w W) := by
  obtain ⟨V, hV, HX⟩ := box_g w g
  obtain ⟨hx, hs, hb⟩ := HX.out
  refine ⟨_, rfl, Lib.hid ?_⟩
  rw [← hV]
  have hb2 : Below V.heap.size V (V.alloc (.cells #[.int .i64 x, .int .i64 y] 34)) := (Below.refl _ _).alloc (Nat.le_refl _) _
  have hs2 : (V.alloc (.cells #[.int .i64 x, .int .i64 y] 34)).heap.size = V.heap.size + 1 := by simp
  refine ⟨fun w' h => ?_, by omega, hb.trans (hb2.mono (by omega))⟩
  have hg := (hx.below hb2 (by omega)).below h (by omega)
  have hp : w'.heap[w.heap.size + 1]? = some (.cells #[.int .i64 x, .int .i64 y] 34 (0, 0)) := by
    rw [h.block _ (by omega), ← hs]
    exact heap_alloc_new _ _
  exact ⟨⟨hg.c0, hg.c1, hg.c2, hg.c3, hg.c4, hg.c5⟩, by rw [cell_of_row w' _ 0 _ _ _ hp]; rfl, by rw [cell_of_row w' _ 1 _ _ _ hp]; rfl⟩

set_option maxRecDepth 100000 in
set_option maxHeartbeats 4000000 in
theorem places8_any (g : Gg) (n h : Int) (w : World) (hg : i64 g.S ∧ i64 g.R ∧ i64 g.L) (hn : i64 n) : Calls Try.prog 5 #[.agg (gA g), .agg #[.int .i64 n, .int .i64 h]] w fun e w' => e = .returned (.bool true) ∧ Below w.heap.size w w' := by
  obtain ⟨hS, hR, hL⟩ := hg
  have HA := Lib.hid alive8_any
  have H1 := Lib.hid (fun w => root_any g n h w ⟨hS, hR⟩ hn)
  have H2 := Lib.hid (fun w => log_any g n h w ⟨hS, hL⟩ hn)
  have H3 := Lib.hid (fun w => region_any g h w hS)
  have H4 := Lib.hid (fun w => refat_any g 2 h (n.tmod 2) w (.inl rfl))
  have H5 := Lib.hid (fun w => refat_any g 3 h n w (.inr (.inl rfl)))
  have H6 := Lib.hid (fun w => refat_any g 4 h 0 w (.inr (.inr rfl)))
  obtain ⟨W, hW, HX⟩ := two_boxes w g n h
  have hws := HX.out.2.1
  have HM := Lib.hid (show ∃ m, m = n.tmod 2 from ⟨_, rfl⟩)
  obtain ⟨m, hm⟩ := HM.out
  rw [← hm] at H4
  have HR : Hid ((n < 0 ∧ rtI g n h = 0 ∧ rtE g n h = 1) ∨ (¬ n < 0 ∧ rtI g n h = pl g 2 h m ∧ rtE g n h = plE g 2 h m)) := Lib.hid (by
    rw [hm]
    by_cases h0 : n < 0
    · exact .inl ⟨h0, if_pos h0, if_pos h0⟩
    · exact .inr ⟨h0, if_neg h0, if_neg h0⟩)
  have hm2 := hm.symm
  clear hm HM hS hR hL
  obtain ⟨hn1, hn2⟩ := hn
  generalize rtI g n h = r at *
  generalize rtE g n h = re at *
  generalize pl g 2 h m = a at *
  generalize plE g 2 h m = ae at *
  generalize pl g 3 h n = b at *
  generalize plE g 3 h n = be at *
  generalize pl g 4 h 0 = c at *
  generalize plE g 4 h 0 = ce at *
  obtain ⟨S, H, R, L, J, Z⟩ := g
  dsimp only [gA] at hW H1 H2 H3 H4 H5 H6 ⊢
  rcases HR.out with ⟨hneg, rfl, rfl⟩ | ⟨hneg, rfl, rfl⟩
  · clear HR
    go_enter Try.func5, Try.ntmps5
    go_wp2_with (rw [← hW])
    clear hW
    refine (HA.out _).mono ?_
    rintro _ w1 ⟨rfl, hb1⟩
    have HB1 := Lib.hid hb1
    have hs1 := hb1.size
    clear hb1 HA
    obtain ⟨⟨d0, d1, d2, d3, d4, d5⟩, p0, p1⟩ := HX.out.1 w1 HB1.out
    dsimp only at d0 d1 d2 d3 d4 d5 ⊢
    go_wp2_with fail
    refine (H1.out _).mono ?_
    rintro _ w2 ⟨rfl, hb2⟩
    have HB2 := Lib.hid (HB1.out.trans (hb2.mono hs1))
    have hs2 : W.heap.size ≤ w2.heap.size := HB2.out.size
    clear hb2 H1 d0 d1 d2 d3 d4 d5 p0 p1
    obtain ⟨⟨d0, d1, d2, d3, d4, d5⟩, p0, p1⟩ := HX.out.1 w2 HB2.out
    dsimp only at d0 d1 d2 d3 d4 d5 ⊢
    go_wp2_with fail
    refine (H2.out _).mono ?_
    rintro _ w3 ⟨rfl, hb3⟩
    have HB3 := Lib.hid (HB2.out.trans (hb3.mono hs2))
    have hs3 : W.heap.size ≤ w3.heap.size := HB3.out.size
    clear hb3 H2 d0 d1 d2 d3 d4 d5 p0 p1
    obtain ⟨⟨d0, d1, d2, d3, d4, d5⟩, p0, p1⟩ := HX.out.1 w3 HB3.out
    dsimp only at d0 d1 d2 d3 d4 d5 ⊢
    go_wp2_with fail
    refine (H3.out _).mono ?_
    rintro _ w4 ⟨rfl, hb4⟩
    have HB4 := Lib.hid (HB3.out.trans (hb4.mono hs3))
    have hs4 : W.heap.size ≤ w4.heap.size := HB4.out.size
    clear hb4 H3 d0 d1 d2 d3 d4 d5 p0 p1
    obtain ⟨⟨d0, d1, d2, d3, d4, d5⟩, p0, p1⟩ := HX.out.1 w4 HB4.out
    dsimp only at d0 d1 d2 d3 d4 d5 ⊢
    go_wp2_with fail
    refine (H4.out _).mono ?_
    rintro _ w5 ⟨rfl, hb5⟩
    have HB5 := Lib.hid (HB4.out.trans (hb5.mono hs4))
    have hs5 : W.heap.size ≤ w5.heap.size := HB5.out.size
    clear hb5 H4 d0 d1 d2 d3 d4 d5 p0 p1
    obtain ⟨⟨d0, d1, d2, d3, d4, d5⟩, p0, p1⟩ := HX.out.1 w5 HB5.out
    dsimp only at d0 d1 d2 d3 d4 d5 ⊢
    go_wp2_with fail
    refine (H5.out _).mono ?_
    rintro _ w6 ⟨rfl, hb6⟩
    have HB6 := Lib.hid (HB5.out.trans (hb6.mono hs5))
    have hs6 : W.heap.size ≤ w6.heap.size := HB6.out.size
    clear hb6 H5 d0 d1 d2 d3 d4 d5 p0 p1
    obtain ⟨⟨d0, d1, d2, d3, d4, d5⟩, p0, p1⟩ := HX.out.1 w6 HB6.out
    dsimp only at d0 d1 d2 d3 d4 d5 ⊢
    go_wp2_with fail
    refine (H6.out _).mono ?_
    rintro _ w7 ⟨rfl, hb7⟩
    have HB7 := Lib.hid (HB6.out.trans (hb7.mono hs6))
    have hs7 : W.heap.size ≤ w7.heap.size := HB7.out.size
    clear hb7 H6 d0 d1 d2 d3 d4 d5 p0 p1
    dsimp only
    go_wp2_with fail
    go_ret
    exact ⟨by simp, HX.out.2.2.trans (HB7.out.mono (by omega))⟩
  · clear HR
    go_enter Try.func5, Try.ntmps5
    go_wp2_with (rw [← hW])
    clear hW
    refine (HA.out _).mono ?_
    rintro _ w1 ⟨rfl, hb1⟩
    have HB1 := Lib.hid hb1
    have hs1 := hb1.size
    clear hb1 HA
    obtain ⟨⟨d0, d1, d2, d3, d4, d5⟩, p0, p1⟩ := HX.out.1 w1 HB1.out
    dsimp only at d0 d1 d2 d3 d4 d5 ⊢
    go_wp2_with fail
    refine (H1.out _).mono ?_
    rintro _ w2 ⟨rfl, hb2⟩
    have HB2 := Lib.hid (HB1.out.trans (hb2.mono hs1))
    have hs2 : W.heap.size ≤ w2.heap.size := HB2.out.size
    clear hb2 H1 d0 d1 d2 d3 d4 d5 p0 p1
    obtain ⟨⟨d0, d1, d2, d3, d4, d5⟩, p0, p1⟩ := HX.out.1 w2 HB2.out
    dsimp only at d0 d1 d2 d3 d4 d5 ⊢
    go_wp2_with fail
    refine (H2.out _).mono ?_
    rintro _ w3 ⟨rfl, hb3⟩
    have HB3 := Lib.hid (HB2.out.trans (hb3.mono hs2))
    have hs3 : W.heap.size ≤ w3.heap.size := HB3.out.size
    clear hb3 H2 d0 d1 d2 d3 d4 d5 p0 p1
    obtain ⟨⟨d0, d1, d2, d3, d4, d5⟩, p0, p1⟩ := HX.out.1 w3 HB3.out
    dsimp only at d0 d1 d2 d3 d4 d5 ⊢
    go_wp2_with fail
    refine (H3.out _).mono ?_
    rintro _ w4 ⟨rfl, hb4⟩
    have HB4 := Lib.hid (HB3.out.trans (hb4.mono hs3))
    have hs4 : W.heap.size ≤ w4.heap.size := HB4.out.size
    clear hb4 H3 d0 d1 d2 d3 d4 d5 p0 p1
    obtain ⟨⟨d0, d1, d2, d3, d4, d5⟩, p0, p1⟩ := HX.out.1 w4 HB4.out
    dsimp only at d0 d1 d2 d3 d4 d5 ⊢
    go_wp2_with fail
    refine (H4.out _).mono ?_
    rintro _ w5 ⟨rfl, hb5⟩
    have HB5 := Lib.hid (HB4.out.trans (hb5.mono hs4))
    have hs5 : W.heap.size ≤ w5.heap.size := HB5.out.size
    clear hb5 H4 d0 d1 d2 d3 d4 d5 p0 p1
    obtain ⟨⟨d0, d1, d2, d3, d4, d5⟩, p0, p1⟩ := HX.out.1 w5 HB5.out
    dsimp only at d0 d1 d2 d3 d4 d5 ⊢
    go_wp2_with fail
    refine (H5.out _).mono ?_
    rintro _ w6 ⟨rfl, hb6⟩
    have HB6 := Lib.hid (HB5.out.trans (hb6.mono hs5))
    have hs6 : W.heap.size ≤ w6.heap.size := HB6.out.size
    clear hb6 H5 d0 d1 d2 d3 d4 d5 p0 p1
    obtain ⟨⟨d0, d1, d2, d3, d4, d5⟩, p0, p1⟩ := HX.out.1 w6 HB6.out
    dsimp only at d0 d1 d2 d3 d4 d5 ⊢
    go_wp2_with fail
    refine (H6.out _).mono ?_
    rintro _ w7 ⟨rfl, hb7⟩
    have HB7 := Lib.hid (HB6.out.trans (hb7.mono hs6))
    have hs7 : W.heap.size ≤ w7.heap.size := HB7.out.size
    clear hb7 H6 d0 d1 d2 d3 d4 d5 p0 p1
    dsimp only
    go_wp2_with fail
    go_ret
    exact ⟨by simp, HX.out.2.2.trans (HB7.out.mono (by omega))⟩
end Gm
end Go.Proofs.Ytaocglbibnjjoaa
