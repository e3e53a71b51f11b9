/- geom: the law GeomOnce. -/
import Derived.Test.YtaocglbibnjjoaaGmAlive
import Derived.Test.YtaocglbibnjjoaaGmOnM
namespace Go.Proofs.Ytaocglbibnjjoaa
set_option maxRecDepth 20000
namespace Gm
open Go.RowKit

set_option maxRecDepth 100000 in
set_option maxHeartbeats 8000000 in
theorem once8_any (q x y : Int) (w : World) (hx : i64 x) (hy : i64 y) : Calls Try.prog 6 #[.int .i64 q, .int .i64 x, .int .i64 y] w fun e w' => e = .returned (.bool true) ∧ Below w.heap.size w w' := by
  have HA := Lib.hid alive8_any
  have HF := Lib.hid (fun w => forq_any q w)
  by_cases hq : inQ q
  · rw [geo_in hq, er_in hq] at HF
    have hS : i64 (lay q).S := by
      unfold inQ at hq
      unfold i64
      simp only [lay]
      omega
    have hRL : i64 (lay q).R ∧ i64 (lay q).L := by
      unfold i64
      simp [lay]
    have H1 := Lib.hid (fun w => what_any (lay q) x w hS hx)
    have H2 := Lib.hid (fun w => what_any (lay q) y w hS hy)
    have HR := Lib.hid (fun n h w hn => root_any (lay q) n h w ⟨hS, hRL.1⟩ hn)
    have HL := Lib.hid (fun n h w hn => log_any (lay q) n h w ⟨hS, hRL.2⟩ hn)
    have HG := Lib.hid (fun h w => region_any (lay q) h w hS)
    have HO := Lib.hid (fun h0 h1 => once (x := x) hq h0 h1)
    have HU := Lib.hid (fun h0 h1 => once_only (x := x) (y := y) hq h0 h1)
    have HZ := Lib.hid (fun h => wha_zero (g := lay q) (x := x) h)
    have HV := Lib.hid (show ∃ v v', v = wha (lay q) x ∧ v' = wha (lay q) y from ⟨_, _, rfl, rfl⟩)
    obtain ⟨⟨a, b, c⟩, ⟨a', b', c'⟩, hv, hv'⟩ := HV.out
    rw [← hv] at H1 HO HU HZ
    rw [← hv'] at H2 HU
    unfold inQ at hq
    obtain ⟨hq1, hq2⟩ := hq
    obtain ⟨hx1, hx2⟩ := hx
    clear hv hv' HV hS hRL hy
    dsimp only [gA_lay8] at HF H1 H2 HR HL HG
    dsimp only [lay] at HZ
    go_enter Try.func6, Try.ntmps6
    go_wp2_with fail
    refine (HA.out _).mono ?_
    rintro _ w1 ⟨rfl, hb1⟩
    dsimp only
    have HB1 := Lib.hid hb1
    have hs1 := hb1.size
    clear hb1 HA
    go_wp2_with fail
    refine (HF.out _).mono ?_
    rintro _ w2 ⟨rfl, hb2⟩
    dsimp only
    obtain ⟨W, hW, HX⟩ := box_g w2 (lay q)
    have hs2 := hb2.size
    have hws := HX.out.2.1
    have HB := Lib.hid (HB1.out.trans ((hb2.trans (HX.out.2.2.mono hs2)).mono hs1))
    have HC := Lib.hid (fun w' (h : Below W.heap.size W w') => cells_lay (HX.out.1.below h (by omega)))
    obtain ⟨d0, d1, d2, d3, d4, d5⟩ := HC.out W (Below.refl _ _)
    dsimp only [gA, lay] at hW
    clear hb2 HF
    go_wp2_with (rw [← hW])
    clear hW
    refine (H1.out _).mono ?_
    rintro _ w3 ⟨rfl, hb3⟩
    have HB3 := Lib.hid hb3
    have hs3 := hb3.size
    clear d0 d1 d2 d3 d4 d5 hb3 H1
    obtain ⟨d0, d1, d2, d3, d4, d5⟩ := HC.out w3 HB3.out
    dsimp only
    go_wp2_with fail
    refine (H2.out _).mono ?_
    rintro _ w4 ⟨rfl, hb4⟩
    have HB4 := Lib.hid (HB3.out.trans (hb4.mono hs3))
    have hs4 : W.heap.size ≤ w4.heap.size := HB4.out.size
    clear d0 d1 d2 d3 d4 d5 hb4 H2
    obtain ⟨d0, d1, d2, d3, d4, d5⟩ := HC.out w4 HB4.out
    dsimp only
    have HE := Lib.hid (HB.out.trans (HB4.out.mono (by omega)))
    by_cases hneg : x < 0
    · obtain ⟨rfl, rfl, rfl⟩ := (by have := HZ.out (.inr (.inl hneg)); simp only [zW, Wh.mk.injEq] at this; exact this : a = 0 ∧ b = 0 ∧ c = 0)
      have b1 : decide (x < 0) = true := decide_eq_true hneg
      clear HZ HO HU
      go_wp2_with fail
      go_ret
      exact ⟨by simp, HE.out⟩
    have b1 : decide (x < 0) = false := decide_eq_false hneg
    by_cases hbig : 4 * q + 316 ≤ x
    · obtain ⟨rfl, rfl, rfl⟩ := (by have := HZ.out (.inr (.inr hbig)); simp only [zW, Wh.mk.injEq] at this; exact this : a = 0 ∧ b = 0 ∧ c = 0)
      have b2 : decide (4 * q + 316 ≤ x) = true := decide_eq_true hbig
      clear HZ HO HU
      go_wp2_with fail
      go_ret
      exact ⟨by simp, HE.out⟩
    have b2 : decide (4 * q + 316 ≤ x) = false := decide_eq_false hbig
    have HOn := Lib.hid (HO.out (by omega) (by omega))
    have HUn := Lib.hid (HU.out (by omega) (by omega))
    have hak := HOn.out.kind
    have hbk := HOn.out.half
    have hck := HOn.out.num
    clear HZ HO HU
    dsimp only at hak hbk hck
    obtain ⟨hb0, hb1⟩ := hbk
    obtain ⟨hc0, hc1⟩ := hck
    have b5 : decide (b < 0) = false := decide_eq_false (by omega)
    have b6 : decide (1 < b) = false := decide_eq_false (by omega)
    obtain rfl | rfl | rfl | rfl | rfl : a = 1 ∨ a = 2 ∨ a = 3 ∨ a = 4 ∨ a = 5 := by omega
    · skip
      clear hak
      clear HR HL HG HOn
      cases e0 : x == y with
      | true =>
        have f0 : (x != y) = false := by simp [bne, e0]
        clear HUn
        go_wp2_with fail
        go_ret
        exact ⟨by simp, HE.out⟩
      | false =>
      have f0 : (x != y) = true := by simp [bne, e0]
      cases e1 : (1 : Int) == a' with
      | false =>
        clear HUn
        go_wp2_with fail
        go_ret
        exact ⟨by simp, HE.out⟩
      | true =>
      cases e2 : b == b' with
      | false =>
        clear HUn
        go_wp2_with fail
        go_ret
        exact ⟨by simp, HE.out⟩
      | true =>
      cases e3 : c == c' with
      | false =>
        clear HUn
        go_wp2_with fail
        go_ret
        exact ⟨by simp, HE.out⟩
      | true =>
        exfalso
        have hxy := HUn.out (by rw [eq_of_beq e1, eq_of_beq e2, eq_of_beq e3])
        rw [hxy] at e0
        simp at e0
    · skip
      have HT := Lib.hid (fun w => HR.out c b w (by unfold i64; omega))
      obtain ⟨t1, t2⟩ := HOn.out.two rfl
      dsimp only at t1 t2
      rw [t1, t2] at HT
      clear t1 t2
      clear hak
      clear HR HL HG HOn
      cases e0 : x == y with
      | true =>
        have f0 : (x != y) = false := by simp [bne, e0]
        clear HUn
        go_wp2_with fail
        refine (HT.out _).mono ?_
        rintro _ w5 ⟨rfl, hb5⟩
        have HE5 := Lib.hid (HE.out.trans (hb5.mono (by omega)))
        obtain ⟨k0, k1, k2, k3, k4, k5⟩ := HC.out w5 (HB4.out.trans (hb5.mono hs4))
        clear hb5 HT d0 d1 d2 d3 d4 d5
        dsimp only
        go_wp2_with fail
        go_ret
        exact ⟨by simp, HE5.out⟩
      | false =>
      have f0 : (x != y) = true := by simp [bne, e0]
      cases e1 : (2 : Int) == a' with
      | false =>
        clear HUn
        go_wp2_with fail
        refine (HT.out _).mono ?_
        rintro _ w5 ⟨rfl, hb5⟩
        have HE5 := Lib.hid (HE.out.trans (hb5.mono (by omega)))
        obtain ⟨k0, k1, k2, k3, k4, k5⟩ := HC.out w5 (HB4.out.trans (hb5.mono hs4))
        clear hb5 HT d0 d1 d2 d3 d4 d5
        dsimp only
        go_wp2_with fail
        go_ret
        exact ⟨by simp, HE5.out⟩
      | true =>
      cases e2 : b == b' with
      | false =>
        clear HUn
        go_wp2_with fail
        refine (HT.out _).mono ?_
        rintro _ w5 ⟨rfl, hb5⟩
        have HE5 := Lib.hid (HE.out.trans (hb5.mono (by omega)))
        obtain ⟨k0, k1, k2, k3, k4, k5⟩ := HC.out w5 (HB4.out.trans (hb5.mono hs4))
        clear hb5 HT d0 d1 d2 d3 d4 d5
        dsimp only
        go_wp2_with fail
        go_ret
        exact ⟨by simp, HE5.out⟩
      | true =>
      cases e3 : c == c' with
      | false =>
        clear HUn
        go_wp2_with fail
        refine (HT.out _).mono ?_
        rintro _ w5 ⟨rfl, hb5⟩
        have HE5 := Lib.hid (HE.out.trans (hb5.mono (by omega)))
        obtain ⟨k0, k1, k2, k3, k4, k5⟩ := HC.out w5 (HB4.out.trans (hb5.mono hs4))
        clear hb5 HT d0 d1 d2 d3 d4 d5
        dsimp only
        go_wp2_with fail
        go_ret
        exact ⟨by simp, HE5.out⟩
      | true =>
        exfalso
        have hxy := HUn.out (by rw [eq_of_beq e1, eq_of_beq e2, eq_of_beq e3])
        rw [hxy] at e0
        simp at e0
    · skip
      have HT := Lib.hid (fun w => HL.out c b w (by unfold i64; omega))
      obtain ⟨t1, t2⟩ := HOn.out.three rfl
      dsimp only at t1 t2
      rw [t1, t2] at HT
      clear t1 t2
      clear hak
      clear HR HL HG HOn
      cases e0 : x == y with
      | true =>
        have f0 : (x != y) = false := by simp [bne, e0]
        clear HUn
        go_wp2_with fail
        refine (HT.out _).mono ?_
        rintro _ w5 ⟨rfl, hb5⟩
        have HE5 := Lib.hid (HE.out.trans (hb5.mono (by omega)))
        obtain ⟨k0, k1, k2, k3, k4, k5⟩ := HC.out w5 (HB4.out.trans (hb5.mono hs4))
        clear hb5 HT d0 d1 d2 d3 d4 d5
        dsimp only
        go_wp2_with fail
        go_ret
        exact ⟨by simp, HE5.out⟩
      | false =>
      have f0 : (x != y) = true := by simp [bne, e0]
      cases e1 : (3 : Int) == a' with
      | false =>
        clear HUn
        go_wp2_with fail
        refine (HT.out _).mono ?_
        rintro _ w5 ⟨rfl, hb5⟩
        have HE5 := Lib.hid (HE.out.trans (hb5.mono (by omega)))
        obtain ⟨k0, k1, k2, k3, k4, k5⟩ := HC.out w5 (HB4.out.trans (hb5.mono hs4))
        clear hb5 HT d0 d1 d2 d3 d4 d5
        dsimp only
        go_wp2_with fail
        go_ret
        exact ⟨by simp, HE5.out⟩
      | true =>
      cases e2 : b == b' with
      | false =>
        clear HUn
        go_wp2_with fail
        refine (HT.out _).mono ?_
        rintro _ w5 ⟨rfl, hb5⟩
        have HE5 := Lib.hid (HE.out.trans (hb5.mono (by omega)))
        obtain ⟨k0, k1, k2, k3, k4, k5⟩ := HC.out w5 (HB4.out.trans (hb5.mono hs4))
        clear hb5 HT d0 d1 d2 d3 d4 d5
        dsimp only
        go_wp2_with fail
        go_ret
        exact ⟨by simp, HE5.out⟩
      | true =>
      cases e3 : c == c' with
      | false =>
        clear HUn
        go_wp2_with fail
        refine (HT.out _).mono ?_
        rintro _ w5 ⟨rfl, hb5⟩
        have HE5 := Lib.hid (HE.out.trans (hb5.mono (by omega)))
        obtain ⟨k0, k1, k2, k3, k4, k5⟩ := HC.out w5 (HB4.out.trans (hb5.mono hs4))
        clear hb5 HT d0 d1 d2 d3 d4 d5
        dsimp only
        go_wp2_with fail
        go_ret
        exact ⟨by simp, HE5.out⟩
      | true =>
        exfalso
        have hxy := HUn.out (by rw [eq_of_beq e1, eq_of_beq e2, eq_of_beq e3])
        rw [hxy] at e0
        simp at e0
    · skip
      have HT := Lib.hid (fun w => HG.out b w)
      obtain ⟨hp0, hp1, hp2, hp3, hp4⟩ := HOn.out.four rfl
      dsimp only at hp0 hp1 hp2 hp3 hp4
      rw [hp1] at HT
      generalize pl (lay q) 4 b 0 = pp at *
      have bp : (pp + c == x) = true := by simp [hp0]
      have bz : decide (c < 2 * q + 120) = true := decide_eq_true hp2
      clear hp0 hp1 hak
      clear HR HL HG HOn
      cases e0 : x == y with
      | true =>
        have f0 : (x != y) = false := by simp [bne, e0]
        clear HUn
        go_wp2_with fail
        refine (HT.out _).mono ?_
        rintro _ w5 ⟨rfl, hb5⟩
        have HE5 := Lib.hid (HE.out.trans (hb5.mono (by omega)))
        obtain ⟨k0, k1, k2, k3, k4, k5⟩ := HC.out w5 (HB4.out.trans (hb5.mono hs4))
        clear hb5 HT d0 d1 d2 d3 d4 d5
        dsimp only
        go_wp2_with fail
        go_ret
        exact ⟨by simp, HE5.out⟩
      | false =>
      have f0 : (x != y) = true := by simp [bne, e0]
      cases e1 : (4 : Int) == a' with
      | false =>
        clear HUn
        go_wp2_with fail
        refine (HT.out _).mono ?_
        rintro _ w5 ⟨rfl, hb5⟩
        have HE5 := Lib.hid (HE.out.trans (hb5.mono (by omega)))
        obtain ⟨k0, k1, k2, k3, k4, k5⟩ := HC.out w5 (HB4.out.trans (hb5.mono hs4))
        clear hb5 HT d0 d1 d2 d3 d4 d5
        dsimp only
        go_wp2_with fail
        go_ret
        exact ⟨by simp, HE5.out⟩
      | true =>
      cases e2 : b == b' with
      | false =>
        clear HUn
        go_wp2_with fail
        refine (HT.out _).mono ?_
        rintro _ w5 ⟨rfl, hb5⟩
        have HE5 := Lib.hid (HE.out.trans (hb5.mono (by omega)))
        obtain ⟨k0, k1, k2, k3, k4, k5⟩ := HC.out w5 (HB4.out.trans (hb5.mono hs4))
        clear hb5 HT d0 d1 d2 d3 d4 d5
        dsimp only
        go_wp2_with fail
        go_ret
        exact ⟨by simp, HE5.out⟩
      | true =>
      cases e3 : c == c' with
      | false =>
        clear HUn
        go_wp2_with fail
        refine (HT.out _).mono ?_
        rintro _ w5 ⟨rfl, hb5⟩
        have HE5 := Lib.hid (HE.out.trans (hb5.mono (by omega)))
        obtain ⟨k0, k1, k2, k3, k4, k5⟩ := HC.out w5 (HB4.out.trans (hb5.mono hs4))
        clear hb5 HT d0 d1 d2 d3 d4 d5
        dsimp only
        go_wp2_with fail
        go_ret
        exact ⟨by simp, HE5.out⟩
      | true =>
        exfalso
        have hxy := HUn.out (by rw [eq_of_beq e1, eq_of_beq e2, eq_of_beq e3])
        rw [hxy] at e0
        simp at e0
    · skip
      clear hak
      clear HR HL HG HOn
      cases e0 : x == y with
      | true =>
        have f0 : (x != y) = false := by simp [bne, e0]
        clear HUn
        go_wp2_with fail
        go_ret
        exact ⟨by simp, HE.out⟩
      | false =>
      have f0 : (x != y) = true := by simp [bne, e0]
      cases e1 : (5 : Int) == a' with
      | false =>
        clear HUn
        go_wp2_with fail
        go_ret
        exact ⟨by simp, HE.out⟩
      | true =>
      cases e2 : b == b' with
      | false =>
        clear HUn
        go_wp2_with fail
        go_ret
        exact ⟨by simp, HE.out⟩
      | true =>
      cases e3 : c == c' with
      | false =>
        clear HUn
        go_wp2_with fail
        go_ret
        exact ⟨by simp, HE.out⟩
      | true =>
        exfalso
        have hxy := HUn.out (by rw [eq_of_beq e1, eq_of_beq e2, eq_of_beq e3])
        rw [hxy] at e0
        simp at e0
  · rw [geo_out hq, er_out hq] at HF
    clear hq hx hy
    dsimp only [gA, zG] at HF
    go_enter Try.func6, Try.ntmps6
    go_wp2_with fail
    refine (HA.out _).mono ?_
    rintro _ w1 ⟨rfl, hb1⟩
    dsimp only
    have HB1 := Lib.hid hb1
    have hs1 := hb1.size
    clear hb1 HA
    go_wp2_with fail
    refine (HF.out _).mono ?_
    rintro _ w2 ⟨rfl, hb2⟩
    dsimp only
    have HB2 := Lib.hid (HB1.out.trans (hb2.mono hs1))
    have hs2 := hb2.size
    clear hb2 HF
    go_wp2_with fail
    go_ret
    exact ⟨by simp, HB2.out.alloc (by omega) _⟩
end Gm
end Go.Proofs.Ytaocglbibnjjoaa
