/- geom: the reference's find, At. -/
import Derived.Test.YtaocglbibnjjoaaGmRWhat
namespace Go.Proofs.Ytaocglbibnjjoaa
set_option maxRecDepth 20000
namespace Gm
open Go.RowKit

theorem gA_lay (q : Int) : gA (lay q) = #[.int .i64 (4 * q + 316), .int .i64 (2 * q + 148), .int .i64 2, .int .i64 4, .int .i64 28, .int .i64 (2 * q + 120)] := rfl
def fdI (q k h i : Int) : Int := if atB q k h i then atI q k h i else -1
theorem fd_hit {q k h i x : Int} (hq : inQ q) (hk : k = 2 ∨ k = 3 ∨ k = 4) (h0 : 0 ≤ x) (h1 : x < 4 * q + 316) (e : wha (lay q) x = ⟨k, h, i⟩) : fdI q k h i = x := by
  obtain ⟨hb, he⟩ := (wha_iff hq hk h0 h1).1 e
  exact (if_pos hb).trans he.symm
theorem fd_none {q k h i : Int} (hq : inQ q) (hk : k = 2 ∨ k = 3 ∨ k = 4) (hn : ∀ x, 0 ≤ x → x < 4 * q + 316 → wha (lay q) x ≠ ⟨k, h, i⟩) : fdI q k h i = -1 := by
  refine if_neg fun hb => ?_
  obtain ⟨h0, h1⟩ := at_range hq hk hb
  exact hn _ h0 h1 ((wha_iff hq hk h0 h1).2 ⟨hb, rfl⟩)

set_option maxRecDepth 100000 in
set_option maxHeartbeats 4000000 in
theorem reffind_any (q k h i : Int) (w : World) (hq : inQ q) (hk : k = 2 ∨ k = 3 ∨ k = 4) : Calls Try.prog 21 #[.agg (gA (lay q)), .int .i64 k, .int .i64 h, .int .i64 i] w fun e w' => e = .returned (.int .i64 (fdI q k h i)) ∧ Below w.heap.size w w' := by
  have HQ := Lib.hid hq
  have HK := Lib.hid hk
  obtain ⟨W, hW, HX⟩ := box_g w (lay q)
  have hws := HX.out.2.1
  have HC := Lib.hid (fun w' (h : Below W.heap.size W w') => cells_lay (HX.out.1.below h (by omega)))
  have HW := Lib.hid (fun x w (hx : i64 x) => refwhat_lay q x w HQ.out hx)
  unfold inQ at hq
  obtain ⟨hq1, hq2⟩ := hq
  clear hk
  dsimp only [gA_lay] at hW HW ⊢
  go_enter Try.func21, Try.ntmps21
  go_wp2_with (rw [← hW])
  clear hW
  go_loopw [9] (fun j wr => ∃ x : Int, 0 ≤ x ∧ x ≤ 4 * q + 316 ∧ j = .int .i64 x ∧ Hid (Below W.heap.size W wr ∧ ∀ y, 0 ≤ y → y < x → wha (lay q) y ≠ ⟨k, h, i⟩)) (fun j _ => (4 * q + 316 - intOf j).toNat)
  case atStart => exact ⟨0, by omega, by omega, rfl, Lib.hid ⟨Below.refl _ _, fun p _ _ => by omega⟩⟩
  case round =>
    obtain ⟨x, hx0, hx1, rfl, HB⟩ := hrel
    have hsz := HB.out.1.size
    obtain ⟨d0, d1, d2, d3, d4, d5⟩ := HC.out wr HB.out.1
    by_cases hlt : x < 4 * q + 316
    · have b1 : decide (x < 4 * q + 316) = true := decide_eq_true hlt
      have b2 : decide (x < 4096) = true := decide_eq_true (by omega)
      have HW2 := Lib.hid (fun w => HW.out x w (by unfold i64; omega))
      have HT : Hid (fdI q k h i = x ∨ wha (lay q) x ≠ ⟨k, h, i⟩) := Lib.hid (by
        by_cases e : wha (lay q) x = ⟨k, h, i⟩
        · exact .inl (fd_hit HQ.out HK.out hx0 hlt e)
        · exact .inr e)
      have HV := Lib.hid (show ∃ v, v = wha (lay q) x from ⟨_, rfl⟩)
      obtain ⟨⟨a, b, c⟩, hv⟩ := HV.out
      have HVV := Lib.hid hv
      clear HW HV
      go_wp2_with fail
      show Calls _ _ #[.agg #[.int .i64 (4 * q + 316), .int .i64 (2 * q + 148), .int .i64 2, .int .i64 4, .int .i64 28, .int .i64 (2 * q + 120)], .int .i64 x] _ _
      refine (HW2.out _).mono ?_
      rintro _ w2 ⟨rfl, hb2⟩
      have e1 : (wha (lay q) x).k = a := by rw [← hv]
      have e2 : (wha (lay q) x).h = b := by rw [← hv]
      have e3 : (wha (lay q) x).i = c := by rw [← hv]
      have HB2 := Lib.hid (HB.out.1.trans (hb2.mono hsz))
      dsimp only
      rw [e1, e2, e3]
      clear e1 e2 e3 hv HW2 hb2 d0 d1 d2 d3 d4 d5
      cases g1 : a == k with
      | false =>
        go_wp2_with fail
        go_roundw
        case rel => exact ⟨x + 1, by omega, by omega, by go_num, Lib.hid ⟨HB2.out, fun y h1 h2 => by
          rcases Int.lt_or_eq_of_le (show y ≤ x by omega) with h | h
          · exact HB.out.2 y h1 h
          · rw [h, ← HVV.out]
            intro e
            rw [Wh.mk.injEq] at e
            simp [e.1] at g1⟩⟩
        case measure => simp [intOf]; omega
      | true =>
      cases g2 : b == h with
      | false =>
        go_wp2_with fail
        go_roundw
        case rel => exact ⟨x + 1, by omega, by omega, by go_num, Lib.hid ⟨HB2.out, fun y h1 h2 => by
          rcases Int.lt_or_eq_of_le (show y ≤ x by omega) with h | h
          · exact HB.out.2 y h1 h
          · rw [h, ← HVV.out]
            intro e
            rw [Wh.mk.injEq] at e
            simp [e.2.1] at g2⟩⟩
        case measure => simp [intOf]; omega
      | true =>
      cases g3 : c == i with
      | false =>
        go_wp2_with fail
        go_roundw
        case rel => exact ⟨x + 1, by omega, by omega, by go_num, Lib.hid ⟨HB2.out, fun y h1 h2 => by
          rcases Int.lt_or_eq_of_le (show y ≤ x by omega) with h | h
          · exact HB.out.2 y h1 h
          · rw [h, ← HVV.out]
            intro e
            rw [Wh.mk.injEq] at e
            simp [e.2.2] at g3⟩⟩
        case measure => simp [intOf]; omega
      | true =>
        have HF : Hid (fdI q k h i = x) := Lib.hid (HT.out.resolve_right (fun hne => hne (by
          rw [← HVV.out, eq_of_beq g1, eq_of_beq g2, eq_of_beq g3])))
        clear HT HVV
        go_wp2_with fail
        go_ret
        rw [HF.out]
        exact ⟨rfl, HX.out.2.2.trans (HB2.out.mono (by omega))⟩
    · obtain rfl : x = 4 * q + 316 := by omega
      have HF : Hid (fdI q k h i = -1) := Lib.hid (fd_none HQ.out HK.out HB.out.2)
      have b1 : decide (4 * q + 316 < 4 * q + 316) = false := decide_eq_false hlt
      clear HW
      go_wp2_with fail
      go_ret
      rw [HF.out]
      exact ⟨rfl, HX.out.2.2.trans (HB.out.1.mono (by omega))⟩

set_option maxRecDepth 100000 in
set_option maxHeartbeats 2000000 in
theorem refat_any (g : Gg) (k h i : Int) (w : World) (hk : k = 2 ∨ k = 3 ∨ k = 4) : Calls Try.prog 19 #[.agg (gA g), .int .i64 k, .int .i64 h, .int .i64 i] w fun e w' => e = .returned (.tuple #[.int .i64 (pl g k h i), .int .i64 (plE g k h i)]) ∧ Below w.heap.size w w' := by
  have HQ := Lib.hid (fun w => refquota_any g w)
  obtain ⟨W, hW, HX⟩ := box_g w g
  have hws := HX.out.2.1
  have c0 := HX.out.1.c0
  have c1 := HX.out.1.c1
  have c2 := HX.out.1.c2
  have c3 := HX.out.1.c3
  have c4 := HX.out.1.c4
  have c5 := HX.out.1.c5
  rcases qn_cases g with ⟨q, hq, hg, hn⟩ | ⟨hn, _⟩
  · subst hg
    rw [hn] at HQ
    have HC := Lib.hid (fun w' (h : Below W.heap.size W w') => cells_lay (HX.out.1.below h (by omega)))
    have HFD := Lib.hid (fun w => reffind_any q k h i w hq hk)
    have b0 : (q == 0) = false := by
      unfold inQ at hq
      simp
      omega
    have HR : Hid ((fdI q k h i < 0 ∧ pl (lay q) k h i = 0 ∧ plE (lay q) k h i = 1) ∨ (0 ≤ fdI q k h i ∧ pl (lay q) k h i = fdI q k h i ∧ plE (lay q) k h i = 0)) := Lib.hid (by
      by_cases hb : atB q k h i
      · rw [show fdI q k h i = atI q k h i from if_pos hb]
        exact .inr ⟨(at_range hq hk hb).1, pl_in hq hb⟩
      · rw [show fdI q k h i = -1 from if_neg hb]
        exact .inl ⟨by omega, pl_out hq hb⟩)
    clear hk hn hq
    generalize fdI q k h i = fd at *
    generalize pl (lay q) k h i = P at *
    generalize plE (lay q) k h i = E at *
    dsimp only [gA, lay] at HFD
    dsimp only [gA, lay] at hW HQ c0 c1 c2 c3 c4 c5 ⊢
    go_enter Try.func19, Try.ntmps19
    go_wp2_with (rw [← hW])
    clear hW
    refine (HQ.out _).mono ?_
    rintro _ w1 ⟨rfl, hb1⟩
    dsimp only
    have HB := Lib.hid hb1
    obtain ⟨d0, d1, d2, d3, d4, d5⟩ := HC.out w1 HB.out
    have hs1 := hb1.size
    clear hb1
    go_wp2_with fail
    refine (HFD.out _).mono ?_
    rintro _ w2 ⟨rfl, hb2⟩
    have HB2 := Lib.hid (HX.out.2.2.trans ((HB.out.trans (hb2.mono hs1)).mono (by omega)))
    clear hb2
    dsimp only
    rcases HR.out with ⟨r1, rfl, rfl⟩ | ⟨r1, rfl, rfl⟩
    · clear HR
      go_wp2_with fail
      go_ret2
      exact ⟨rfl, HB2.out⟩
    · clear HR
      go_wp2_with fail
      go_ret2
      exact ⟨rfl, HB2.out⟩
  · rw [hn] at HQ
    rw [(pl_none hn k h i).1, (pl_none hn k h i).2]
    clear hn hk
    obtain ⟨S, H, R, L, J, Z⟩ := g
    dsimp only [gA] at hW HQ c0 c1 c2 c3 c4 c5 ⊢
    go_enter Try.func19, Try.ntmps19
    go_wp2_with (rw [← hW])
    clear hW
    refine (HQ.out _).mono ?_
    rintro _ w1 ⟨rfl, hb1⟩
    dsimp only
    go_wp2_with fail
    go_ret2
    exact ⟨rfl, HX.out.2.2.trans (hb1.mono (by omega))⟩
end Gm
end Go.Proofs.Ytaocglbibnjjoaa
