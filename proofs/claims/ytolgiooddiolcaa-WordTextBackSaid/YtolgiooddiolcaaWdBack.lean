/- A number that is put is taken as it was, and no other byte changes: the law's walk. -/
import Derived.Test.YtolgiooddiolcaaWdTexts
namespace Go.Proofs.Ytolgiooddiolcaa
namespace Wd
open Go.RowKit Byt Go.PlainAid
attribute [local go_sem ↓] Go.wp_at_zero Go.wp_at_succ

/-- w' is w after some draws -/
def Dr (w w' : World) : Prop := ∃ n, w' = w.drewN n
theorem Dr.refl (w : World) : Dr w w := ⟨0, rfl⟩
theorem Dr.more {a b : World} (h : Dr a b) (n : Nat) : Dr a (b.drewN n) := by
  obtain ⟨m, rfl⟩ := h
  exact ⟨m + n, by rw [World.drewN_drewN]⟩
theorem Dr.one {a b : World} (h : Dr a b) : Dr a b.drew := h.more 1
theorem Dr.heap {a b : World} (h : Dr a b) : b.heap = a.heap := by obtain ⟨m, rfl⟩ := h; rfl
theorem Dr.cell {a b : World} (h : Dr a b) (p : Addr) : b.cell? p = a.cell? p := by obtain ⟨m, rfl⟩ := h; rfl
theorem Dr.below {B : Nat} {a b c : World} (h : Dr b c) (k : Below B a b) : Below B a c := by
  obtain ⟨m, rfl⟩ := h
  exact ⟨k.os, k.tape, k.output, k.size, k.block⟩

/-- what is put is taken -/
theorem put_take (n : Nat) (a k z : Int) (f : Nat → Int) (h : putGood n a k z) (hz : z ≤ 9223372036854775807) : takeN n a k (putF n a k z f) = z ∧ takeE n a k (putF n a k z f) = 0 := by
  have hg := h
  obtain ⟨h1, h2, h3, h4, h5, h6⟩ := h
  have hr : rightAt n a k 8 := ⟨h1, h2, h3, h4⟩
  have e : takeS a k (putF n a k z f) = z := by
    unfold takeS putF
    rw [if_pos hg, sumLE_congr (g := byteAt z) (fun i hi => by rw [mix_in (by omega) (by omega), Nat.add_sub_cancel_left]), sumLE_byteAt]
    have hp := pow8_pos k.toNat
    have hlt : z < 2 ^ (8 * k.toNat) := by
      by_cases hl : z < 2 ^ (8 * k.toNat)
      · exact hl
      · have := Int.ediv_le_ediv hp (show (2 : Int) ^ (8 * k.toNat) ≤ z by omega)
        rw [Int.ediv_self (by omega), h6] at this
        omega
    exact Int.emod_eq_of_lt h5 hlt
  unfold takeN takeE
  rw [e, if_pos hr, if_pos hr, if_pos hz, if_pos hz]
  exact ⟨rfl, rfl⟩
theorem putF_out {n : Nat} {a k z : Int} {f : Nat → Int} (h : putGood n a k z) {i : Nat} (hi : (i : Int) < a ∨ k ≤ i - a) : putF n a k z f i = f i := by
  unfold putF
  rw [if_pos h]
  obtain ⟨h1, h2, h3, h4, _⟩ := h
  exact mix_out (by omega)

set_option maxHeartbeats 1000000 in
theorem back_any (n : Nat) (ao : Option Addr) (cap : Nat) (xs : List Int) (a k z : Int) (w : World) (hn : n = xs.length) (hl : Lies w w.heap.size ao cap xs) (hx : Byte xs) (hlen : n ≤ 140737488351232) (hz : z ≤ 9223372036854775807) :
    Calls Try.prog 6 #[.slice ao n cap, .agg #[.int .i64 a, .int .i64 k, .int .i64 z]] w fun e w' => e = .returned (.bool true) ∧ Below w.heap.size w w' := by
  have HL := Lib.hid hl
  have HN := Lib.hid hn
  clear hl hn
  go_enter Try.func6, Try.ntmps6
  go_wp2_with fail
  refine (alive_any _).mono ?_
  rintro _ w1 ⟨rfl, hb1⟩
  dsimp only
  have hs1 := hb1.size
  simp only [World.size_alloc] at hs1
  have hb0 : Below w.heap.size w w1 := ((Below.refl _ _).alloc (Nat.le_refl _) _).trans (hb1.mono (by simp))
  have c0 : w1.cell? ⟨w.heap.size, 0, none⟩ = some (.int .i64 a) := (hb1.cell (p := ⟨w.heap.size, 0, none⟩) (by simp)).trans (World.cell?_alloc_new _ _ _ 0)
  have c1 : w1.cell? ⟨w.heap.size, 1, none⟩ = some (.int .i64 k) := (hb1.cell (p := ⟨w.heap.size, 1, none⟩) (by simp)).trans (World.cell?_alloc_new _ _ _ 1)
  have c2 : w1.cell? ⟨w.heap.size, 2, none⟩ = some (.int .i64 z) := (hb1.cell (p := ⟨w.heap.size, 2, none⟩) (by simp)).trans (World.cell?_alloc_new _ _ _ 2)
  have HC := Lib.hid (And.intro c0 (And.intro c1 c2))
  clear hb1 c0 c1 c2
  have HL1 : Hid (Lies w1 w1.heap.size ao cap xs) := Lib.hid ((HL.out.below hb0).more (by omega))
  have HB0 := Lib.hid hb0
  clear hb0
  go_wp2_with fail
  refine (copy_n n ao cap xs w1 HN.out HL1.out (by omega)).mono ?_
  rintro _ w2 ⟨ax, cx, rfl, hx2, hb2⟩
  dsimp only
  have hs2 := hb2.size
  have HL2 : Hid (Lies w2 w2.heap.size ao cap xs) := Lib.hid ((HL1.out.below hb2).more hs2)
  obtain ⟨d0, d1, d2⟩ : w2.cell? ⟨w.heap.size, 0, none⟩ = some (.int .i64 a) ∧ w2.cell? ⟨w.heap.size, 1, none⟩ = some (.int .i64 k) ∧ w2.cell? ⟨w.heap.size, 2, none⟩ = some (.int .i64 z) :=
    ⟨(hb2.cell (p := ⟨w.heap.size, 0, none⟩) (show w.heap.size < w1.heap.size by omega)).trans HC.out.1, (hb2.cell (p := ⟨w.heap.size, 1, none⟩) (show w.heap.size < w1.heap.size by omega)).trans HC.out.2.1, (hb2.cell (p := ⟨w.heap.size, 2, none⟩) (show w.heap.size < w1.heap.size by omega)).trans HC.out.2.2⟩
  have HB2 := Lib.hid hb2
  have HX := Lib.hid hx2
  clear hb2 hx2 HC
  go_wp2_with fail
  refine (put_any w2 w1.heap.size ax n cx _ a k z HX.out (by omega)).mono ?_
  rintro _ w3 ⟨rfl, hG3, hO3⟩
  dsimp only
  have hs3 := hG3.size
  have hb3 := HX.out.under (Below.refl _ _) hG3 hs2
  obtain ⟨e0, e1, e2⟩ : w3.cell? ⟨w.heap.size, 0, none⟩ = some (.int .i64 a) ∧ w3.cell? ⟨w.heap.size, 1, none⟩ = some (.int .i64 k) ∧ w3.cell? ⟨w.heap.size, 2, none⟩ = some (.int .i64 z) :=
    ⟨(hb3.cell (p := ⟨w.heap.size, 0, none⟩) (show w.heap.size < w1.heap.size by omega)).trans d0, (hb3.cell (p := ⟨w.heap.size, 1, none⟩) (show w.heap.size < w1.heap.size by omega)).trans d1, (hb3.cell (p := ⟨w.heap.size, 2, none⟩) (show w.heap.size < w1.heap.size by omega)).trans d2⟩
  have hl3 : Lies w3 w1.heap.size ao cap xs := HL1.out.below (HB2.out.trans hb3)
  have hb : Below w.heap.size w w3 := HB0.out.trans ((HB2.out.trans hb3).mono (by omega))
  have hl3' := hl3.more (show w1.heap.size ≤ w3.heap.size by omega)
  have HB := Lib.hid hb
  clear d0 d1 d2 hb3 hb HB0 HB2 HL2
  by_cases hg : putGood n a k z
  · have hE : putE n a k z = 0 := by unfold putE; rw [if_pos hg]
    rw [hE]
    have hf : ∀ i, i < n → 0 ≤ putF n a k z (fun i => xs.getD i 0) i ∧ putF n a k z (fun i => xs.getD i 0) i < 256 := fun i hi => by
      unfold putF
      rw [if_pos hg]
      exact mix_byte (fun i _ => byte_at hx i) (fun i _ => byteAt_bd _ _) i hi
    obtain ⟨hN, hEr⟩ := put_take n a k z (fun i => xs.getD i 0) hg hz
    have ht := take_any w3 ax n cx _ a k hO3.reads hf (by omega)
    rw [hN, hEr] at ht
    have hout : ∀ i : Nat, (i : Int) < a ∨ k ≤ i - a → putF n a k z (fun i => xs.getD i 0) i = xs.getD i 0 := fun i hi => putF_out hg hi
    obtain ⟨g1, g2, g3, g4, _, _⟩ := hg
    obtain ⟨gx, rfl, _, hrx⟩ := hO3.row.resolve_left (by omega)
    have hne : xs ≠ [] := fun h => by have := HN.out; rw [h] at this; simp at this; omega
    obtain ⟨bb, off, rfl, _, hcb⟩ := hl3.cells hne
    have HCB := Lib.hid hcb
    have HRX := Lib.hid hrx
    have HOUT := Lib.hid hout
    have HNN := Lib.hid HN.out
    have hroom := hO3.room
    have hcap := hl3.room
    rw [← HN.out] at hcap
    generalize putF n a k z (fun i => xs.getD i 0) = G at HRX HOUT ht
    clear hE hN hEr hcb hrx hout hl3 hl3' hO3 hG3 hf hne HX HL HL1 HN
    go_wp2_with fail
    refine ht.mono ?_
    rintro _ _ ⟨rfl, rfl⟩
    dsimp only
    clear ht
    go_wp2_with fail
    go_loopw [9] (fun i wr => ∃ j : Nat, j ≤ n ∧ i = .int .i64 j ∧ Dr w3 wr) (fun i _ => n - (intOf i).toNat)
    case atStart => exact ⟨0, by omega, rfl, Dr.refl _⟩
    case round =>
      obtain ⟨j, hj, rfl, hD⟩ := hrel
      have f0 := (hD.cell ⟨w.heap.size, 0, none⟩).trans e0
      have f1 := (hD.cell ⟨w.heap.size, 1, none⟩).trans e1
      have f2 := (hD.cell ⟨w.heap.size, 2, none⟩).trans e2
      clear e0 e1 e2
      by_cases hlt : j < n
      · have cb := (hD.cell ⟨bb, off + j, none⟩).trans (HCB.out j (by rw [← HNN.out]; exact hlt))
        have cxg := HRX.out.cell hlt
        rw [Nat.zero_add] at cxg
        have cx' := (hD.cell ⟨gx, j, none⟩).trans cxg
        clear cxg
        have hj0 : (0 : Int) ≤ (j : Int) := by omega
        have hjn : (j : Int) < (n : Int) := by omega
        by_cases h1 : (j : Int) < a
        · rw [HOUT.out j (.inl h1)] at cx'
          go_wp2_with fail
          go_quiet (fail)
          go_wp2_with fail
          go_roundw
          case rel => exact ⟨j + 1, by omega, by go_num, hD.more _⟩
          case measure => simp [intOf]; omega
        · have h1' : decide ((j : Int) < a) = false := by simpa using h1
          by_cases h2 : k ≤ (j : Int) - a
          · rw [HOUT.out j (.inr h2)] at cx'
            go_wp2_with fail
            go_quiet (fail)
            go_wp2_with fail
            go_roundw
            case rel => exact ⟨j + 1, by omega, by go_num, hD.more _⟩
            case measure => simp [intOf]; omega
          · have h2' : decide (k ≤ (j : Int) - a) = false := by simpa using h2
            go_wp2_with fail
            go_quiet (fail)
            go_wp2_with fail
            go_roundw
            case rel => exact ⟨j + 1, by omega, by go_num, hD.more _⟩
            case measure => simp [intOf]; omega
      · obtain rfl : j = n := by omega
        go_wp2_with fail
        go_ret
        exact ⟨rfl, hD.below HB.out⟩
  · have hE : putE n a k z = 1 := by unfold putE; rw [if_neg hg]
    have hF : putF n a k z (fun i => xs.getD i 0) = fun i => xs.getD i 0 := by unfold putF; rw [if_neg hg]
    rw [hE]
    rw [hF] at hO3
    have hlx := hO3.lies
    have htab : tab n (fun i => xs.getD i 0) = xs := by rw [HN.out]; exact tab_of xs
    rw [htab] at hlx
    have hsm := same_any ax ao cx cap w3.heap.size w3.heap.size n n xs xs w3 HN.out HN.out hlx hl3' hx hx
    rw [decide_eq_true rfl] at hsm
    clear hE hF htab hlx hl3 hl3' hO3 hG3
    go_wp2_with fail
    refine hsm.mono ?_
    rintro _ _ ⟨rfl, rfl⟩
    dsimp only
    go_wp2_with fail
    go_ret
    exact ⟨rfl, HB.out⟩

end Wd
end Go.Proofs.Ytolgiooddiolcaa
