/- A text that is put is taken as it was, and no other byte changes: the law's walk. -/
import Derived.Test.YtolgiooddiolcaaWdBack
namespace Go.Proofs.Ytolgiooddiolcaa
namespace Wd
open Go.RowKit Byt Go.PlainAid

/-- what is put is taken -/
theorem pt_take (n : Nat) (a k : Int) (s : ByteArray) (f : Nat → Int) (h : ptGood n a k s) : textS n a k (ptF n a k s f) = s ∧ textE n a k (ptF n a k s f) = 0 := by
  have hg := h
  obtain ⟨hr, h5⟩ := h
  have hr' := hr
  obtain ⟨h1, h2, h3, h4⟩ := hr'
  obtain ⟨a', rfl⟩ : ∃ m : Nat, a = m := ⟨a.toNat, by omega⟩
  obtain ⟨k', rfl⟩ : ∃ m : Nat, k = m := ⟨k.toNat, by omega⟩
  have e0 : ptF n a' k' s f a' = s.size := by
    unfold ptF
    rw [if_pos hg, mix_in (by omega) (by omega)]
    unfold roomF
    rw [if_pos (by omega)]
  have ez : zeroB (fun i => ptF n a' k' s f (a' + 1 + s.size + i)) (k' - (1 + s.size)) = true := zeroB_true.2 fun i hi => by
    unfold ptF
    rw [if_pos hg, mix_in (by omega) (by omega)]
    unfold roomF
    rw [if_neg (by omega), if_neg (by omega)]
  have et : tab s.size (fun i => ptF n a' k' s f (a' + 1 + i)) = tab s.size (bt s) := tab_congr fun i hi => by
    unfold ptF
    rw [if_pos hg, mix_in (by omega) (by omega)]
    unfold roomF
    rw [if_neg (by omega), if_pos (by omega)]
    congr 1
    omega
  have ok : textOk a' k' (ptF n a' k' s f) = true := by
    unfold textOk
    rw [Int.toNat_natCast, Int.toNat_natCast, e0, Int.toNat_natCast, ez, Bool.and_true, decide_eq_true_eq]
    omega
  unfold textS textE
  rw [if_pos hr, if_pos hr, if_pos ok, if_pos ok, Int.toNat_natCast, e0, Int.toNat_natCast, et, strOf_bt]
  exact ⟨rfl, rfl⟩
theorem ptF_out {n : Nat} {a k : Int} {s : ByteArray} {f : Nat → Int} (h : ptGood n a k s) {i : Nat} (hi : (i : Int) < a ∨ k ≤ i - a) : ptF n a k s f i = f i := by
  unfold ptF
  rw [if_pos h]
  obtain ⟨⟨h1, h2, h3, h4⟩, _⟩ := h
  exact mix_out (by omega)

set_option maxHeartbeats 1000000 in
theorem textback_any (n : Nat) (ao : Option Addr) (cap : Nat) (xs : List Int) (a k : Int) (s : ByteArray) (w : World) (hn : n = xs.length) (hl : Lies w w.heap.size ao cap xs) (hx : Byte xs) (hlen : n ≤ 140737488351232) (hs : s.size ≤ 140737488351232) :
    Calls Try.prog 7 #[.slice ao n cap, .agg #[.int .i64 a, .int .i64 k], .string s] w fun e w' => e = .returned (.bool true) ∧ Below w.heap.size w w' := by
  have HL := Lib.hid hl
  have HN := Lib.hid hn
  clear hl hn
  go_enter Try.func7, Try.ntmps7
  go_wp2_with fail
  refine (alive_any _).mono ?_
  rintro _ w1 ⟨rfl, hb1⟩
  dsimp only
  have hs1 := hb1.size
  simp only [World.size_alloc] at hs1
  have hb0 : Below w.heap.size w w1 := ((Below.refl _ _).alloc (Nat.le_refl _) _).trans (hb1.mono (by simp))
  have c0 : w1.cell? ⟨w.heap.size, 0, none⟩ = some (.int .i64 a) := (hb1.cell (p := ⟨w.heap.size, 0, none⟩) (by simp)).trans (World.cell?_alloc_new _ _ _ 0)
  have c1 : w1.cell? ⟨w.heap.size, 1, none⟩ = some (.int .i64 k) := (hb1.cell (p := ⟨w.heap.size, 1, none⟩) (by simp)).trans (World.cell?_alloc_new _ _ _ 1)
  have HC := Lib.hid (And.intro c0 c1)
  clear hb1 c0 c1
  have HL1 : Hid (Lies w1 w1.heap.size ao cap xs) := Lib.hid ((HL.out.below hb0).more (by omega))
  have HB0 := Lib.hid hb0
  clear hb0
  go_wp2_with fail
  refine (copy_n n ao cap xs w1 HN.out HL1.out (by omega)).mono ?_
  rintro _ w2 ⟨ax, cx, rfl, hx2, hb2⟩
  dsimp only
  have hs2 := hb2.size
  obtain ⟨d0, d1⟩ : w2.cell? ⟨w.heap.size, 0, none⟩ = some (.int .i64 a) ∧ w2.cell? ⟨w.heap.size, 1, none⟩ = some (.int .i64 k) :=
    ⟨(hb2.cell (p := ⟨w.heap.size, 0, none⟩) (show w.heap.size < w1.heap.size by omega)).trans HC.out.1, (hb2.cell (p := ⟨w.heap.size, 1, none⟩) (show w.heap.size < w1.heap.size by omega)).trans HC.out.2⟩
  have HB2 := Lib.hid hb2
  have HX := Lib.hid hx2
  clear hb2 hx2 HC
  go_wp2_with fail
  refine (puttext_any w2 w1.heap.size ax n cx _ a k s HX.out (by omega) (by omega)).mono ?_
  rintro _ w3 ⟨rfl, hG3, hO3⟩
  dsimp only
  have hs3 := hG3.size
  have hb3 := HX.out.under (Below.refl _ _) hG3 hs2
  obtain ⟨e0, e1⟩ : w3.cell? ⟨w.heap.size, 0, none⟩ = some (.int .i64 a) ∧ w3.cell? ⟨w.heap.size, 1, none⟩ = some (.int .i64 k) :=
    ⟨(hb3.cell (p := ⟨w.heap.size, 0, none⟩) (show w.heap.size < w1.heap.size by omega)).trans d0, (hb3.cell (p := ⟨w.heap.size, 1, none⟩) (show w.heap.size < w1.heap.size by omega)).trans d1⟩
  have hl3 : Lies w3 w1.heap.size ao cap xs := HL1.out.below (HB2.out.trans hb3)
  have hb : Below w.heap.size w w3 := HB0.out.trans ((HB2.out.trans hb3).mono (by omega))
  have hl3' := hl3.more (show w1.heap.size ≤ w3.heap.size by omega)
  have HB := Lib.hid hb
  clear d0 d1 hb3 hb HB0 HB2
  by_cases hg : ptGood n a k s
  · have hE : ptE n a k s = 0 := by unfold ptE; rw [if_pos hg]
    rw [hE]
    have hf : ∀ i, i < n → 0 ≤ ptF n a k s (fun i => xs.getD i 0) i ∧ ptF n a k s (fun i => xs.getD i 0) i < 256 := fun i hi => by
      unfold ptF
      rw [if_pos hg]
      obtain ⟨⟨_, h2, _⟩, h3⟩ := hg
      exact mix_byte (fun i _ => byte_at hx i) (fun i _ => room_byte s i (by omega)) i hi
    obtain ⟨hN, hEr⟩ := pt_take n a k s (fun i => xs.getD i 0) hg
    have ht := taketext_any w3 ax n cx _ a k hO3.reads hf (by omega)
    rw [hN, hEr] at ht
    have hout : ∀ i : Nat, (i : Int) < a ∨ k ≤ i - a → ptF n a k s (fun i => xs.getD i 0) i = xs.getD i 0 := fun i hi => ptF_out hg hi
    obtain ⟨⟨g1, g2, g3, g4⟩, _⟩ := hg
    obtain ⟨gx, rfl, _, hrx⟩ := hO3.row.resolve_left (by omega)
    have hne : xs ≠ [] := fun h => by have := HN.out; rw [h] at this; simp at this; omega
    obtain ⟨bb, off, rfl, _, hcb⟩ := hl3.cells hne
    have HCB := Lib.hid hcb
    have HRX := Lib.hid hrx
    have HOUT := Lib.hid hout
    have HNN := Lib.hid HN.out
    have hroom := hO3.room
    have hcap := hl3.room
    rw [← HN.out] at hcap
    generalize ptF n a k s (fun i => xs.getD i 0) = G at HRX HOUT ht
    clear hE hN hEr hcb hrx hout hl3 hl3' hO3 hG3 hf hne HX HL HL1 HN
    go_wp2_with fail
    refine ht.mono ?_
    rintro _ _ ⟨rfl, rfl⟩
    dsimp only
    clear ht
    go_wp2_with fail
    go_loopw [11] (fun i wr => ∃ j : Nat, j ≤ n ∧ i = .int .i64 j ∧ Dr w3 wr) (fun i _ => n - (intOf i).toNat)
    case atStart => exact ⟨0, by omega, rfl, Dr.refl _⟩
    case round =>
      obtain ⟨j, hj, rfl, hD⟩ := hrel
      have f0 := (hD.cell ⟨w.heap.size, 0, none⟩).trans e0
      have f1 := (hD.cell ⟨w.heap.size, 1, none⟩).trans e1
      clear e0 e1
      by_cases hlt : j < n
      · have cb := (hD.cell ⟨bb, off + j, none⟩).trans (HCB.out j (by rw [← HNN.out]; exact hlt))
        have cxg := HRX.out.cell hlt
        rw [Nat.zero_add] at cxg
        have cx' := (hD.cell ⟨gx, j, none⟩).trans cxg
        clear cxg
        have hj0 : (0 : Int) ≤ (j : Int) := by omega
        have hjn : (j : Int) < (n : Int) := by omega
        by_cases h1 : (j : Int) < a
        · rw [HOUT.out j (.inl h1)] at cx'
          go_wp2_with fail
          go_quiet (fail)
          go_wp2_with fail
          go_roundw
          case rel => exact ⟨j + 1, by omega, by go_num, hD.more _⟩
          case measure => simp [intOf]; omega
        · have h1' : decide ((j : Int) < a) = false := by simpa using h1
          by_cases h2 : k ≤ (j : Int) - a
          · rw [HOUT.out j (.inr h2)] at cx'
            go_wp2_with fail
            go_quiet (fail)
            go_wp2_with fail
            go_roundw
            case rel => exact ⟨j + 1, by omega, by go_num, hD.more _⟩
            case measure => simp [intOf]; omega
          · have h2' : decide (k ≤ (j : Int) - a) = false := by simpa using h2
            go_wp2_with fail
            go_quiet (fail)
            go_wp2_with fail
            go_roundw
            case rel => exact ⟨j + 1, by omega, by go_num, hD.more _⟩
            case measure => simp [intOf]; omega
      · obtain rfl : j = n := by omega
        go_wp2_with fail
        go_ret
        exact ⟨rfl, hD.below HB.out⟩
  · have hE : ptE n a k s = 1 := by unfold ptE; rw [if_neg hg]
    have hF : ptF n a k s (fun i => xs.getD i 0) = fun i => xs.getD i 0 := by unfold ptF; rw [if_neg hg]
    rw [hE]
    rw [hF] at hO3
    have hlx := hO3.lies
    have htab : tab n (fun i => xs.getD i 0) = xs := by rw [HN.out]; exact tab_of xs
    rw [htab] at hlx
    have hsm := same_any ax ao cx cap w3.heap.size w3.heap.size n n xs xs w3 HN.out HN.out hlx hl3' hx hx
    rw [decide_eq_true rfl] at hsm
    clear hE hF htab hlx hl3 hl3' hO3 hG3
    go_wp2_with fail
    refine hsm.mono ?_
    rintro _ _ ⟨rfl, rfl⟩
    dsimp only
    go_wp2_with fail
    go_ret
    exact ⟨rfl, HB.out⟩

end Wd
end Go.Proofs.Ytolgiooddiolcaa
