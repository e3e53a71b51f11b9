/- geom: the reference's ForSectors. -/
import Derived.Test.YtaocglbibnjjoaaGmSec
namespace Go.Proofs.Ytaocglbibnjjoaa
set_option maxRecDepth 20000
namespace Gm
open Go.RowKit

set_option maxHeartbeats 1000000 in
theorem refors_any (n : Int) (w : World) : Calls Try.prog 11 #[.int .i64 n] w fun e w' => e = .returned (.tuple #[.agg (gA (geo (fsq n))), .int .i64 (er (fsq n))]) ∧ Below w.heap.size w w' := by
  have HF := Lib.hid refforq_any
  obtain ⟨W, hW⟩ : ∃ W, W = w.alloc (.cells (gA zG) 24) := ⟨_, rfl⟩
  have HX : Hid (W.heap[w.heap.size]? = some (.cells (gA zG) 24 (0, 0)) ∧ W.heap.size = w.heap.size + 1 ∧ Below w.heap.size w W) := Lib.hid (by
    rw [hW]
    exact ⟨heap_alloc_new _ _, by simp, (Below.refl _ _).alloc (Nat.le_refl _) _⟩)
  go_enter Try.func11, Try.ntmps11
  go_wp2_with (rw [show w.alloc (.cells #[.int .i64 0, .int .i64 0, .int .i64 0, .int .i64 0, .int .i64 0, .int .i64 0] 24) = W from hW.symm])
  clear hW
  have hws := HX.out.2.1
  go_loopw [4] (fun i wr => ∃ q : Int, 4 ≤ q ∧ q ≤ 901 ∧ i = .int .i64 q ∧ Hid (Below W.heap.size W wr ∧ ∀ p, 4 ≤ p → p < q → 4 * p + 316 ≠ n)) (fun i _ => (901 - intOf i).toNat)
  case atStart => exact ⟨4, by omega, by omega, rfl, Lib.hid ⟨Below.refl _ _, fun p _ _ => by omega⟩⟩
  case round =>
    obtain ⟨q, hq4, hq9, rfl, HB⟩ := hrel
    have hsz := HB.out.1.size
    by_cases hlt : q ≤ 900
    · have hq : inQ q := ⟨hq4, hlt⟩
      have HQ := HF.out q
      rw [geo_in hq, er_in hq] at HQ
      have HQ2 := Lib.hid HQ
      clear hq HQ
      go_wp2_with fail
      refine (HQ2.out _).mono ?_
      rintro _ w2 ⟨rfl, hb2⟩
      dsimp only [gA, lay]
      have hs2 := hb2.size
      have HB2 := Lib.hid (HB.out.1.trans ((hb2.alloc hs2 (.cells (gA (lay q)) 24)).mono hsz))
      clear hb2
      by_cases he : 4 * q + 316 = n
      · subst he
        have HR := Lib.hid ((HB2.out.block w.heap.size (by omega)).trans HX.out.1)
        go_wp2_with (refine wpList_store_row rfl 24 (.tmp 2) (.tmp 20) rfl w.heap.size (gA (lay q)) rfl rfl 24 _ HR.out (sizeG _) rfl (allG _) ?_; simp only [Act.put])
        refine bodyPost_ret (results_2g (B := w.heap.size) (g := lay q) rfl rfl rfl (setRow_heap _ _ _ _ _ _ HR.out)) rfl ?_
        have hq : inQ q := ⟨hq4, hlt⟩
        rw [fsq_of hq, geo_in hq, er_in hq]
        exact ⟨rfl, below_row (HX.out.2.2.trans (HB2.out.mono (by omega))) (Nat.le_refl _) _⟩
      · go_wp2_with fail
        go_roundw
        case rel => exact ⟨q + 1, by omega, by omega, by go_num, Lib.hid ⟨HB2.out, fun p h1 h2 => by
          rcases Int.lt_or_eq_of_le (show p ≤ q by omega) with h | h
          · exact HB.out.2 p h1 h
          · rw [h]; exact he⟩⟩
        case measure => simp [intOf]; omega
    · obtain rfl : q = 901 := by omega
      have HF0 := Lib.hid (show fsq n = 0 from fsq_no fun p hp => HB.out.2 p hp.1 (by have := hp.2; omega))
      have HR := Lib.hid ((HB.out.1.block w.heap.size (by omega)).trans HX.out.1)
      go_wp2_with (refine wpList_store_row rfl 24 (.tmp 2) (.tmp 21) rfl w.heap.size (gA zG) rfl rfl 24 _ HR.out (sizeG _) rfl (allG _) ?_; simp only [Act.put])
      refine bodyPost_ret (results_2g (B := w.heap.size) (g := zG) rfl rfl rfl (setRow_heap _ _ _ _ _ _ HR.out)) rfl ?_
      have e0 : ¬ inQ 0 := by unfold inQ; omega
      rw [HF0.out, geo_out e0, er_out e0]
      exact ⟨rfl, below_row (HX.out.2.2.trans (HB.out.1.mono (by omega))) (Nat.le_refl _) _⟩
end Gm
end Go.Proofs.Ytaocglbibnjjoaa
