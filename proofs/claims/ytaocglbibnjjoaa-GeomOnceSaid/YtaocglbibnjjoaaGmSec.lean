/- geom: ForSectors and the reference's. -/
import Derived.Test.YtaocglbibnjjoaaGmFor
namespace Go.Proofs.Ytaocglbibnjjoaa
set_option maxRecDepth 20000
namespace Gm
open Go.RowKit

/-- the quota that the code tries -/
def qc (n : Int) : Int := wrap64 ((wrap64 (wrap64 (wrap64 ((wrap64 (n - 20)).tdiv 2) - 28) - 120)).tdiv 2)
theorem qc_of {q : Int} (h : inQ q) : qc (4 * q + 316) = q := by
  unfold inQ at h
  unfold qc
  have e1 : wrap64 (4 * q + 316 - 20) = 2 * (2 * q + 148) := by rw [w64_in _ (by omega)]; omega
  have e2 : (2 * (2 * q + 148)).tdiv 2 = 2 * q + 148 := Int.mul_tdiv_cancel_left _ (by decide)
  have e3 : wrap64 (2 * q + 148) = 2 * q + 148 := w64_in _ (by omega)
  have e4 : wrap64 (2 * q + 148 - 28) = 2 * q + 120 := by rw [w64_in _ (by omega)]; omega
  have e5 : wrap64 (2 * q + 120 - 120) = 2 * q := by rw [w64_in _ (by omega)]; omega
  have e6 : (2 * q).tdiv 2 = q := Int.mul_tdiv_cancel_left _ (by decide)
  have e7 : wrap64 q = q := w64_in _ (by omega)
  rw [e1, e2, e3, e4, e5, e6, e7]
theorem qc_no {n q : Int} (h : fsq n = 0) (_e : qc n = q) (hq : inQ q) : 4 * q + 316 ≠ n := fun e2 => by
  rw [← e2, fsq_of hq] at h
  unfold inQ at hq
  omega

set_option maxHeartbeats 1000000 in
theorem fors_any (n : Int) (w : World) (hn : i64 n) : Calls Try.prog 10 #[.int .i64 n] w fun e w' => e = .returned (.tuple #[.agg (gA (geo (fsq n))), .int .i64 (er (fsq n))]) ∧ Below w.heap.size w w' := by
  have HF := Lib.hid (forq_any (qc n))
  obtain ⟨hn1, hn2⟩ := hn
  rcases fsq_cases n with ⟨q, hq, hnq, hf⟩ | ⟨hf, hno⟩
  · have HQ : Hid (n = 4 * q + 316 ∧ qc n = q) := Lib.hid ⟨hnq, by rw [hnq]; exact qc_of hq⟩
    rw [hf, geo_in hq, er_in hq]
    rw [HQ.out.2, geo_in hq, er_in hq] at HF
    clear hnq hf
    unfold inQ at hq
    obtain ⟨hq1, hq2⟩ := hq
    go_enter Try.func10, Try.ntmps10
    go_wp2_with fail
    show Calls _ _ #[.int .i64 (qc n)] _ _
    rw [HQ.out.2]
    refine (HF.out _).mono ?_
    rintro _ w1 ⟨rfl, hb1⟩
    dsimp only [gA, lay]
    obtain ⟨hr, hs, hb⟩ := box_back hb1
    have HR := Lib.hid ((((Below.refl (w.heap.size + 1) w1).alloc hs (.cells (gA (lay q)) 24)).block w.heap.size (by omega)).trans hr)
    have HB := Lib.hid (hb.alloc (Nat.le_of_lt hs) (.cells (gA (lay q)) 24))
    have hnq := HQ.out.1
    clear HQ hr hb hb1 HF
    subst hnq
    go_wp2_with (refine wpList_store_row rfl 24 (.tmp 2) (.tmp 27) rfl w.heap.size (gA (lay q)) rfl rfl 24 _ HR.out (sizeG _) rfl (allG _) ?_; simp only [Act.put])
    refine bodyPost_ret (results_2g (B := w.heap.size) (g := lay q) rfl rfl rfl (setRow_heap _ _ _ _ _ _ HR.out)) rfl ?_
    exact ⟨rfl, below_row HB.out (Nat.le_refl _) _⟩
  · rw [hf]
    have HQ : Hid (inQ (qc n) → 4 * qc n + 316 ≠ n) := Lib.hid fun h => qc_no hf rfl h
    clear hno hf
    have e0 : ¬ inQ 0 := by unfold inQ; omega
    rw [geo_out e0, er_out e0]
    clear e0
    by_cases hq : inQ (qc n)
    · rw [geo_in hq, er_in hq] at HF
      have hne := HQ.out hq
      have HNE := Lib.hid hne
      unfold inQ at hq
      clear hne HQ
      go_enter Try.func10, Try.ntmps10
      go_wp2_with fail
      show Calls _ _ #[.int .i64 (qc n)] _ _
      refine (HF.out _).mono ?_
      rintro _ w1 ⟨rfl, hb1⟩
      dsimp only [gA, lay]
      have hne := HNE.out
      clear HF HNE
      generalize qc n = q at *
      obtain ⟨hq1, hq2⟩ := hq
      obtain ⟨hr, hs, hb⟩ := box_back hb1
      have HR := Lib.hid ((((Below.refl (w.heap.size + 1) w1).alloc hs (.cells (gA (lay q)) 24)).block w.heap.size (by omega)).trans hr)
      have HB := Lib.hid (hb.alloc (Nat.le_of_lt hs) (.cells (gA (lay q)) 24))
      clear hr hb hb1
      go_wp2_with (refine wpList_store_row rfl 24 (.tmp 2) (.tmp 26) rfl w.heap.size (gA zG) rfl rfl 24 _ HR.out (sizeG _) rfl (allG _) ?_; simp only [Act.put])
      refine bodyPost_ret (results_2g (B := w.heap.size) (g := zG) rfl rfl rfl (setRow_heap _ _ _ _ _ _ HR.out)) rfl ?_
      exact ⟨rfl, below_row HB.out (Nat.le_refl _) _⟩
    · rw [geo_out hq, er_out hq] at HF
      clear hq
      go_enter Try.func10, Try.ntmps10
      go_wp2_with fail
      show Calls _ _ #[.int .i64 (qc n)] _ _
      refine (HF.out _).mono ?_
      rintro _ w1 ⟨rfl, hb1⟩
      dsimp only [gA, zG]
      clear HF HQ
      obtain ⟨hr, hs, hb⟩ := box_back hb1
      have HR := Lib.hid ((((Below.refl (w.heap.size + 1) w1).alloc hs (.cells (gA zG) 24)).block w.heap.size (by omega)).trans hr)
      have HB := Lib.hid (hb.alloc (Nat.le_of_lt hs) (.cells (gA zG) 24))
      clear hr hb hb1
      go_wp2_with (refine wpList_store_row rfl 24 (.tmp 2) (.tmp 26) rfl w.heap.size (gA zG) rfl rfl 24 _ HR.out (sizeG _) rfl (allG _) ?_; simp only [Act.put])
      refine bodyPost_ret (results_2g (B := w.heap.size) (g := zG) rfl rfl rfl (setRow_heap _ _ _ _ _ _ HR.out)) rfl ?_
      exact ⟨rfl, below_row HB.out (Nat.le_refl _) _⟩
end Gm
end Go.Proofs.Ytaocglbibnjjoaa
