/- disk: a disk with room for one more write, a block, opened. -/
import Derived.Test.YtoopenkohedmoaaDkOpen
namespace Go.Proofs.Ytoopenkohedmoaa
namespace DLaw
open Go.ChangeShapes Go.WideShapes Go.ChangeAt Go.RowKit Go.ChangeMaps Dk

/-- any disk, opened -/
theorem open_disk1 {H : Type} {enc : TypeId × Value → H} {W : World} {r : Reach} {base : Nat} {v : Value} {d : DataW H} {ps : List MemPlace} {ts : List TypeId} {ds : List (DataW H)} {j : Nat}
    (hsz : (DataW.weightsEach Try.prog ts ds).all (· ≤ reachBytes) = true) (ht : ts[j]? = some 25) (hd : ds[j]? = some d)
    (hval : Value.okWide Try.prog W r base 25 v) (h0 : DataW.Trod enc Try.prog W 0 (fun _ => true) true 25 v d ps) (hlt : ∀ x ∈ ps, x.block < W.heap.size) :
    ∃ (sa : Option Addr) (n sc : Nat) (ca : Option Addr) (m cc : Nat) (S : Nat → Sec) (C : Nat → Wr) (f : Int) (dn : Bool), v = .agg #[.slice sa n sc, .slice ca m cc, .int .i64 f, .bool dn] ∧
      Lay W W.heap.size W.heap.size sa n sc 130 (fun i => secV (S i)) ∧ Lay W W.heap.size W.heap.size ca m cc 129 (fun i => wrV (C i)) ∧ n * 130 ≤ 140737488355328 ∧ (m + 1) * 136 ≤ 140737488355328 ∧ (-9223372036854775808 ≤ f ∧ f ≤ 9223372036854775807) := by
  obtain ⟨v0, v1, v2, v3, y0, y1, y2, y3, fu, rfl, rfl, rfl, t0, t1, t2, t3⟩ := Joins.open_agg4 Try.underlying25 (by kernel_rfl) cells_disk hval h0
  obtain ⟨f, hf, _, wf⟩ := DataW.trod_int under_int t2
  obtain ⟨dn, hdn, _⟩ := DataW.trod_bool under_bool t3
  obtain ⟨sa, n, sc, S, hs, ls, ns⟩ := open_rows (V := secV) slice_sec cells_secty (by omega) (fun _ _ _ h => sec_read h) t0 (fun p hp => hlt p (by simp [hp]))
  obtain ⟨ca, m, cc, C, hc, lc, nc⟩ := open_rows (V := wrV) slice_wr cells_wrty (by omega) (fun _ _ _ h => wr_read h) t1 (fun p hp => hlt p (by simp [hp]))
  simp only [List.cons.injEq, and_true] at hf hdn hs hc
  subst hf hdn hs hc
  refine ⟨sa, n, sc, ca, m, cc, S, C, f, dn, rfl, ls, lc, ?_, ?_, wf_i64 wf⟩
  · rcases ns with rfl | ⟨el, rest, he, hl⟩
    · omega
    · have hmem : (el.length + rest.length) * 130 ∈ DataW.weights Try.prog 25 (.agg [y0.1, y1.1, y2.1, y3.1]) := by
        rw [he]
        simp [DataW.weights, DataW.weightsEach, Try.underlying25, slice_sec, bytes_secty]
      have h9 : (el.length + rest.length) * 130 ≤ reachBytes := by simpa using List.all_eq_true.1 hsz _ (DataW.weights_mem_each ht hd _ hmem)
      simp only [reachBytes] at h9
      omega
  · rcases nc with rfl | ⟨el, rest, he, hl⟩
    · omega
    · have hmem : (el.length + rest.length) * 136 ∈ DataW.weights Try.prog 25 (.agg [y0.1, y1.1, y2.1, y3.1]) := by
        rw [he]
        simp [DataW.weights, DataW.weightsEach, Try.underlying25, slice_wr, bytes_wrty]
      have h9 : (el.length + rest.length) * 136 ≤ reachBytes := by simpa using List.all_eq_true.1 hsz _ (DataW.weights_mem_each ht hd _ hmem)
      simp only [reachBytes] at h9
      omega

/-- any block, opened -/
theorem open_block {H : Type} {enc : TypeId × Value → H} {W : World} {r : Reach} {b0 base : Nat} {sp : Nat → Bool} {held : Bool} {v : Value} {d : DataW H} {ps : List MemPlace}
    (hval : Value.okWide Try.prog W r b0 29 v) (h : DataW.Trod enc Try.prog W base sp held 29 v d ps) : ∃ D : Nat → Int, v = .agg (bl D).toArray := by
  simp only [Value.okWide, under_arr] at hval
  obtain ⟨cs, rfl, _, _⟩ := hval
  obtain ⟨fuel, hf⟩ := h
  obtain ⟨D, hD⟩ := bl_read hf
  exact ⟨D, by rw [← hD]; simp [Value.cells]⟩
end DLaw
end Go.Proofs.Ytoopenkohedmoaa
