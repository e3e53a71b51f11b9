/- remap: a table, opened. -/
import Derived.Test.YtllejfnmbpjhaaaDoorJDo
import Derived.Test.YtllejfnmbpjhaaaDoorJRb
namespace Go.Proofs.YtllejfnmbpjhaaaDoor
set_option maxRecDepth 20000
namespace DLaw
open Go.ChangeShapes Go.WideShapes Go.ChangeAt Go.RowKit Go.ChangeMaps Dk

abbrev PrT := { t : Int × Int // Rm.i64 t.1 ∧ Rm.i64 t.2 }
instance : Inhabited PrT := ⟨⟨(0, 0), by unfold Rm.i64; omega⟩⟩
def prT (t : PrT) : List Value := [.int .i64 t.1.1, .int .i64 t.1.2]
theorem cells_prty : Tryd.prog.cellsOf 100 = 2 := by kernel_rfl
theorem bytes_prty : Tryd.prog.bytesOf 100 = 16 := by kernel_rfl
theorem cells_rmty : Tryd.prog.cellsOf 26 = 2 := by kernel_rfl
theorem under_prs : Tryd.prog.underlying 24 = some (.slice 100) := by kernel_rfl
theorem pr_read {H : Type} {enc : TypeId × Value → H} {w : World} {base : Nat} {sp : Nat → Bool} {held : Bool} {fuel : Nat} {cs : List Value} {x : DataW H × List MemPlace} (h : DataW.trod enc Tryd.prog w base sp held fuel 100 cs = some x) : ∃ s : PrT, cs = prT s := by
  obtain ⟨y0, y1, n, _, hl, h0, h1⟩ := trod_struct2 Tryd.underlying100 h
  rw [cells_prty] at hl
  obtain ⟨z0, e0, _, w0⟩ := DataW.trod_int under_int h0
  obtain ⟨z1, e1, _, w1⟩ := DataW.trod_int under_int h1
  rw [cells_int] at e0 e1
  refine ⟨⟨(z0, z1), wf_i64 w0, wf_i64 w1⟩, ?_⟩
  match cs, hl with
  | [c0, c1], _ =>
    simp at e0 e1
    subst e0 e1
    rfl
/-- any table, opened -/
theorem open_remap {H : Type} {enc : TypeId × Value → H} {W : World} {r : Reach} {base : Nat} {v : Value} {d : DataW H} {ps : List MemPlace} {ts : List TypeId} {ds : List (DataW H)} {j : Nat}
    (hsz : (DataW.weightsEach Tryd.prog ts ds).all (· ≤ reachBytes) = true) (ht : ts[j]? = some 26) (hd : ds[j]? = some d)
    (hval : Value.okWide Tryd.prog W r base 26 v) (h0 : DataW.Trod enc Tryd.prog W 0 (fun _ => true) true 26 v d ps) (hlt : ∀ x ∈ ps, x.block < W.heap.size) :
    ∃ (gen : Int) (pa : Option Addr) (n cap : Nat) (F T : Nat → Int), v = .agg #[.int .i64 gen, .slice pa n cap] ∧ Lay W W.heap.size W.heap.size pa n cap 2 (Rm.prV F T) ∧ n * 16 ≤ 140737488355328 ∧ (∀ i, i < n → Rm.i64 (F i) ∧ Rm.i64 (T i)) ∧ Rm.i64 gen := by
  obtain ⟨v0, v1, y0, y1, fu, rfl, rfl, rfl, t0, t1⟩ := Joins.open_agg2 Tryd.underlying26 (by kernel_rfl) cells_rmty hval h0
  obtain ⟨f, hf, _, wf⟩ := DataW.trod_int under_int t0
  obtain ⟨pa, n, cap, S, hs, ls, ns⟩ := open_rows (V := prT) under_prs cells_prty (by omega) (fun _ _ _ h => pr_read h) t1 (fun p hp => hlt p (by simp [hp]))
  simp only [List.cons.injEq, and_true] at hf hs
  subst hf hs
  refine ⟨f, pa, n, cap, fun i => (S i).1.1, fun i => (S i).1.2, rfl, ls, ?_, fun i _ => (S i).2, wf_i64 wf⟩
  rcases ns with rfl | ⟨el, rest, he, hl⟩
  · omega
  · have hmem : (el.length + rest.length) * 16 ∈ DataW.weights Tryd.prog 26 (.agg [y0.1, y1.1]) := by
      rw [he]
      simp [DataW.weights, DataW.weightsEach, Tryd.underlying26, bytes_prty]
    have h9 : (el.length + rest.length) * 16 ≤ reachBytes := by simpa using List.all_eq_true.1 hsz _ (DataW.weights_mem_each ht hd _ hmem)
    simp only [reachBytes] at h9
    omega
end DLaw
end Go.Proofs.YtllejfnmbpjhaaaDoor
