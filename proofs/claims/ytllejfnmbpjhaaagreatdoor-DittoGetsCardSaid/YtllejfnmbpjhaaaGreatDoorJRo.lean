import Derived.Test.YtllejfnmbpjhaaaGreatDoorJDo
import Derived.Test.YtllejfnmbpjhaaaGreatDoorJRb
/- remap: a table, opened. -/
namespace Go.Proofs.YtllejfnmbpjhaaaGreatDoor
set_option maxRecDepth 20000
namespace DLaw
open Go.ChangeShapes Go.WideShapes Go.ChangeAt Go.RowKit Go.ChangeMaps Dk

abbrev PrT := { t : Int × Int // Rm.i64 t.1 ∧ Rm.i64 t.2 }
instance : Inhabited PrT := ⟨⟨(0, 0), by unfold Rm.i64; omega⟩⟩
def prT (t : PrT) : List Value := [.int .i64 t.1.1, .int .i64 t.1.2]
theorem cells_prty : Tryz.prog.cellsOf 72 = 2 := by kernel_rfl
theorem bytes_prty : Tryz.prog.bytesOf 72 = 16 := by kernel_rfl
theorem cells_rmty : Tryz.prog.cellsOf 28 = 2 := by kernel_rfl
theorem under_prs : Tryz.prog.underlying 26 = some (.slice 72) := by kernel_rfl
theorem pr_read {H : Type} {enc : TypeId × Value → H} {w : World} {base : Nat} {sp : Nat → Bool} {held : Bool} {fuel : Nat} {cs : List Value} {x : DataW H × List MemPlace} (h : DataW.trod enc Tryz.prog w base sp held fuel 72 cs = some x) : ∃ s : PrT, cs = prT s := by
  obtain ⟨y0, y1, n, _, hl, h0, h1⟩ := trod_struct2 Tryz.underlying72 h
  rw [cells_prty] at hl
  obtain ⟨z0, e0, _, w0⟩ := DataW.trod_int under_int h0
  obtain ⟨z1, e1, _, w1⟩ := DataW.trod_int under_int h1
  rw [cells_int] at e0 e1
  refine ⟨⟨(z0, z1), wf_i64 w0, wf_i64 w1⟩, ?_⟩
  match cs, hl with
  | [c0, c1], _ =>
    simp at e0 e1
    subst e0 e1
    rfl
/-- any table, opened -/
theorem open_remap {H : Type} {enc : TypeId × Value → H} {W : World} {r : Reach} {base : Nat} {v : Value} {d : DataW H} {ps : List MemPlace} {ts : List TypeId} {ds : List (DataW H)} {j : Nat}
    (hsz : (DataW.weightsEach Tryz.prog ts ds).all (· ≤ reachBytes) = true) (ht : ts[j]? = some 28) (hd : ds[j]? = some d)
    (hval : Value.okWide Tryz.prog W r base 28 v) (h0 : DataW.Trod enc Tryz.prog W 0 (fun _ => true) true 28 v d ps) (hlt : ∀ x ∈ ps, x.block < W.heap.size) :
    ∃ (gen : Int) (pa : Option Addr) (n cap : Nat) (F T : Nat → Int), v = .agg #[.int .i64 gen, .slice pa n cap] ∧ Lay W W.heap.size W.heap.size pa n cap 2 (Rm.prV F T) ∧ n * 16 ≤ 140737488355328 ∧ (∀ i, i < n → Rm.i64 (F i) ∧ Rm.i64 (T i)) ∧ Rm.i64 gen := by
  obtain ⟨v0, v1, y0, y1, fu, rfl, rfl, rfl, t0, t1⟩ := Joins.open_agg2 Tryz.underlying28 (by kernel_rfl) cells_rmty hval h0
  obtain ⟨f, hf, _, wf⟩ := DataW.trod_int under_int t0
  obtain ⟨pa, n, cap, S, hs, ls, ns⟩ := open_rows (V := prT) under_prs cells_prty (by omega) (fun _ _ _ h => pr_read h) t1 (fun p hp => hlt p (by simp [hp]))
  simp only [List.cons.injEq, and_true] at hf hs
  subst hf hs
  refine ⟨f, pa, n, cap, fun i => (S i).1.1, fun i => (S i).1.2, rfl, ls, ?_, fun i _ => (S i).2, wf_i64 wf⟩
  rcases ns with rfl | ⟨el, rest, he, hl⟩
  · omega
  · have hmem : (el.length + rest.length) * 16 ∈ DataW.weights Tryz.prog 28 (.agg [y0.1, y1.1]) := by
      rw [he]
      simp [DataW.weights, DataW.weightsEach, Tryz.underlying28, bytes_prty]
    have h9 : (el.length + rest.length) * 16 ≤ reachBytes := by simpa using List.all_eq_true.1 hsz _ (DataW.weights_mem_each ht hd _ hmem)
    simp only [reachBytes] at h9
    omega
end DLaw
end Go.Proofs.YtllejfnmbpjhaaaGreatDoor
/- remap: what is written where, opened. -/
namespace Go.Proofs.YtllejfnmbpjhaaaGreatDoor
set_option maxRecDepth 20000
namespace DLaw
open Go.ChangeShapes Go.WideShapes Go.ChangeAt Go.RowKit Go.ChangeMaps Dk

end DLaw
end Go.Proofs.YtllejfnmbpjhaaaGreatDoor
/- remap: a disk whose bytes are bytes, and a fall, opened. -/
namespace Go.Proofs.YtllejfnmbpjhaaaGreatDoor
set_option maxRecDepth 20000
namespace DLaw
open Go.ChangeShapes Go.WideShapes Go.ChangeAt Go.RowKit Go.ChangeMaps Dk

theorem wf_u8b {z : Int} (h : (Lit.int .u8 z).wf = true) : 0 ≤ z ∧ z < 256 := by
  have h1 : IntKind.u8.min = 0 := rfl
  have h2 : IntKind.u8.max = 255 := rfl
  simp only [Lit.wf, Bool.and_eq_true, decide_eq_true_eq] at h
  omega
instance : Inhabited { s : Sec // ∀ i, i < 128 → 0 ≤ s.data i ∧ s.data i < 256 } := ⟨⟨⟨fun _ => 0, false, false⟩, fun _ _ => ⟨Int.le_refl 0, (by decide : (0 : Int) < 256)⟩⟩⟩
instance : Inhabited { s : Wr // ∀ i, i < 128 → 0 ≤ s.data i ∧ s.data i < 256 } := ⟨⟨⟨0, fun _ => 0⟩, fun _ _ => ⟨Int.le_refl 0, (by decide : (0 : Int) < 256)⟩⟩⟩
section
variable {H : Type} {enc : TypeId × Value → H} {w : World} {base : Nat} {sp : Nat → Bool} {held : Bool} {fuel : Nat} {cs : List Value} {x : DataW H × List MemPlace}
theorem blk_readB (h : DataW.trod enc Tryz.prog w base sp held fuel 36 cs = some x) : ∃ F : Nat → Int, cs = bl F ∧ ∀ i, i < 128 → 0 ≤ F i ∧ F i < 256 := by
  obtain ⟨xs, m, _, _, hl, hxl, hall⟩ := DataW.trod_array under_arr h
  rw [cells_arr] at hl
  have key : ∀ i, i < 128 → ∃ z, cs[i]? = some (.int .u8 z) ∧ 0 ≤ z ∧ z < 256 := by
    intro i hi
    have h1 := hall i hi
    rw [cells_u8, Nat.mul_one] at h1
    obtain ⟨y, hy⟩ : ∃ y, xs[i]? = some y := ⟨xs[i]'(by omega), by simp⟩
    rw [hy] at h1
    obtain ⟨z, hz, _, hw⟩ := DataW.trod_int under_u8 h1
    refine ⟨z, ?_, wf_u8b hw⟩
    have := congrArg (·[0]?) hz
    simpa [List.getElem?_take, List.getElem?_drop] using this
  obtain ⟨F, hF⟩ := Go.Deep.choose_lt key
  refine ⟨F, List.ext_getElem? fun i => ?_, fun i hi => (hF i hi).2⟩
  by_cases hi : i < 128
  · rw [(hF i hi).1]
    unfold bl
    simp [hi]
  · rw [List.getElem?_eq_none (by omega), List.getElem?_eq_none (by rw [bl_length]; omega)]
theorem sec_readB (h : DataW.trod enc Tryz.prog w base sp held fuel 68 cs = some x) : ∃ s : { s : Sec // ∀ i, i < 128 → 0 ≤ s.data i ∧ s.data i < 256 }, cs = secV s.1 := by
  obtain ⟨y0, y1, y2, n, _, hl, h0, h1, h2⟩ := Go.Deep.trod_struct3 Tryz.underlying68 h
  rw [cells_secty] at hl
  obtain ⟨F, hF, hb⟩ := blk_readB h0
  obtain ⟨b1, e1, _⟩ := DataW.trod_bool under_bool h1
  obtain ⟨b2, e2, _⟩ := DataW.trod_bool under_bool h2
  exact ⟨⟨⟨F, b1, b2⟩, hb⟩, tail2 hl (by rw [← hF, ← cells_arr]) (by rw [← e1, ← cells_bool]) (by rw [← e2, ← cells_bool])⟩
theorem wr_readB (h : DataW.trod enc Tryz.prog w base sp held fuel 70 cs = some x) : ∃ s : { s : Wr // ∀ i, i < 128 → 0 ≤ s.data i ∧ s.data i < 256 }, cs = wrV s.1 := by
  obtain ⟨y0, y1, n, _, hl, h0, h1⟩ := trod_struct2 Tryz.underlying70 h
  rw [cells_wrty] at hl
  obtain ⟨F, hF, hb⟩ := blk_readB h1
  obtain ⟨z, e0, _⟩ := DataW.trod_int under_int h0
  refine ⟨⟨⟨z, F⟩, hb⟩, ?_⟩
  rw [cells_arr] at hF
  rw [cells_int] at e0
  rw [List.take_of_length_le (by simp; omega)] at hF
  show cs = .int .i64 z :: bl F
  rw [← List.take_append_drop 1 cs, ← hF]
  rw [List.drop_zero] at e0
  rw [e0]; rfl
end
/-- any disk, opened, with its bytes -/
theorem open_disk_b {H : Type} {enc : TypeId × Value → H} {W : World} {r : Reach} {base : Nat} {v : Value} {d : DataW H} {ps : List MemPlace} {ts : List TypeId} {ds : List (DataW H)} {j : Nat}
    (hsz : (DataW.weightsEach Tryz.prog ts ds).all (· ≤ reachBytes) = true) (ht : ts[j]? = some 25) (hd : ds[j]? = some d)
    (hval : Value.okWide Tryz.prog W r base 25 v) (h0 : DataW.Trod enc Tryz.prog W 0 (fun _ => true) true 25 v d ps) (hlt : ∀ x ∈ ps, x.block < W.heap.size) :
    ∃ (sa : Option Addr) (n sc : Nat) (ca : Option Addr) (m cc : Nat) (S : Nat → Sec) (C : Nat → Wr) (f : Int) (dn : Bool), v = .agg #[.slice sa n sc, .slice ca m cc, .int .i64 f, .bool dn] ∧
      Lay W W.heap.size W.heap.size sa n sc 130 (fun i => secV (S i)) ∧ Lay W W.heap.size W.heap.size ca m cc 129 (fun i => wrV (C i)) ∧ n * 130 ≤ 140737488355328 ∧ m * 136 ≤ 140737488355328 ∧ (-9223372036854775808 ≤ f ∧ f ≤ 9223372036854775807) ∧
      (∀ i j, j < 128 → 0 ≤ (S i).data j ∧ (S i).data j < 256) ∧ ∀ i j, j < 128 → 0 ≤ (C i).data j ∧ (C i).data j < 256 := by
  obtain ⟨v0, v1, v2, v3, y0, y1, y2, y3, fu, rfl, rfl, rfl, t0, t1, t2, t3⟩ := Joins.open_agg4 Tryz.underlying25 (by kernel_rfl) cells_disk hval h0
  obtain ⟨f, hf, _, wf⟩ := DataW.trod_int under_int t2
  obtain ⟨dn, hdn, _⟩ := DataW.trod_bool under_bool t3
  obtain ⟨sa, n, sc, S, hs, ls, ns⟩ := open_rows (V := fun s : { s : Sec // ∀ i, i < 128 → 0 ≤ s.data i ∧ s.data i < 256 } => secV s.1) slice_sec cells_secty (by omega) (fun _ _ _ h => sec_readB h) t0 (fun p hp => hlt p (by simp [hp]))
  obtain ⟨ca, m, cc, C, hc, lc, nc⟩ := open_rows (V := fun s : { s : Wr // ∀ i, i < 128 → 0 ≤ s.data i ∧ s.data i < 256 } => wrV s.1) slice_wr cells_wrty (by omega) (fun _ _ _ h => wr_readB h) t1 (fun p hp => hlt p (by simp [hp]))
  simp only [List.cons.injEq, and_true] at hf hdn hs hc
  subst hf hdn hs hc
  refine ⟨sa, n, sc, ca, m, cc, fun i => (S i).1, fun i => (C i).1, f, dn, rfl, ls, lc, ?_, ?_, wf_i64 wf, fun i => (S i).2, fun i => (C i).2⟩
  · rcases ns with rfl | ⟨el, rest, he, hl⟩
    · omega
    · have hmem : (el.length + rest.length) * 130 ∈ DataW.weights Tryz.prog 25 (.agg [y0.1, y1.1, y2.1, y3.1]) := by
        rw [he]
        simp [DataW.weights, DataW.weightsEach, Tryz.underlying25, bytes_secty]
      have h9 : (el.length + rest.length) * 130 ≤ reachBytes := by simpa using List.all_eq_true.1 hsz _ (DataW.weights_mem_each ht hd _ hmem)
      simp only [reachBytes] at h9
      omega
  · rcases nc with rfl | ⟨el, rest, he, hl⟩
    · omega
    · have hmem : (el.length + rest.length) * 136 ∈ DataW.weights Tryz.prog 25 (.agg [y0.1, y1.1, y2.1, y3.1]) := by
        rw [he]
        simp [DataW.weights, DataW.weightsEach, Tryz.underlying25, bytes_wrty]
      have h9 : (el.length + rest.length) * 136 ≤ reachBytes := by simpa using List.all_eq_true.1 hsz _ (DataW.weights_mem_each ht hd _ hmem)
      simp only [reachBytes] at h9
      omega
end DLaw
end Go.Proofs.YtllejfnmbpjhaaaGreatDoor
