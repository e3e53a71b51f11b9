/- steps: the fold of Step over the blocks of a slice. -/
import Derived.Test.YtllejfnmbpjhaaaDoorJSha
import Derived.Test.YtllejfnmbpjhaaaDoorBytes
import Derived.Deep.MidRow
namespace Go.Proofs.YtllejfnmbpjhaaaDoor
set_option maxRecDepth 20000
namespace Sha
open Go.RowKit Go.Sort

/-- block k of the bytes xs -/
def blk (xs : List Int) (k : Nat) : Nat → Int := fun i => xs.getD (64 * k + i) 0
/-- the numbers behind k blocks -/
def stL (K : Nat → Int) (xs : List Int) (s : S8) : Nat → S8
  | 0 => s
  | k + 1 => stepS K (stL K xs s k) (blk xs k)

theorem blk_byte {xs : List Int} (h : Byte xs) (k j : Nat) : 0 ≤ blk xs k j ∧ blk xs k j < 256 := by
  unfold blk
  rw [List.getD_eq_getElem?_getD]
  cases hx : xs[64 * k + j]? with
  | none => simp
  | some v =>
    have := h v (List.mem_of_getElem? hx)
    simpa using this

theorem quiet_load_mid {P : Program} {C : World → Prop} {o : Oper} {a : Act} {K : Act → Prop} (ty : TypeId) (x : Operand) (ho : o.op = .load ty x) (b off : Nat) (hx : a.eval x = .pointer (some ⟨b, off, none⟩)) (cs : Array Value) (d : TypeDesc)
    (hg : ∀ w, C w → w.rangeAt b off cs.toList) (hu : P.underlying ty = some d) (hd : d.isRow = true) (hi : (P.info? ty).map (·.size) = some cs.size) (h : K (a.put o.dst (.agg cs))) : o.quiet P a C K := by
  refine ⟨.agg cs, fun w hw => ?_, h⟩
  unfold Oper.quietAt execOp
  have e := run_loadAt_mid (P := P) w b off ty cs.toList d (hg w hw) hu hd (by rw [Array.length_toList]; exact hi)
  simp only [Array.toArray_toList] at e
  simp only [ho, hx, e, Sem.run_bind, Sem.run_pure, Result.andThen_ok]
  exact ⟨rfl, rfl⟩

/-- the world of steps behind k blocks -/
structure StepsW (K : Nat → Int) (xs : List Int) (s : S8) (w : World) (k : Nat) (wr : World) : Prop where
  box : wr.heap[w.heap.size]? = some (.cells (arr 8 (vu32 (stL K xs s k).at)) 132 (0, 0))
  res : wr.heap[w.heap.size + 1]? = some (.cells (arr 8 (vu32 fun _ => 0)) 132 (0, 0))
  below : Below w.heap.size w wr
  lt : w.heap.size + 1 < wr.heap.size

theorem StepsW.next {K : Nat → Int} {xs : List Int} {s : S8} {w : World} {k : Nat} {wr wz : World} (h : StepsW K xs s w k wr) (b : Below wr.heap.size wr wz) : StepsW K xs s w (k + 1) (wz.setRow w.heap.size (arr 8 (vu32 (stepS K (stL K xs s k) (blk xs k)).at))) := by
  have hl := h.lt
  have hs := b.size
  have hb := h.below.size
  refine ⟨setRow_heap wz _ _ _ _ _ ((b.block _ (by omega)).trans h.box), ?_, below_setRow (h.below.trans (b.mono hb)) (Nat.le_refl _) _, by rw [size_setRow]; omega⟩
  rw [setRow_other _ _ _ _ (by omega)]
  exact (b.block _ (by omega)).trans h.res
theorem run_array64 (a : Addr) (l c : Nat) (hl : 64 ≤ l) (W : World) : (Instr.arrayAt 134 (.slice (some a) l c)).run Tryd.prog W = .ok (.pointer (some a)) W := by
  have hu : Tryd.prog.underlying 134 = some (.array 64 5) := by kernel_rfl
  unfold Instr.arrayAt
  rw [Sem.run_bind, run_underlying hu]
  have h : ¬ l < 64 := by omega
  simp [Result.andThen, h]
theorem StepsW.start (K : Nat → Int) (xs : List Int) (s : S8) (w : World) : StepsW K xs s w 0 ((w.alloc (.cells (arr 8 (vu32 s.at)) 132)).alloc (.cells (arr 8 (vu32 fun _ => 0)) 132)) := by
  refine ⟨?_, ?_, ((Below.refl _ _).alloc (Nat.le_refl _) _).alloc (by simp) _, by simp⟩
  · rw [heap_alloc_old _ _ (by simp)]; exact heap_alloc_new _ _
  · have e : w.heap.size + 1 = (w.alloc (.cells (arr 8 (vu32 s.at)) 132)).heap.size := by simp
    rw [e]; exact heap_alloc_new _ _

set_option maxHeartbeats 1000000 in
theorem steps_any (s : S8) (n m : Nat) (ao : Option Addr) (cap : Nat) (xs : List Int) (w : World) (K : Nat → Int) (hn : n = xs.length) (hm : n = 64 * m) (hl : Lies w w.heap.size ao cap xs) (hx : Byte xs) (hlen : n ≤ 140737488355328)
    (hK : ∀ k, k < 64 → w.cell? ⟨0, k, none⟩ = some (.int .u32 (K k))) (hz : 0 < w.heap.size) :
    Calls Tryd.prog 107 #[.agg (arr 8 (vu32 s.at)), .slice ao n cap] w fun e w' => e = .returned (.agg (arr 8 (vu32 (stL K xs s m).at))) ∧ Below w.heap.size w w' := by
  have HX := Lib.hid hx
  have HK := Lib.hid hK
  have HL := Lib.hid hl
  have HN := Lib.hid hn
  have HM := Lib.hid hm
  obtain ⟨F, hF0⟩ : ∃ F, F = stL K xs s m := ⟨_, rfl⟩
  rw [← hF0]
  have HF := Lib.hid hF0
  have hq : (n : Int) / 64 = (m : Int) := by omega
  clear hx hK hl hn hm hF0
  go_enter Tryd.func107, Tryd.ntmps107
  go_wp2_with fail
  simp only [zeros8]
  have H0 := StepsW.start K xs s w
  generalize (w.alloc (.cells (arr 8 (vu32 s.at)) 132)).alloc (.cells (arr 8 (vu32 fun _ => 0)) 132) = W at H0 ⊢
  have HS := Lib.hid H0
  clear H0
  go_loopw [9] (fun i wr => ∃ k : Nat, k ≤ m ∧ i = .int .i64 k ∧ StepsW K xs s w k wr) (fun i _ => m - (intOf i).toNat)
  case atStart => exact ⟨0, by omega, rfl, HS.out⟩
  case round =>
    clear HS
    obtain ⟨k, hk, rfl, hA⟩ := hrel
    by_cases hlt : k < m
    · obtain ⟨b, off, rfl, hb, hc⟩ := HL.out.cells (by intro e; have h1 := HN.out; have h2 := HM.out; rw [e] at h1; simp at h1; omega)
      have hroom := HL.out.room
      have hnn := HN.out
      have hmm := HM.out
      have r1 : 64 * (k : Int) ≤ (n : Int) := by omega
      have r2 : 64 * k ≤ n := by omega
      have r3 : ¬ cap = 64 * k := by omega
      have r4 : 64 ≤ n - 64 * k := by omega
      have r5 : n ≤ cap := by omega
      have r6 : (64 * (k : Int)).toNat = 64 * k := by omega
      have HR := Lib.hid r6
      have harr := run_array64 ⟨b, off + 64 * k, none⟩ (n - 64 * k) (cap - 64 * k) r4
      clear hnn hmm hroom r6
      have hlow := hA.lt
      have hbb := hA.below
      have hB : ∀ p : Regrown, (grow (redrawn wr p.d) p.os).heap[w.heap.size]? = some (.cells (arr 8 (vu32 (stL K xs s k).at)) 132 (0, 0)) := fun p => ((below_regrown wr p.d p.os).block _ (by omega)).trans hA.box
      have hR : ∀ p : Regrown, (grow (redrawn wr p.d) p.os).rangeAt b (off + 64 * k) (arr 64 (vu8 (blk xs k))).toList := fun p => by
        intro j v hv
        have hj : j < 64 := by
          have := (List.getElem?_eq_some_iff.1 hv).1
          simpa [arr] using this
        rw [(below_regrown wr p.d p.os).cell (show b < wr.heap.size by omega), hbb.cell (show b < w.heap.size from hb)]
        have h1 := hc (64 * k + j) (by have := HN.out; omega)
        rw [Nat.add_assoc, h1, ← hv, Array.getElem?_toList, arr_get _ hj]
        rfl
      have hKW : ∀ (d : Nat) (os : Array Obj), ∀ i, i < 64 → (grow (redrawn wr d) os).cell? ⟨0, i, none⟩ = some (.int .u32 (K i)) := fun d os i hi => by
        rw [(below_regrown wr d os).cell (show 0 < wr.heap.size by omega), hbb.cell (show 0 < w.heap.size from hz)]; exact HK.out i hi
      have hsz : ∀ (d : Nat) (os : Array Obj), 0 < (grow (redrawn wr d) os).heap.size := fun d os => by have := (below_regrown wr d os).size; omega
      have HB := Lib.hid hB
      have HRR := Lib.hid hR
      have HKW := Lib.hid hKW
      have HSZ := Lib.hid hsz
      have HA := Lib.hid hA
      clear hB hR hKW hsz hc hA hbb
      go_wp2_with fail
      refine QuietTail.region (n := 8) (C := fun w' => ∃ p : Regrown, w' = grow (redrawn wr p.d) p.os) (by kernel_rfl) (by decide) (by kernel_rfl) (by kernel_rfl) ⟨⟨wr.drawn + 1, #[]⟩, by rw [grow_empty]; rfl⟩ ?_
      simp only [List.take_succ_cons, List.take_zero, List.drop_succ_cons, List.drop_zero]
      go_big_quiet_want
      refine quiet_load_row 132 (.tmp 2) rfl w.heap.size rfl 132 (arr 8 (vu32 (stL K xs s k).at)) (0, 0) (.array 8 131) (by rintro _ ⟨p, rfl⟩; exact HB.out p) (by kernel_rfl) rfl info8 ?_
      simp only [Act.put, List.setIfInBounds_toArray, List.set_cons_succ, List.set_cons_zero]
      go_big_quiet_on
      iterate 5 (go_big_quiet_step (fail))
      go_big_quiet_want
      refine quiet_load_mid 134 (.tmp 17) rfl b (off + 64 * k) rfl (arr 64 (vu8 (blk xs k))) (.array 64 5) (by rintro _ ⟨p, rfl⟩; exact HRR.out p) (by kernel_rfl) rfl infob ?_
      simp only [Act.put, List.setIfInBounds_toArray, List.set_cons_succ, List.set_cons_zero]
      go_big_quiet_on
      go_big_quiet_step ((go_at_call 123; exact Calls.regrown_of (step_any (stL K xs s k) (blk xs k) _ K (fun j _ => blk_byte HX.out k j) (HKW.out _ _) (HSZ.out _ _))))
      refine wpQuiet_nil ?_
      rintro _ ⟨q, rfl⟩
      have hbx := HB.out q
      refine wpList_store_row rfl 132 (.tmp 2) (.tmp 19) rfl w.heap.size (arr 8 (vu32 (stepS K (stL K xs s k) (blk xs k)).at)) rfl rfl 132 _ hbx info8 (by rw [arr_size, arr_size]) (arr_one _ _) ?_
      simp only [Act.put]
      have hN := HA.out.next (below_regrown wr q.d q.os)
      generalize (grow (redrawn wr q.d) q.os).setRow w.heap.size (arr 8 (vu32 (stepS K (stL K xs s k) (blk xs k)).at)) = wn at hN ⊢
      clear hbx HB HRR HKW HSZ HA harr r1 r2 r3 r4 r5
      have HNN := Lib.hid hN
      clear hN
      go_wp2_with fail
      go_roundw
      case rel => exact ⟨k + 1, by omega, by go_num, HNN.out⟩
      case measure => simp [intOf]; omega
    · obtain rfl : k = m := by omega
      have hg := hA.box
      have h2 := hA.res
      have hb := hA.below
      rw [← HF.out] at hg
      have hres : (wr.setRow (w.heap.size + 1) (arr 8 (vu32 F.at))).heap[w.heap.size + 1]? = some (.cells (arr 8 (vu32 F.at)) 132 (0, 0)) := setRow_heap wr _ _ _ _ _ h2
      have hb2 := below_setRow hb (g := w.heap.size + 1) (by omega) (arr 8 (vu32 F.at))
      clear hA
      repeat (first
        | (refine wpList_load_row rfl 132 (.tmp 2) rfl w.heap.size rfl 132 (arr 8 (vu32 F.at)) (0, 0) (.array 8 131) hg (by kernel_rfl) rfl info8 ?_; simp only [Act.put, List.setIfInBounds_toArray, List.set_cons_succ, List.set_cons_zero])
        | (refine wpList_store_row rfl 132 (.tmp 4) (.tmp 21) rfl (w.heap.size + 1) (arr 8 (vu32 F.at)) rfl rfl 132 _ h2 info8 (by rw [arr_size, arr_size]) (arr_one _ _) ?_; simp only [Act.put])
        | go_step)
      refine bodyPost_ret (results_cell_row rfl _ _ (w.heap.size + 1) 132 (arr 8 (vu32 F.at)) (0, 0) (.array 8 131) rfl hres (by kernel_rfl) rfl info8) rfl ⟨rfl, hb2⟩

end Sha
end Go.Proofs.YtllejfnmbpjhaaaDoor
