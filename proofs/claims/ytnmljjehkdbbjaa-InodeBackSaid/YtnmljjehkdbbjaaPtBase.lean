/- ptr: pointers as values; Hole, IsHole, sector, Right. -/
import Derived.Test.YtnmljjehkdbbjaaEq
import Derived.Test.YtnmljjehkdbbjaaJWd
import Derived.Great.BuildSlice
namespace Go.Proofs.Ytnmljjehkdbbjaa
set_option maxRecDepth 20000
namespace Pt
open Go.RowKit Dk Eqb Byt

structure Pn where
  A : Int
  B : Int
  S : Nat → Int
/-- a pointer's cells -/
def pV (p : Pn) : List Value := .int .i64 p.A :: .int .i64 p.B :: (List.range 32).map fun j => .int .u8 (p.S j)
theorem pV_length (p : Pn) : (pV p).length = 34 := by simp [pV]
theorem pV_asize (p : Pn) : (pV p).toArray.size = 34 := by rw [List.size_toArray, pV_length]
theorem pV_sum (p : Pn) {j : Nat} (h : j < 32) : (pV p)[2 + j]? = some (.int .u8 (p.S j)) := by
  unfold pV
  rw [show 2 + j = j + 1 + 1 by omega]
  simp [h]
theorem pV_one (p : Pn) : ∀ u ∈ pV p, u.oneCell' = true := by
  intro u hu
  simp only [pV, List.mem_cons, List.mem_map] at hu
  rcases hu with h | h | ⟨_, _, h⟩
  · subst h; rfl
  · subst h; rfl
  · subst h; rfl
theorem pV_all (p : Pn) : (pV p).toArray.all (·.oneCell') = true := all_oneCell_toArray (pV_one p)
def zS : Nat → Int := fun _ => 0
def pz : Pn := ⟨0, 0, zS⟩
def hole : Pn := ⟨-1, -1, zS⟩
theorem undP : Try.prog.underlying 24 = some (.struct (Try.prog.fieldsOf 24)) := by kernel_rfl
theorem sizeP (p : Pn) : (Try.prog.info? 24).map (·.size) = some (pV p).length := by rw [pV_length]; kernel_rfl
theorem sizeP' (p : Pn) : (Try.prog.info? 24).map (·.size) = some (pV p).toArray.size := by rw [pV_asize]; kernel_rfl
theorem zvP (w : World) : (zeroValue 24).run Try.prog w = .ok (.agg (pV pz).toArray) w := (zero_of_info (P := Try.prog) (t := 24) (v := .agg (pV pz).toArray) (n := 34) (by kernel_rfl)).1 w
theorem builtZ : Try.prog.built 24 [] = some (pV pz).toArray := by kernel_rfl
theorem builtH : Try.prog.built 24 [(0, .int .i64 (-1)), (1, .int .i64 (-1))] = some (pV hole).toArray := by kernel_rfl
theorem built2 (a b : Int) : Try.prog.built 24 [(0, .int .i64 a), (1, .int .i64 b)] = some (pV ⟨a, b, zS⟩).toArray := by kernel_rfl
theorem built3 (a b : Int) (S : Nat → Int) : Try.prog.built 24 [(0, .int .i64 a), (1, .int .i64 b), (2, .agg (Sha.arr 32 (Sha.vu8 S)))] = some (pV ⟨a, b, S⟩).toArray := by kernel_rfl

/-- the same pointer -/
def eqP (p q : Pn) : Bool := (p.A == q.A) && ((p.B == q.B) && eqB 32 p.S q.S)
theorem eqP_same (p : Pn) : eqP p p = true := by simp [eqP, eqB_same]
theorem eqP_iff {p q : Pn} : eqP p q = true ↔ p.A = q.A ∧ p.B = q.B ∧ ∀ i, i < 32 → p.S i = q.S i := by simp [eqP, eqB_iff]
theorem part_s (X : Array Value) (off : Nat) (f : Nat → Int) (h : X.extract off (off + 32) = Sha.arr 32 (Sha.vu8 f)) (w : World) : (part 22 X off).run Try.prog w = .ok (.agg (Sha.arr 32 (Sha.vu8 f))) w := by
  obtain ⟨i, hi⟩ : ∃ i, Try.prog.info? 22 = some i := ⟨_, rfl⟩
  have hc : Try.prog.cellsOf 22 = 32 := by kernel_rfl
  have hu : Try.prog.underlying 22 = some (.array 32 5) := by kernel_rfl
  have hs := run_sizeOf (P := Try.prog) w hi
  rw [hc] at hs
  simp [part, isAgg, run_underlying hu, h]
theorem pV_extract (p : Pn) : (pV p).toArray.extract 2 (2 + 32) = Sha.arr 32 (Sha.vu8 p.S) := by
  apply Array.ext_getElem?
  intro j
  by_cases hj : j < 32
  · rw [Sha.arr_get _ hj]
    have := pV_sum p hj
    rw [Array.getElem?_extract]
    simp only [List.size_toArray, pV_length]
    rw [if_pos (by omega)]
    simpa [Sha.vu8] using this
  · rw [Array.getElem?_eq_none (by simp [pV_length]; omega), Array.getElem?_eq_none (by rw [Sha.arr_size]; omega)]
theorem part_sum (p : Pn) (w : World) : (part 22 (pV p).toArray 2).run Try.prog w = .ok (.agg (Sha.arr 32 (Sha.vu8 p.S))) w := part_s _ 2 _ (pV_extract p) w
theorem part_i (X : Array Value) (off : Nat) (z : Int) (h : X[off]? = some (.int .i64 z)) (w : World) : (part 3 X off).run Try.prog w = .ok (.int .i64 z) w := run_part_plain w (by kernel_rfl) h
theorem eq_pt (p q : Pn) (w : World) : (Op.equalIn 10000 24 (.agg (pV p).toArray) (.agg (pV q).toArray)).run Try.prog w = .ok (eqP p q) w := by
  rw [run_equalIn_struct w 9999 24 _ _ (by kernel_rfl) (by kernel_rfl)]
  obtain ⟨f0, f1, f2, hf, t0, o0, n0, t1, o1, n1, t2, o2, n2⟩ : ∃ f0 f1 f2 : Field, (Try.prog.fieldsOf 24).toList = [f0, f1, f2] ∧ f0.type = 3 ∧ f0.offset = 0 ∧ (f0.name ≠ "_") ∧ f1.type = 3 ∧ f1.offset = 1 ∧ (f1.name ≠ "_") ∧ f2.type = 22 ∧ f2.offset = 2 ∧ (f2.name ≠ "_") := ⟨_, _, _, rfl, rfl, rfl, by decide, rfl, rfl, by decide, rfl, rfl, by decide⟩
  rw [hf]
  unfold eqP
  simp only [Op.eqFields, Sem.run_bind, Sem.run_ite, if_pos n0, if_pos n1, if_pos n2, t0, o0, t1, o1, t2, o2]
  rw [part_i (pV p).toArray 0 p.A rfl w, Result.andThen_ok, part_i (pV q).toArray 0 q.A rfl w, Result.andThen_ok, run_equalIn_int w 9998 _ .i64 .i64 _ _ (by kernel_rfl), Result.andThen_ok]
  cases h0 : p.A == q.A with
  | false => simp
  | true =>
    simp only [Bool.not_true, Bool.false_eq_true, if_false, Bool.true_and]
    rw [part_i (pV p).toArray 1 p.B rfl w, Result.andThen_ok, part_i (pV q).toArray 1 q.B rfl w, Result.andThen_ok, run_equalIn_int w 9998 _ .i64 .i64 _ _ (by kernel_rfl), Result.andThen_ok]
    cases h1 : p.B == q.B with
    | false => simp
    | true =>
      simp only [Bool.not_true, Bool.false_eq_true, if_false, Bool.true_and]
      rw [part_sum p w, Result.andThen_ok, part_sum q w, Result.andThen_ok, eqD_sum 9997, Result.andThen_ok]
      cases h2 : eqB 32 p.S q.S with
      | false => simp
      | true => simp
theorem run_eql_pt (p q : Pn) (w : World) : (binOp .eql 24 (.agg (pV p).toArray) (.agg (pV q).toArray)).run Try.prog w = .ok (.bool (eqP p q)) w := by
  rw [run_eql_struct, eq_pt]; rfl
theorem run_neq_pt (p q : Pn) (w : World) : (binOp .neq 24 (.agg (pV p).toArray) (.agg (pV q).toArray)).run Try.prog w = .ok (.bool (!eqP p q)) w := by
  rw [run_neq_struct, eq_pt]; rfl
theorem guardP : Try.prog.eqGuardType Try.prog.depth 24 = false := by kernel_rfl

/-- a pointer that is boxed -/
theorem box_pt (w : World) (p : Pn) : Below w.heap.size w (w.alloc (.cells (pV p).toArray 24)) ∧ (w.alloc (.cells (pV p).toArray 24)).heap[w.heap.size]? = some (.cells (pV p).toArray 24 (0, 0)) ∧ (w.alloc (.cells (pV p).toArray 24)).heap.size = w.heap.size + 1 :=
  ⟨(Below.refl _ _).alloc (Nat.le_refl _) _, heap_alloc_new _ _, by simp⟩
theorem row_pt {w : World} {g : Nat} {p : Pn} {t : TypeId} (h : w.heap[g]? = some (.cells (pV p).toArray t (0, 0))) : w.rangeAt g 0 (pV p) := fun j v hv => by
  rw [Nat.zero_add, cell_of_row w g j _ _ _ h]
  simpa using hv
theorem cA_pt {w : World} {g : Nat} {p : Pn} {t : TypeId} (h : w.heap[g]? = some (.cells (pV p).toArray t (0, 0))) : w.cell? ⟨g, 0, none⟩ = some (.int .i64 p.A) := by rw [cell_of_row w g 0 _ _ _ h]; rfl
theorem cB_pt {w : World} {g : Nat} {p : Pn} {t : TypeId} (h : w.heap[g]? = some (.cells (pV p).toArray t (0, 0))) : w.cell? ⟨g, 1, none⟩ = some (.int .i64 p.B) := by rw [cell_of_row w g 1 _ _ _ h]; rfl
theorem cS_pt {w : World} {g : Nat} {p : Pn} {t : TypeId} (h : w.heap[g]? = some (.cells (pV p).toArray t (0, 0))) {j : Nat} (hj : j < 32) : w.cell? ⟨g, 2 + j, none⟩ = some (.int .u8 (p.S j)) := by
  rw [cell_of_row w g (2 + j) _ _ _ h]
  simpa using pV_sum p hj
theorem results_1p {tmps : Array Value} {w : World} {B : Nat} {p : Pn} {fn : Func} {s : Nat} (hf : fn.results = #[.cell s 24]) (h2 : tmps.getD s undef = .pointer (some ⟨B, 0, none⟩))
    (kV : w.heap[B]? = some (.cells (pV p).toArray 24 (0, 0))) : (results fn tmps).run Try.prog w = .ok (.agg (pV p).toArray) w := by
  have h2' : tmps[s]?.getD undef = .pointer (some ⟨B, 0, none⟩) := by simpa using h2
  have hv := run_loadVar_row (P := Try.prog) w B 24 24 (pV p).toArray (0, 0) _ kV undP rfl (sizeP' p)
  simp [results, hf, h2', asAddr, hv]
theorem results_2p {tmps : Array Value} {w : World} {B : Nat} {p : Pn} {e : Int} {fn : Func} {s r : Nat} (hf : fn.results = #[.cell s 24, .tmp r]) (h4 : tmps.getD s undef = .pointer (some ⟨B, 0, none⟩)) (h5 : tmps.getD r undef = .int .i64 e)
    (kV : w.heap[B]? = some (.cells (pV p).toArray 24 (0, 0))) : (results fn tmps).run Try.prog w = .ok (.tuple #[.agg (pV p).toArray, .int .i64 e]) w := by
  have h4' : tmps[s]?.getD undef = .pointer (some ⟨B, 0, none⟩) := by simpa using h4
  have h5' : tmps[r]?.getD undef = .int .i64 e := by simpa using h5
  have hv := run_loadVar_row (P := Try.prog) w B 24 24 (pV p).toArray (0, 0) _ kV undP rfl (sizeP' p)
  simp [results, hf, h4', h5', asAddr, hv]

section
attribute [local go_sem] zvP
set_option maxRecDepth 100000 in
set_option maxHeartbeats 400000 in
theorem hole_any (w : World) : Calls Try.prog 28 #[] w fun e w' => e = .returned (.agg (pV hole).toArray) ∧ Below w.heap.size w w' := by
  go_enter Try.func28, Try.ntmps28
  go_wp2_with (first
    | (refine wpList_buildTo rfl 24 #[(0, .const (.int .i64 (-1))), (1, .const (.int .i64 (-1)))] rfl _ rfl (pV hole).toArray builtH ?_; simp only [Act.put, List.setIfInBounds_toArray, List.set_cons_succ, List.set_cons_zero])
    | (refine wpList_store_row rfl 24 (.tmp 0) (.tmp 1) rfl w.heap.size (pV hole).toArray rfl rfl 24 _ (heap_alloc_new w _) (sizeP' _) rfl (pV_all _) ?_; rw [World.setRow_alloc_new]; simp only [Act.put]))
  refine bodyPost_ret (results_1p rfl rfl (heap_alloc_new w _)) rfl ?_
  exact ⟨rfl, (Below.refl _ _).alloc (Nat.le_refl _) _⟩
set_option maxRecDepth 100000 in
set_option maxHeartbeats 400000 in
theorem refhole_any (w : World) : Calls Try.prog 29 #[] w fun e w' => e = .returned (.agg (pV hole).toArray) ∧ Below w.heap.size w w' := by
  go_enter Try.func29, Try.ntmps29
  go_wp2_with (first
    | (refine wpList_buildTo rfl 24 #[(0, .const (.int .i64 (-1))), (1, .const (.int .i64 (-1)))] rfl _ rfl (pV hole).toArray builtH ?_; simp only [Act.put, List.setIfInBounds_toArray, List.set_cons_succ, List.set_cons_zero])
    | (refine wpList_store_row rfl 24 (.tmp 0) (.tmp 1) rfl w.heap.size (pV hole).toArray rfl rfl 24 _ (heap_alloc_new w _) (sizeP' _) rfl (pV_all _) ?_; rw [World.setRow_alloc_new]; simp only [Act.put]))
  refine bodyPost_ret (results_1p rfl rfl (heap_alloc_new w _)) rfl ?_
  exact ⟨rfl, (Below.refl _ _).alloc (Nat.le_refl _) _⟩
end

def secB (n : Int) : Bool := decide (0 ≤ n) && decide (n < 4096)
theorem secB_iff {n : Int} : secB n = true ↔ 0 ≤ n ∧ n < 4096 := by simp [secB]
theorem sector_any (n : Int) (w : World) : Calls Try.prog 44 #[.int .i64 n] w fun e w' => e = .returned (.bool (secB n)) ∧ Below w.heap.size w w' := by
  by_cases h0 : 0 ≤ n
  · rw [show secB n = decide (n < 4096) by simp [secB, h0]]
    go_enter Try.func44, Try.ntmps44
    go_wp2_with fail
    go_ret
    exact ⟨rfl, Below.refl _ _⟩
  · rw [show secB n = false by simp [secB, h0]]
    go_enter Try.func44, Try.ntmps44
    go_wp2_with fail
    go_ret
    exact ⟨rfl, Below.refl _ _⟩
theorem refsector_any (n : Int) (w : World) : Calls Try.prog 42 #[.int .i64 n] w fun e w' => e = .returned (.bool (secB n)) ∧ Below w.heap.size w w' := by
  by_cases h0 : 0 ≤ n
  · rw [show secB n = decide (n ≤ 4095) by rw [Bool.eq_iff_iff, secB_iff]; simp; omega]
    go_enter Try.func42, Try.ntmps42
    go_wp2_with fail
    go_ret
    exact ⟨rfl, Below.refl _ _⟩
  · rw [show secB n = false by simp [secB, h0]]
    go_enter Try.func42, Try.ntmps42
    go_wp2_with fail
    go_ret
    exact ⟨rfl, Below.refl _ _⟩
def isHole (p : Pn) : Bool := eqP p hole
def rightB (p : Pn) : Bool := isHole p || (secB p.A && (p.B == -1 || (secB p.B && p.B != p.A)))

set_option maxRecDepth 100000 in
set_option maxHeartbeats 1000000 in
theorem ishole_any (p : Pn) (w : World) : Calls Try.prog 43 #[.agg (pV p).toArray] w fun e w' => e = .returned (.bool (isHole p)) ∧ Below w.heap.size w w' := by
  obtain ⟨hb0, hx0, hs0⟩ := box_pt w p
  go_enter Try.func43, Try.ntmps43
  go_wp2_with fail
  generalize w.alloc (.cells (pV p).toArray 24) = W at hb0 hx0 hs0 ⊢
  have HR := Lib.hid (fun w' (hw' : Below W.heap.size W w') => row_pt ((hw'.block w.heap.size (by omega)).trans hx0))
  clear hx0
  refine wp_region_quiet (C := fun w' => Below W.heap.size W w') (by kernel_rfl) (by kernel_rfl) ⟨rfl, rfl, rfl, Nat.le_refl _, fun _ _ => rfl⟩ ?_
  refine q_loadB 24 (.tmp 1) rfl rfl w.heap.size 0 rfl (pV p) _ (fun w' hw' => HR.out w' hw') undP rfl (sizeP p) ?_
  simp only [Act.put, List.setIfInBounds_toArray, List.set_cons_succ, List.set_cons_zero]
  refine q_call 28 _ (.agg (pV hole).toArray) rfl (fun w' => by go_simp) (fun w' hw' => (hole_any w').mono fun e w'' ⟨he, hb⟩ => ⟨he, hw'.trans (hb.mono hw'.size)⟩) ?_
  simp only [Act.put, List.setIfInBounds_toArray, List.set_cons_succ, List.set_cons_zero]
  refine q_eqlV 24 _ (.tmp 3) (.tmp 4) rfl rfl (pV p).toArray (pV hole).toArray rfl rfl (isHole p) guardP (fun w' _ => eq_pt p hole w') ?_
  simp only [Act.put, List.setIfInBounds_toArray, List.set_cons_succ, List.set_cons_zero]
  refine q_val (.bool (isHole p)) rfl (fun w' hw' => by go_simp) ?_
  simp only [Act.put, List.setIfInBounds_toArray, List.set_cons_succ, List.set_cons_zero]
  refine wpQuiet_nil ?_
  intro w' hw'
  go_wp2_with fail
  go_ret
  exact ⟨rfl, hb0.trans (hw'.mono (by omega))⟩
end Pt
end Go.Proofs.Ytnmljjehkdbbjaa
