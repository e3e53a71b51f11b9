/- inode: the places of all parts: a map of five entries; a range over it, in whatever order. -/
import Derived.Test.YtnmljjehkdbbjaaInB
import Derived.Maps.RangeWalk
namespace Go.Proofs.Ytnmljjehkdbbjaa
set_option maxRecDepth 20000
namespace In
open Go.RowKit Dk Eqb Byt Pt
open Go.ChangeMaps (setBlock)

def aI : Nat → Int
  | 0 => 0 | 1 => 1 | 2 => 2 | 3 => 4 | _ => 8
def kI : Nat → Int
  | 0 => 1 | 1 => 1 | 2 => 1 | 3 => 4 | _ => 40
def plV (i : Nat) : Array Value := #[.int .i64 (aI i), .int .i64 (kI i)]
def ent (i : Nat) : MapEntry := ⟨.int .i64 i, .agg (plV i), i⟩
/-- the first j entries -/
def ES (j : Nat) : Array MapEntry := ((List.range j).map ent).toArray
theorem ES_succ (j : Nat) : ES (j + 1) = (ES j).push (ent j) := by
  unfold ES
  rw [List.range_succ, List.map_append]
  simp
theorem map_t : Try.prog.underlying 59 = some (.map 3 62) := by kernel_rfl
theorem int_t : Try.prog.underlying 3 = some (.int .i64) := by kernel_rfl
theorem builtP (a k : Int) : Try.prog.built 62 [(0, .int .i64 a), (1, .int .i64 k)] = some #[.int .i64 a, .int .i64 k] := by kernel_rfl
theorem ES_find (j : Nat) (hj : j < 5) : Instr.findNow (.int .i64) (.int .i64 (j : Int)) (ES j).toList 0 = some none := by
  match j, hj with
  | 0, _ => rfl
  | 1, _ => rfl
  | 2, _ => rfl
  | 3, _ => rfl
  | 4, _ => rfl
  | k + 5, h => omega
theorem setBlock_alloc (w : World) (o o' : Obj) : setBlock (w.alloc o) w.heap.size o' = w.alloc o' := by
  unfold setBlock World.alloc
  congr 1
  apply Array.toList_inj.1
  simp
theorem run_ins (w : World) (j : Nat) (hj : j < 5) (X : Value) (hX : X = .agg (plV j)) : (Instr.mapUpdate 59 (.map (some w.heap.size)) (.int .i64 (j : Int)) X).run Try.prog (w.alloc (.map (ES j) j)) = .ok () (w.alloc (.map (ES (j + 1)) (j + 1))) := by
  have hb : (w.alloc (.map (ES j) j)).heap[w.heap.size]? = some (.map (ES j) j) := heap_alloc_new _ _
  have hk : MapKept.IsKey (.int .i64) (.int .i64 (j : Int)) := by simp [MapKept.IsKey]
  subst hX
  simp only [Instr.mapUpdate, Sem.run_bind, run_underlying map_t, Result.andThen_ok, MapKept.run_getObj_map hb, MapKept.run_checkKey int_t hk false 9999, MapKept.run_findKey int_t (ES_find j hj)]
  have hs : (setObj w.heap.size (.map ((ES j).push ⟨.int .i64 j, .agg (plV j), j⟩) (j + 1))).run Try.prog (w.alloc (.map (ES j) j)) = .ok () (setBlock (w.alloc (.map (ES j) j)) w.heap.size (.map ((ES j).push ⟨.int .i64 j, .agg (plV j), j⟩) (j + 1))) := by
    unfold setObj
    simp only [Sem.run, hb]
    rfl
  rw [hs, setBlock_alloc, ES_succ]
  rfl
theorem wpList_ins {w : World} {ops : Array Oper} {rest : List Oper} {o : Oper} {a : Act} {Q : Exit → Act → World → Prop} (hgd : o.guard = none) (m x v : Operand) (hop : o.op = Op.insert 59 m x v) (j : Nat) (hj : j < 5)
    (hm : a.eval m = .map (some w.heap.size)) (hx : a.eval x = .int .i64 (j : Int)) (hv : a.eval v = .agg (plV j))
    (hK : wpList Try.prog ops Q rest (a.put o.dst undef) (w.alloc (.map (ES (j + 1)) (j + 1)))) : wpList Try.prog ops Q (o :: rest) a (w.alloc (.map (ES j) j)) :=
  wpList_plain hgd fun _ hK' => by
    have hrun := run_ins w j hj _ rfl
    unfold Oper.wp
    simp [execOp, hop, hm, hx, hv, hrun, Result.andThen]
    exact hK' _ _ hK

set_option maxHeartbeats 1000000 in
theorem places_any (w : World) : Calls Try.prog 30 #[] w fun e w' => e = .returned (.map (some w.heap.size)) ∧ w' = w.alloc (.map (ES 5) 5) := by
  have hmm := @run_makeMap Try.prog
  have e0 : (#[] : Array MapEntry) = ES 0 := rfl
  go_enter Try.func30, Try.ntmps30
  go_wp2_with (first
    | (rw [e0])
    | (refine wpList_ins rfl _ _ _ rfl 0 (by omega) rfl rfl rfl ?_; simp only [Act.put])
    | (refine wpList_ins rfl _ _ _ rfl 1 (by omega) rfl rfl rfl ?_; simp only [Act.put])
    | (refine wpList_ins rfl _ _ _ rfl 2 (by omega) rfl rfl rfl ?_; simp only [Act.put])
    | (refine wpList_ins rfl _ _ _ rfl 3 (by omega) rfl rfl rfl ?_; simp only [Act.put])
    | (refine wpList_ins rfl _ _ _ rfl 4 (by omega) rfl rfl rfl ?_; simp only [Act.put]))
  go_ret
  exact ⟨rfl, rfl⟩

/-- a range over them, under way: those in seen have come -/
structure Rg (w : World) (bm r : Nat) (seen : Array Nat) : Prop where
  map : w.heap[bm]? = some (.map (ES 5) 5)
  it : ∃ c0, 5 ≤ c0 ∧ w.heap[r]? = some (.mapIter (some bm) 5 seen c0)
theorem Rg.lt {w : World} {bm r : Nat} {seen : Array Nat} (h : Rg w bm r seen) : bm < w.heap.size ∧ r < w.heap.size := by
  obtain ⟨h1, c0, _, h2⟩ := h
  exact ⟨(Array.getElem?_eq_some_iff.1 h1).1, (Array.getElem?_eq_some_iff.1 h2).1⟩
theorem Rg.keep {w w' : World} {bm r : Nat} {seen : Array Nat} (h : Rg w bm r seen) (h1 : w'.heap[bm]? = w.heap[bm]?) (h2 : w'.heap[r]? = w.heap[r]?) : Rg w' bm r seen := by
  obtain ⟨h3, c0, h4, h5⟩ := h
  exact ⟨h1.trans h3, c0, h4, h2.trans h5⟩
theorem ES_mem {e : MapEntry} (h : e ∈ (ES 5).toList) : ∃ i, i < 5 ∧ e = ent i := by
  unfold ES at h
  simp only [List.mem_map, List.mem_range] at h
  obtain ⟨i, hi, rfl⟩ := h
  exact ⟨i, hi, rfl⟩
theorem ES_has {i : Nat} (h : i < 5) : ent i ∈ (ES 5).toList := by
  unfold ES
  simp only [List.mem_map, List.mem_range]
  exact ⟨i, h, rfl⟩
theorem ES_hold : ∀ x ∈ (ES 5).toList, x.born < 5 := fun x hx => by
  obtain ⟨i, hi, rfl⟩ := ES_mem hx
  exact hi
theorem ES_nodup : ((ES 5).toList.map (·.born)).Nodup := by decide
/-- how many are still to come -/
def leftI (seen : Array Nat) : Nat := (leftOf (ES 5) seen).size
theorem wpList_range5 {w : World} {ops : Array Oper} {rest : List Oper} {o : Oper} {a : Act} {Q : Exit → Act → World → Prop} (hgd : o.guard = none) (m : Operand) (hop : o.op = Op.range 59 m) (bm : Nat)
    (hm : a.eval m = .map (some bm)) (hb : w.heap[bm]? = some (.map (ES 5) 5))
    (hK : wpList Try.prog ops Q rest (a.put o.dst (.pointer (some ⟨w.heap.size, 0, none⟩))) (w.alloc (.mapIter (some bm) 5 #[] 5))) : wpList Try.prog ops Q (o :: rest) a w :=
  wpList_plain hgd fun _ hK' => by
    have hrun := run_range_map (P := Try.prog) w 59 3 62 bm (ES 5) 5 map_t hb
    unfold Oper.wp
    simp [execOp, hop, hm, hrun, Result.andThen]
    exact hK' _ _ hK
theorem rg_start {w : World} {bm : Nat} (hb : w.heap[bm]? = some (.map (ES 5) 5)) : Rg (w.alloc (.mapIter (some bm) 5 #[] 5)) bm w.heap.size #[] :=
  ⟨(heap_alloc_old w _ (Array.getElem?_eq_some_iff.1 hb).1).trans hb, 5, Nat.le_refl _, heap_alloc_new _ _⟩
theorem wpList_next5 {w : World} {ops : Array Oper} {rest : List Oper} {o : Oper} {a : Act} {Q : Exit → Act → World → Prop} (hgd : o.guard = none) (it : Operand) (hop : o.op = Op.next it false) (bm r : Nat) (seen : Array Nat)
    (hit : a.eval it = .pointer (some ⟨r, 0, none⟩)) (h : Rg w bm r seen) (hne : r ≠ bm)
    (hDone : (∀ i, i < 5 → seen.contains i = true) → wpList Try.prog ops Q rest (a.put o.dst (.tuple #[.bool false])) w)
    (hMore : ∀ i w', i < 5 → seen.contains i = false → Rg w' bm r (seen.push i) → leftI (seen.push i) < leftI seen → w.grownBy w' (some r) → w'.heap.size = w.heap.size → (Instr.entry (.pointer (some ⟨r, 0, none⟩))).run Try.prog w' = .ok (.tuple #[.int .i64 (i : Int), .agg (plV i)]) w' →
      wpList Try.prog ops Q rest (a.put o.dst (.tuple #[.bool true, .int .i64 (i : Int), .agg (plV i)])) w') : wpList Try.prog ops Q (o :: rest) a w :=
  wpList_plain hgd fun _ hK' => by
    obtain ⟨hmap, c0, hc0, hr⟩ := h
    unfold Oper.wp
    rcases run_next_at (P := Try.prog) w o.type r bm 5 c0 seen (ES 5) 5 hr hmap ES_hold hc0 with ⟨h0, hrun⟩ | ⟨e, he, w1, hal, hrun⟩
    · simp [execOp, hop, hit, hrun, Result.andThen]
      exact hK' _ _ (hDone fun i hi => all_seen (ES 5) seen h0 _ (ES_has hi))
    · obtain ⟨hem, hes⟩ := mem_left he
      have hsh := left_shrinks (ES 5) seen e he
      obtain ⟨i, hi, rfl⟩ := ES_mem hem
      have hr1 : w1.heap[r]? = some (.mapIter (some bm) 5 seen c0) := by rcases hal with rfl | rfl <;> exact hr
      have hb1 : w1.heap[bm]? = some (.map (ES 5) 5) := by rcases hal with rfl | rfl <;> exact hmap
      have hset := MapKept.heap_set (o' := .mapIter (some bm) 5 (seen.push i) 5) hr1
      have hb2 : (setBlock w1 r (.mapIter (some bm) 5 (seen.push i) 5)).heap[bm]? = some (.map (ES 5) 5) := (hset.2 bm (fun e1 => hne e1.symm)).trans hb1
      simp [execOp, hop, hit, hrun, Result.andThen]
      refine hK' _ _ (hMore i _ hi hes ⟨hb2, 5, Nat.le_refl _, hset.1⟩ hsh ?_ ?_ (run_entry_at _ r bm 5 seen (ES 5) 5 (ent i) hset.1 hb2 hem ES_nodup))
      · rcases hal with rfl | rfl <;> exact ⟨rfl, rfl, rfl, by simp [setBlock], fun i _ hi => hset.2 i (fun e1 => hi (by rw [e1]))⟩
      · rcases hal with rfl | rfl <;> simp [setBlock]
end In
end Go.Proofs.Ytnmljjehkdbbjaa
