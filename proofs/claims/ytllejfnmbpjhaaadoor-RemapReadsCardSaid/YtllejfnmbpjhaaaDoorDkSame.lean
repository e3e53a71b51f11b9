/- disk: the reference's Same and Copy; the law's twins. -/
import Derived.Test.YtllejfnmbpjhaaaDoorJDl
import Derived.Test.YtllejfnmbpjhaaaDoorJSha
import Derived.DeepKeys
namespace Go.Proofs.YtllejfnmbpjhaaaDoor
set_option maxRecDepth 20000
namespace Dk
open Go.RowKit

theorem eqItems_same {P : Program} {e : TypeId} {k : IntKind} (he : P.plainKey e = true) (hu : P.underlying e = some (.int k)) (d : Nat) (xs : Array Value) (F : Nat → Int) (w : World) :
    ∀ (is : List Nat), (∀ i ∈ is, xs[i]? = some (.int k (F i))) → (Op.eqItems (d + 1) e 1 xs xs is).run P w = .ok true w
  | [], _ => by simp [Op.eqItems]
  | i :: is, h => by
    have h1 := h i (by simp)
    simp only [Op.eqItems, Sem.run_bind, Nat.mul_one, run_part_plain w he h1, Result.andThen_ok, run_equalIn_int w d e k k (F i) (F i) hu]
    simpa using eqItems_same he hu d xs F w is fun j hj => h j (by simp [hj])
theorem eq_blD (d : Nat) (f : Nat → Int) (w : World) : (Op.equalIn (d + 2) 22 (.agg (bl f).toArray) (.agg (bl f).toArray)).run Tryd.prog w = .ok true w := by
  obtain ⟨i, hi⟩ : ∃ i, Tryd.prog.info? 5 = some i := ⟨_, rfl⟩
  rw [run_equalIn_array w (d + 1) (n := 128) (e := 5) _ _ (by kernel_rfl) hi, show Tryd.prog.cellsOf 5 = 1 by kernel_rfl]
  exact eqItems_same (k := .u8) (by kernel_rfl) (by kernel_rfl) d _ f w _ fun i hi => by
    have : (bl f)[i]? = some (.int .u8 (f i)) := bl_get f (by simpa using hi)
    simpa using this
theorem eq_bl (f : Nat → Int) (w : World) : (Op.equalIn 10000 22 (.agg (bl f).toArray) (.agg (bl f).toArray)).run Tryd.prog w = .ok true w := eq_blD 9998 f w
theorem eqFields_same {P : Program} (d : Nat) (X : Array Value) (w : World) : ∀ (fs : List Field), (∀ f ∈ fs, ∃ a, (part f.type X f.offset).run P w = .ok a w ∧ (Op.equalIn d f.type a a).run P w = .ok true w) → (Op.eqFields d X X fs).run P w = .ok true w
  | [], _ => by simp [Op.eqFields]
  | f :: fs, h => by
    obtain ⟨a, h1, h2⟩ := h f (by simp)
    have ih := eqFields_same d X w fs fun g hg => h g (by simp [hg])
    simp only [Op.eqFields, Sem.run_bind, Sem.run_ite]
    split
    · simp only [h1, Result.andThen_ok, h2]
      simpa using ih
    · exact ih
theorem part_bl (X : Array Value) (off : Nat) (f : Nat → Int) (h : X.extract off (off + 128) = (bl f).toArray) (w : World) : (part 22 X off).run Tryd.prog w = .ok (.agg (bl f).toArray) w := by
  obtain ⟨i, hi⟩ : ∃ i, Tryd.prog.info? 22 = some i := ⟨_, rfl⟩
  have hc : Tryd.prog.cellsOf 22 = 128 := by kernel_rfl
  have hu : Tryd.prog.underlying 22 = some (.array 128 5) := by kernel_rfl
  have hs := run_sizeOf (P := Tryd.prog) w hi
  rw [hc] at hs
  simp [part, isAgg, run_underlying hu, h]
theorem part_bool (X : Array Value) (off : Nat) (b : Bool) (h : X[off]? = some (.bool b)) (w : World) : (part 4 X off).run Tryd.prog w = .ok (.bool b) w := run_part_plain w (by kernel_rfl) h
theorem part_int (X : Array Value) (off : Nat) (z : Int) (h : X[off]? = some (.int .i64 z)) (w : World) : (part 3 X off).run Tryd.prog w = .ok (.int .i64 z) w := run_part_plain w (by kernel_rfl) h
theorem sec_data (s : Sec) : (secV s).toArray.extract 0 (0 + 128) = (bl s.data).toArray := by
  unfold secV
  apply Array.ext'
  simp [bl_length]
theorem wr_data (x : Wr) : (wrV x).toArray.extract 1 (1 + 128) = (bl x.data).toArray := by
  unfold wrV
  apply Array.ext'
  simp [bl_length, List.take_of_length_le]
theorem eq_sec (s : Sec) (w : World) : (Op.equalIn 10000 56 (.agg (secV s).toArray) (.agg (secV s).toArray)).run Tryd.prog w = .ok true w := by
  rw [run_equalIn_struct w 9999 56 _ _ (by kernel_rfl) (by kernel_rfl)]
  obtain ⟨f0, f1, f2, hf, t0, o0, t1, o1, t2, o2⟩ : ∃ f0 f1 f2 : Field, (Tryd.prog.fieldsOf 56).toList = [f0, f1, f2] ∧ f0.type = 22 ∧ f0.offset = 0 ∧ f1.type = 4 ∧ f1.offset = 128 ∧ f2.type = 4 ∧ f2.offset = 129 := ⟨_, _, _, rfl, rfl, rfl, rfl, rfl, rfl, rfl⟩
  rw [hf]
  refine eqFields_same 9999 _ w _ fun f hm => ?_
  simp only [List.mem_cons, List.not_mem_nil, or_false] at hm
  rcases hm with rfl | rfl | rfl
  · rw [t0, o0]
    exact ⟨_, part_bl _ 0 _ (sec_data s) w, eq_blD 9997 _ w⟩
  · rw [t1, o1]
    exact ⟨_, part_bool _ 128 s.noRead (by simpa using secV_read s) w, by rw [run_equalIn_bool w 9998 _ _ _ (by kernel_rfl)]; simp⟩
  · rw [t2, o2]
    exact ⟨_, part_bool _ 129 s.noWrite (by simpa using secV_write s) w, by rw [run_equalIn_bool w 9998 _ _ _ (by kernel_rfl)]; simp⟩
theorem eq_wr (x : Wr) (w : World) : (Op.equalIn 10000 104 (.agg (wrV x).toArray) (.agg (wrV x).toArray)).run Tryd.prog w = .ok true w := by
  rw [run_equalIn_struct w 9999 104 _ _ (by kernel_rfl) (by kernel_rfl)]
  obtain ⟨f0, f1, hf, t0, o0, t1, o1⟩ : ∃ f0 f1 : Field, (Tryd.prog.fieldsOf 104).toList = [f0, f1] ∧ f0.type = 3 ∧ f0.offset = 0 ∧ f1.type = 22 ∧ f1.offset = 1 := ⟨_, _, rfl, rfl, rfl, rfl, rfl⟩
  rw [hf]
  refine eqFields_same 9999 _ w _ fun f hm => ?_
  simp only [List.mem_cons, List.not_mem_nil, or_false] at hm
  rcases hm with rfl | rfl
  · rw [t0, o0]
    exact ⟨_, part_int _ 0 x.place rfl w, by rw [run_equalIn_int w 9998 _ .i64 .i64 _ _ (by kernel_rfl)]; simp⟩
  · rw [t1, o1]
    exact ⟨_, part_bl _ 1 _ (wr_data x) w, eq_blD 9997 _ w⟩

theorem q_neq {P : Program} {ops : Array Oper} {C : World → Prop} {a : Act} {o : Oper} {rest : List Oper} {Q : Act → Prop} (t t' : TypeId) (x y : Operand) (ho : o.op = .binOp .neq t x y t') (hw : Region.wanted o (yielded ops a.tmps) = true) (X : Array Value) (hx : a.eval x = .agg X) (hy : a.eval y = .agg X)
    (hm : P.eqGuardType P.depth t = false) (heq : ∀ w, C w → (Op.equalIn 10000 t (.agg X) (.agg X)).run P w = .ok true w) (h : wpQuiet P ops C Q rest (a.put o.dst (.bool false))) : wpQuiet P ops C Q (o :: rest) a :=
  q_val (.bool false) hw (fun w hw => by
    unfold execOp
    simp only [ho, hx, hy, Sem.run_bind, run_eqGuard_agg w _ _ _ _ _ _ hm, run_neq_struct, heq w hw, Result.andThen_ok, Bool.not_true]
    rfl) h
theorem q_load_mid2 {P : Program} {ops : Array Oper} {C : World → Prop} {a : Act} {o : Oper} {rest : List Oper} {Q : Act → Prop} (ty : TypeId) (x : Operand) (ho : o.op = .load ty x) (hw : Region.wanted o (yielded ops a.tmps) = true) (b off : Nat) (hx : a.eval x = .pointer (some ⟨b, off, none⟩)) (cs : List Value) (d : TypeDesc)
    (hc : ∀ w, C w → w.rangeAt b off cs) (hu : P.underlying ty = some d) (hd : d.isRow = true) (hi : (P.info? ty).map (·.size) = some cs.length) (h : wpQuiet P ops C Q rest (a.put o.dst (.agg cs.toArray))) : wpQuiet P ops C Q (o :: rest) a :=
  q_val (.agg cs.toArray) hw (fun w hw => by
    unfold execOp
    simp only [ho, hx, Instr.loadAt, Instr.sureAddr, Sem.run_bind, Sem.run_pure, Result.andThen_ok, run_loadVar_mid w b off ty cs d (hc w hw) hu hd hi]) h

set_option maxRecDepth 100000 in
set_option maxHeartbeats 1000000 in
theorem same_any (sa ca sa2 ca2 : Option Addr) (n sc m cc sc2 cc2 g g2 : Nat) (S : Nat → Sec) (C : Nat → Wr) (f : Int) (d : Bool) (w : World) (hn : n ≤ 140737488355328) (hm : m ≤ 140737488355328)
    (hs1 : Lay w w.heap.size g sa n sc 130 (fun i => secV (S i))) (hc1 : Lay w w.heap.size g ca m cc 129 (fun i => wrV (C i))) (hs2 : Lay w w.heap.size g2 sa2 n sc2 130 (fun i => secV (S i))) (hc2 : Lay w w.heap.size g2 ca2 m cc2 129 (fun i => wrV (C i))) :
    Calls Tryd.prog 19 #[.agg #[.slice sa n sc, .slice ca m cc, .int .i64 f, .bool d], .agg #[.slice sa2 n sc2, .slice ca2 m cc2, .int .i64 f, .bool d]] w fun e w' => e = .returned (.bool true) ∧ Below w.heap.size w w' := by
  have HS1 := Lib.hid hs1
  have HC1 := Lib.hid hc1
  have HS2 := Lib.hid hs2
  have HC2 := Lib.hid hc2
  clear hs1 hc1 hs2 hc2
  go_enter Tryd.func19, Tryd.ntmps19
  go_wp2_with fail
  generalize hW : (w.alloc (.cells #[.slice sa n sc, .slice ca m cc, .int .i64 f, .bool d] 35)).alloc (.cells #[.slice sa2 n sc2, .slice ca2 m cc2, .int .i64 f, .bool d] 35) = W
  have hb : Below w.heap.size w W := by rw [← hW]; exact ((Below.refl _ _).alloc (Nat.le_refl _) _).alloc (by simp) _
  have hs : W.heap.size = w.heap.size + 2 := by rw [← hW]; simp
  have bx : Bx W w.heap.size (.slice sa n sc) (.slice ca m cc) (.int .i64 f) (.bool d) := by
    rw [← hW]
    exact (Below.heap_alloc _ _ _ (by simp)).trans (heap_alloc_new w _)
  have bY : Bx W (w.heap.size + 1) (.slice sa2 n sc2) (.slice ca2 m cc2) (.int .i64 f) (.bool d) := by
    rw [← hW]
    have := heap_alloc_new (w.alloc (.cells #[.slice sa n sc, .slice ca m cc, .int .i64 f, .bool d] 35)) (.cells #[.slice sa2 n sc2, .slice ca2 m cc2, .int .i64 f, .bool d] 35)
    unfold Bx
    simpa using this
  clear hW
  have x0 := bx.c0
  have x1 := bx.c1
  have y0 := bY.c0
  have y1 := bY.c1
  have hlx : w.heap.size < W.heap.size := by omega
  have hly : w.heap.size + 1 < W.heap.size := by omega
  have LS1 := Lib.hid (HS1.out.below hb)
  have LC1 := Lib.hid (HC1.out.below hb)
  have LS2 := Lib.hid (HS2.out.below hb)
  have LC2 := Lib.hid (HC2.out.below hb)
  clear bx bY HS1 HC1 HS2 HC2
  go_loopw [5] (fun i wr => ∃ j : Nat, j ≤ n ∧ i = .int .i64 j ∧ Below W.heap.size W wr) (fun i _ => n - (intOf i).toNat)
  case atStart => exact ⟨0, by omega, rfl, Below.refl _ _⟩
  case round =>
    obtain ⟨j, hj, rfl, hB⟩ := hrel
    have v0 := (hB.cell (p := ⟨w.heap.size, 0, none⟩) hlx).trans x0
    by_cases hlt : j < n
    · obtain ⟨b1, o1, rfl, hb1', _, hr1⟩ := LS1.out.rows.resolve_left (by omega)
      obtain ⟨b2, o2, rfl, hb2', _, hr2⟩ := LS2.out.rows.resolve_left (by omega)
      have hb1 : b1 < W.heap.size := by omega
      have hb2 : b2 < W.heap.size := by omega
      have hj0 : (0 : Int) ≤ (j : Int) := by omega
      have hjn : (j : Int) < (n : Int) := by omega
      go_wp2_with fail
      refine wp_region_quiet (C := fun w' => Below W.heap.size W w') (by kernel_rfl) (by kernel_rfl) (hB.trans ⟨rfl, rfl, rfl, Nat.le_refl _, fun _ _ => rfl⟩) ?_
      refine q_val (.pointer (some ⟨w.heap.size, 0, none⟩)) rfl (fun w' hw' => by go_simp) ?_
      simp only [Act.put, List.setIfInBounds_toArray, List.set_cons_succ, List.set_cons_zero]
      refine q_val (.slice (some ⟨b1, o1, none⟩) n sc) rfl (fun w' hw' => by have k1 := (hw'.cell (p := ⟨w.heap.size, 0, none⟩) hlx).trans x0; go_simp) ?_
      simp only [Act.put, List.setIfInBounds_toArray, List.set_cons_succ, List.set_cons_zero]
      refine q_val (.int .i64 j) rfl (fun w' hw' => by go_simp) ?_
      simp only [Act.put, List.setIfInBounds_toArray, List.set_cons_succ, List.set_cons_zero]
      refine q_val (.pointer (some ⟨b1, o1 + j * 130, none⟩)) rfl (fun w' hw' => by go_simp) ?_
      simp only [Act.put, List.setIfInBounds_toArray, List.set_cons_succ, List.set_cons_zero]
      refine q_load_mid2 56 (.tmp 47) rfl rfl b1 (o1 + j * 130) rfl (secV (S j)) _ (fun w' hw' i v hv => (hw'.cell (p := ⟨b1, o1 + j * 130 + i, none⟩) hb1).trans (hr1 j hlt i v hv)) Tryd.underlying56 rfl (size_sec _) ?_
      simp only [Act.put, List.setIfInBounds_toArray, List.set_cons_succ, List.set_cons_zero]
      refine q_val (.pointer (some ⟨w.heap.size + 1, 0, none⟩)) rfl (fun w' hw' => by go_simp) ?_
      simp only [Act.put, List.setIfInBounds_toArray, List.set_cons_succ, List.set_cons_zero]
      refine q_val (.slice (some ⟨b2, o2, none⟩) n sc2) rfl (fun w' hw' => by have k1 := (hw'.cell (p := ⟨w.heap.size + 1, 0, none⟩) hly).trans y0; go_simp) ?_
      simp only [Act.put, List.setIfInBounds_toArray, List.set_cons_succ, List.set_cons_zero]
      refine q_val (.int .i64 j) rfl (fun w' hw' => by go_simp) ?_
      simp only [Act.put, List.setIfInBounds_toArray, List.set_cons_succ, List.set_cons_zero]
      refine q_val (.pointer (some ⟨b2, o2 + j * 130, none⟩)) rfl (fun w' hw' => by go_simp) ?_
      simp only [Act.put, List.setIfInBounds_toArray, List.set_cons_succ, List.set_cons_zero]
      refine q_load_mid2 56 (.tmp 52) rfl rfl b2 (o2 + j * 130) rfl (secV (S j)) _ (fun w' hw' i v hv => (hw'.cell (p := ⟨b2, o2 + j * 130 + i, none⟩) hb2).trans (hr2 j hlt i v hv)) Tryd.underlying56 rfl (size_sec _) ?_
      simp only [Act.put, List.setIfInBounds_toArray, List.set_cons_succ, List.set_cons_zero]
      refine q_neq 56 56 (.tmp 48) (.tmp 53) rfl rfl (secV (S j)).toArray rfl rfl (by kernel_rfl) (fun w' _ => eq_sec (S j) w') ?_
      simp only [Act.put, List.setIfInBounds_toArray, List.set_cons_succ, List.set_cons_zero]
      refine wpQuiet_nil ?_
      intro w' hw'
      go_wp2_with fail
      go_roundw
      case rel => exact ⟨j + 1, by omega, by go_num, hw'⟩
      case measure => simp [intOf]; omega
    · obtain rfl : j = n := by omega
      go_wp2_with fail
      go_loopw [6] (fun i wr => ∃ j : Nat, j ≤ m ∧ i = .int .i64 j ∧ Below W.heap.size W wr) (fun i _ => m - (intOf i).toNat)
      case atStart => exact ⟨0, by omega, rfl, hB⟩
      case round =>
        clear hB v0 hlt hj
        obtain ⟨j, hj, rfl, hB⟩ := hrel
        have v1 := (hB.cell (p := ⟨w.heap.size, 1, none⟩) hlx).trans x1
        by_cases hlt : j < m
        · obtain ⟨b1, o1, rfl, hb1', _, hr1⟩ := LC1.out.rows.resolve_left (by omega)
          obtain ⟨b2, o2, rfl, hb2', _, hr2⟩ := LC2.out.rows.resolve_left (by omega)
          have hb1 : b1 < W.heap.size := by omega
          have hb2 : b2 < W.heap.size := by omega
          have hj0 : (0 : Int) ≤ (j : Int) := by omega
          have hjn : (j : Int) < (m : Int) := by omega
          go_wp2_with fail
          refine wp_region_quiet (C := fun w' => Below W.heap.size W w') (by kernel_rfl) (by kernel_rfl) (hB.trans ⟨rfl, rfl, rfl, Nat.le_refl _, fun _ _ => rfl⟩) ?_
          refine q_val (.pointer (some ⟨w.heap.size, 1, none⟩)) rfl (fun w' hw' => by go_simp) ?_
          simp only [Act.put, List.setIfInBounds_toArray, List.set_cons_succ, List.set_cons_zero]
          refine q_val (.slice (some ⟨b1, o1, none⟩) m cc) rfl (fun w' hw' => by have k1 := (hw'.cell (p := ⟨w.heap.size, 1, none⟩) hlx).trans x1; go_simp) ?_
          simp only [Act.put, List.setIfInBounds_toArray, List.set_cons_succ, List.set_cons_zero]
          refine q_val (.int .i64 j) rfl (fun w' hw' => by go_simp) ?_
          simp only [Act.put, List.setIfInBounds_toArray, List.set_cons_succ, List.set_cons_zero]
          refine q_val (.pointer (some ⟨b1, o1 + j * 129, none⟩)) rfl (fun w' hw' => by go_simp) ?_
          simp only [Act.put, List.setIfInBounds_toArray, List.set_cons_succ, List.set_cons_zero]
          refine q_load_mid2 104 (.tmp 65) rfl rfl b1 (o1 + j * 129) rfl (wrV (C j)) _ (fun w' hw' i v hv => (hw'.cell (p := ⟨b1, o1 + j * 129 + i, none⟩) hb1).trans (hr1 j hlt i v hv)) Tryd.underlying104 rfl (size_wr _) ?_
          simp only [Act.put, List.setIfInBounds_toArray, List.set_cons_succ, List.set_cons_zero]
          refine q_val (.pointer (some ⟨w.heap.size + 1, 1, none⟩)) rfl (fun w' hw' => by go_simp) ?_
          simp only [Act.put, List.setIfInBounds_toArray, List.set_cons_succ, List.set_cons_zero]
          refine q_val (.slice (some ⟨b2, o2, none⟩) m cc2) rfl (fun w' hw' => by have k1 := (hw'.cell (p := ⟨w.heap.size + 1, 1, none⟩) hly).trans y1; go_simp) ?_
          simp only [Act.put, List.setIfInBounds_toArray, List.set_cons_succ, List.set_cons_zero]
          refine q_val (.int .i64 j) rfl (fun w' hw' => by go_simp) ?_
          simp only [Act.put, List.setIfInBounds_toArray, List.set_cons_succ, List.set_cons_zero]
          refine q_val (.pointer (some ⟨b2, o2 + j * 129, none⟩)) rfl (fun w' hw' => by go_simp) ?_
          simp only [Act.put, List.setIfInBounds_toArray, List.set_cons_succ, List.set_cons_zero]
          refine q_load_mid2 104 (.tmp 70) rfl rfl b2 (o2 + j * 129) rfl (wrV (C j)) _ (fun w' hw' i v hv => (hw'.cell (p := ⟨b2, o2 + j * 129 + i, none⟩) hb2).trans (hr2 j hlt i v hv)) Tryd.underlying104 rfl (size_wr _) ?_
          simp only [Act.put, List.setIfInBounds_toArray, List.set_cons_succ, List.set_cons_zero]
          refine q_neq 104 104 (.tmp 66) (.tmp 71) rfl rfl (wrV (C j)).toArray rfl rfl (by kernel_rfl) (fun w' _ => eq_wr (C j) w') ?_
          simp only [Act.put, List.setIfInBounds_toArray, List.set_cons_succ, List.set_cons_zero]
          refine wpQuiet_nil ?_
          intro w' hw'
          go_wp2_with fail
          go_roundw
          case rel => exact ⟨j + 1, by omega, by go_num, hw'⟩
          case measure => simp [intOf]; omega
        · obtain rfl : j = m := by omega
          go_wp2_with fail
          go_ret
          exact ⟨rfl, hb.trans (hB.mono (by omega))⟩

end Dk
end Go.Proofs.YtllejfnmbpjhaaaDoor
