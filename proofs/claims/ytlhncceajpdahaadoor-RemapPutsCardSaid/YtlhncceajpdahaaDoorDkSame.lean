/- disk: the reference's Same and Copy; the law's twins. -/
import Derived.Test.YtlhncceajpdahaaDoorJDl
import Derived.Test.YtlhncceajpdahaaDoorJSha
import Derived.DeepKeys
namespace Go.Proofs.YtlhncceajpdahaaDoor
set_option maxRecDepth 20000
namespace Dk
open Go.RowKit

theorem eqItems_same {P : Program} {e : TypeId} {k : IntKind} (he : P.plainKey e = true) (hu : P.underlying e = some (.int k)) (d : Nat) (xs : Array Value) (F : Nat → Int) (w : World) :
    ∀ (is : List Nat), (∀ i ∈ is, xs[i]? = some (.int k (F i))) → (Op.eqItems (d + 1) e 1 xs xs is).run P w = .ok true w
  | [], _ => by simp [Op.eqItems]
  | i :: is, h => by
    have h1 := h i (by simp)
    simp only [Op.eqItems, Sem.run_bind, Nat.mul_one, run_part_plain w he h1, Result.andThen_ok, run_equalIn_int w d e k k (F i) (F i) hu]
    simpa using eqItems_same he hu d xs F w is fun j hj => h j (by simp [hj])
theorem eq_blD (d : Nat) (f : Nat → Int) (w : World) : (Op.equalIn (d + 2) 27 (.agg (bl f).toArray) (.agg (bl f).toArray)).run Tryd.prog w = .ok true w := by
  obtain ⟨i, hi⟩ : ∃ i, Tryd.prog.info? 5 = some i := ⟨_, rfl⟩
  rw [run_equalIn_array w (d + 1) (n := 128) (e := 5) _ _ (by kernel_rfl) hi, show Tryd.prog.cellsOf 5 = 1 by kernel_rfl]
  exact eqItems_same (k := .u8) (by kernel_rfl) (by kernel_rfl) d _ f w _ fun i hi => by
    have : (bl f)[i]? = some (.int .u8 (f i)) := bl_get f (by simpa using hi)
    simpa using this
theorem eq_bl (f : Nat → Int) (w : World) : (Op.equalIn 10000 27 (.agg (bl f).toArray) (.agg (bl f).toArray)).run Tryd.prog w = .ok true w := eq_blD 9998 f w
theorem eqFields_same {P : Program} (d : Nat) (X : Array Value) (w : World) : ∀ (fs : List Field), (∀ f ∈ fs, ∃ a, (part f.type X f.offset).run P w = .ok a w ∧ (Op.equalIn d f.type a a).run P w = .ok true w) → (Op.eqFields d X X fs).run P w = .ok true w
  | [], _ => by simp [Op.eqFields]
  | f :: fs, h => by
    obtain ⟨a, h1, h2⟩ := h f (by simp)
    have ih := eqFields_same d X w fs fun g hg => h g (by simp [hg])
    simp only [Op.eqFields, Sem.run_bind, Sem.run_ite]
    split
    · simp only [h1, Result.andThen_ok, h2]
      simpa using ih
    · exact ih
theorem part_bl (X : Array Value) (off : Nat) (f : Nat → Int) (h : X.extract off (off + 128) = (bl f).toArray) (w : World) : (part 27 X off).run Tryd.prog w = .ok (.agg (bl f).toArray) w := by
  obtain ⟨i, hi⟩ : ∃ i, Tryd.prog.info? 27 = some i := ⟨_, rfl⟩
  have hc : Tryd.prog.cellsOf 27 = 128 := by kernel_rfl
  have hu : Tryd.prog.underlying 27 = some (.array 128 5) := by kernel_rfl
  have hs := run_sizeOf (P := Tryd.prog) w hi
  rw [hc] at hs
  simp [part, isAgg, run_underlying hu, h]
theorem part_bool (X : Array Value) (off : Nat) (b : Bool) (h : X[off]? = some (.bool b)) (w : World) : (part 4 X off).run Tryd.prog w = .ok (.bool b) w := run_part_plain w (by kernel_rfl) h
theorem part_int (X : Array Value) (off : Nat) (z : Int) (h : X[off]? = some (.int .i64 z)) (w : World) : (part 3 X off).run Tryd.prog w = .ok (.int .i64 z) w := run_part_plain w (by kernel_rfl) h
theorem sec_data (s : Sec) : (secV s).toArray.extract 0 (0 + 128) = (bl s.data).toArray := by
  unfold secV
  apply Array.ext'
  simp [bl_length]
theorem wr_data (x : Wr) : (wrV x).toArray.extract 1 (1 + 128) = (bl x.data).toArray := by
  unfold wrV
  apply Array.ext'
  simp [bl_length, List.take_of_length_le]
theorem eq_sec (s : Sec) (w : World) : (Op.equalIn 10000 59 (.agg (secV s).toArray) (.agg (secV s).toArray)).run Tryd.prog w = .ok true w := by
  rw [run_equalIn_struct w 9999 59 _ _ (by kernel_rfl) (by kernel_rfl)]
  obtain ⟨f0, f1, f2, hf, t0, o0, t1, o1, t2, o2⟩ : ∃ f0 f1 f2 : Field, (Tryd.prog.fieldsOf 59).toList = [f0, f1, f2] ∧ f0.type = 27 ∧ f0.offset = 0 ∧ f1.type = 4 ∧ f1.offset = 128 ∧ f2.type = 4 ∧ f2.offset = 129 := ⟨_, _, _, rfl, rfl, rfl, rfl, rfl, rfl, rfl⟩
  rw [hf]
  refine eqFields_same 9999 _ w _ fun f hm => ?_
  simp only [List.mem_cons, List.not_mem_nil, or_false] at hm
  rcases hm with rfl | rfl | rfl
  · rw [t0, o0]
    exact ⟨_, part_bl _ 0 _ (sec_data s) w, eq_blD 9997 _ w⟩
  · rw [t1, o1]
    exact ⟨_, part_bool _ 128 s.noRead (by simpa using secV_read s) w, by rw [run_equalIn_bool w 9998 _ _ _ (by kernel_rfl)]; simp⟩
  · rw [t2, o2]
    exact ⟨_, part_bool _ 129 s.noWrite (by simpa using secV_write s) w, by rw [run_equalIn_bool w 9998 _ _ _ (by kernel_rfl)]; simp⟩
theorem eq_wr (x : Wr) (w : World) : (Op.equalIn 10000 82 (.agg (wrV x).toArray) (.agg (wrV x).toArray)).run Tryd.prog w = .ok true w := by
  rw [run_equalIn_struct w 9999 82 _ _ (by kernel_rfl) (by kernel_rfl)]
  obtain ⟨f0, f1, hf, t0, o0, t1, o1⟩ : ∃ f0 f1 : Field, (Tryd.prog.fieldsOf 82).toList = [f0, f1] ∧ f0.type = 3 ∧ f0.offset = 0 ∧ f1.type = 27 ∧ f1.offset = 1 := ⟨_, _, rfl, rfl, rfl, rfl, rfl⟩
  rw [hf]
  refine eqFields_same 9999 _ w _ fun f hm => ?_
  simp only [List.mem_cons, List.not_mem_nil, or_false] at hm
  rcases hm with rfl | rfl
  · rw [t0, o0]
    exact ⟨_, part_int _ 0 x.place rfl w, by rw [run_equalIn_int w 9998 _ .i64 .i64 _ _ (by kernel_rfl)]; simp⟩
  · rw [t1, o1]
    exact ⟨_, part_bl _ 1 _ (wr_data x) w, eq_blD 9997 _ w⟩

theorem q_neq {P : Program} {ops : Array Oper} {C : World → Prop} {a : Act} {o : Oper} {rest : List Oper} {Q : Act → Prop} (t t' : TypeId) (x y : Operand) (ho : o.op = .binOp .neq t x y t') (hw : Region.wanted o (yielded ops a.tmps) = true) (X : Array Value) (hx : a.eval x = .agg X) (hy : a.eval y = .agg X)
    (hm : P.eqGuardType P.depth t = false) (heq : ∀ w, C w → (Op.equalIn 10000 t (.agg X) (.agg X)).run P w = .ok true w) (h : wpQuiet P ops C Q rest (a.put o.dst (.bool false))) : wpQuiet P ops C Q (o :: rest) a :=
  q_val (.bool false) hw (fun w hw => by
    unfold execOp
    simp only [ho, hx, hy, Sem.run_bind, run_eqGuard_agg w _ _ _ _ _ _ hm, run_neq_struct, heq w hw, Result.andThen_ok, Bool.not_true]
    rfl) h
theorem q_load_mid2 {P : Program} {ops : Array Oper} {C : World → Prop} {a : Act} {o : Oper} {rest : List Oper} {Q : Act → Prop} (ty : TypeId) (x : Operand) (ho : o.op = .load ty x) (hw : Region.wanted o (yielded ops a.tmps) = true) (b off : Nat) (hx : a.eval x = .pointer (some ⟨b, off, none⟩)) (cs : List Value) (d : TypeDesc)
    (hc : ∀ w, C w → w.rangeAt b off cs) (hu : P.underlying ty = some d) (hd : d.isRow = true) (hi : (P.info? ty).map (·.size) = some cs.length) (h : wpQuiet P ops C Q rest (a.put o.dst (.agg cs.toArray))) : wpQuiet P ops C Q (o :: rest) a :=
  q_val (.agg cs.toArray) hw (fun w hw => by
    unfold execOp
    simp only [ho, hx, Instr.loadAt, Instr.sureAddr, Sem.run_bind, Sem.run_pure, Result.andThen_ok, run_loadVar_mid w b off ty cs d (hc w hw) hu hd hi]) h

end Dk
end Go.Proofs.YtlhncceajpdahaaDoor
