/- Equality of arrays of bytes, decided whatever they hold. -/
import Derived.Test.YtnmljjehkdbbjaaDkBase
import Derived.Test.YtnmljjehkdbbjaaJSha
import Derived.Great.BuildSlice
import Derived.DeepKeys
import Derived.ChangeKeysEq
namespace Go.Proofs.Ytnmljjehkdbbjaa
set_option maxRecDepth 20000
namespace Eqb
open Go.RowKit Go.Sort Dk

theorem eqItems_any {P : Program} {e : TypeId} {k : IntKind} (he : P.plainKey e = true) (hu : P.underlying e = some (.int k)) (d : Nat) (xs ys : Array Value) (F G : Nat → Int) (w : World) :
    ∀ (is : List Nat), (∀ i ∈ is, xs[i]? = some (.int k (F i)) ∧ ys[i]? = some (.int k (G i))) → (Op.eqItems (d + 1) e 1 xs ys is).run P w = .ok (is.all fun i => F i == G i) w
  | [], _ => by simp [Op.eqItems]
  | i :: is, h => by
    obtain ⟨h1, h2⟩ := h i (by simp)
    have ih := eqItems_any he hu d xs ys F G w is fun j hj => h j (by simp [hj])
    simp only [Op.eqItems, Sem.run_bind, Nat.mul_one, run_part_plain w he h1, run_part_plain w he h2, Result.andThen_ok, run_equalIn_int w d e k k (F i) (G i) hu, List.all_cons]
    cases hb : F i == G i with
    | false => simp
    | true => simpa using ih
/-- the first n are the same -/
def eqB (n : Nat) (F G : Nat → Int) : Bool := (List.range n).all fun i => F i == G i
theorem eqB_iff {n : Nat} {F G : Nat → Int} : eqB n F G = true ↔ ∀ i, i < n → F i = G i := by simp [eqB]
theorem eqB_same (n : Nat) (F : Nat → Int) : eqB n F F = true := eqB_iff.2 fun _ _ => rfl
theorem eqB_comm (n : Nat) (F G : Nat → Int) : eqB n F G = eqB n G F := by
  rw [Bool.eq_iff_iff, eqB_iff, eqB_iff]
  exact ⟨fun h i hi => (h i hi).symm, fun h i hi => (h i hi).symm⟩
theorem eqB_congr {n : Nat} {F G F' G' : Nat → Int} (h1 : ∀ i, i < n → F i = F' i) (h2 : ∀ i, i < n → G i = G' i) : eqB n F G = eqB n F' G' := by
  rw [Bool.eq_iff_iff, eqB_iff, eqB_iff]
  exact ⟨fun h i hi => by rw [← h1 i hi, ← h2 i hi, h i hi], fun h i hi => by rw [h1 i hi, h2 i hi, h i hi]⟩

theorem eqD_sum (d : Nat) (f g : Nat → Int) (w : World) : (Op.equalIn (d + 2) 22 (.agg (Sha.arr 32 (Sha.vu8 f))) (.agg (Sha.arr 32 (Sha.vu8 g)))).run Try.prog w = .ok (eqB 32 f g) w := by
  obtain ⟨i, hi⟩ : ∃ i, Try.prog.info? 5 = some i := ⟨_, rfl⟩
  rw [run_equalIn_array w (d + 1) (n := 32) (e := 5) _ _ (by kernel_rfl) hi, show Try.prog.cellsOf 5 = 1 by kernel_rfl]
  exact eqItems_any (k := .u8) (by kernel_rfl) (by kernel_rfl) d _ _ f g w _ fun i hi => by
    have hi' : i < 32 := by simpa using hi
    rw [Sha.arr_get _ hi', Sha.arr_get _ hi']
    exact ⟨rfl, rfl⟩
theorem eq_sum (f g : Nat → Int) (w : World) : (Op.equalIn 10000 22 (.agg (Sha.arr 32 (Sha.vu8 f))) (.agg (Sha.arr 32 (Sha.vu8 g)))).run Try.prog w = .ok (eqB 32 f g) w := eqD_sum 9998 f g w

theorem run_eql_sum (f g : Nat → Int) (w : World) : (binOp .eql 22 (.agg (Sha.arr 32 (Sha.vu8 f))) (.agg (Sha.arr 32 (Sha.vu8 g)))).run Try.prog w = .ok (.bool (eqB 32 f g)) w := by
  rw [run_eql_struct, eq_sum]; rfl
theorem run_neq_sum (f g : Nat → Int) (w : World) : (binOp .neq 22 (.agg (Sha.arr 32 (Sha.vu8 f))) (.agg (Sha.arr 32 (Sha.vu8 g)))).run Try.prog w = .ok (.bool (!eqB 32 f g)) w := by
  rw [run_neq_struct, eq_sum]; rfl

/-- an operation of a region that reads and calls quietly: == of values of one type -/
theorem q_eqlV {P : Program} {ops : Array Oper} {C : World → Prop} {a : Act} {o : Oper} {rest : List Oper} {Q : Act → Prop} (t t' : TypeId) (x y : Operand) (ho : o.op = .binOp .eql t x y t') (hw : Region.wanted o (yielded ops a.tmps) = true) (X Y : Array Value) (hx : a.eval x = .agg X) (hy : a.eval y = .agg Y) (b : Bool)
    (hm : P.eqGuardType P.depth t = false) (heq : ∀ w, C w → (Op.equalIn 10000 t (.agg X) (.agg Y)).run P w = .ok b w) (h : wpQuiet P ops C Q rest (a.put o.dst (.bool b))) : wpQuiet P ops C Q (o :: rest) a :=
  q_val (.bool b) hw (fun w hw => by
    unfold execOp
    simp only [ho, hx, hy, Sem.run_bind, run_eqGuard_agg w _ _ _ _ _ _ hm, run_eql_struct, heq w hw, Result.andThen_ok]
    rfl) h
theorem q_neqV {P : Program} {ops : Array Oper} {C : World → Prop} {a : Act} {o : Oper} {rest : List Oper} {Q : Act → Prop} (t t' : TypeId) (x y : Operand) (ho : o.op = .binOp .neq t x y t') (hw : Region.wanted o (yielded ops a.tmps) = true) (X Y : Array Value) (hx : a.eval x = .agg X) (hy : a.eval y = .agg Y) (b : Bool)
    (hm : P.eqGuardType P.depth t = false) (heq : ∀ w, C w → (Op.equalIn 10000 t (.agg X) (.agg Y)).run P w = .ok b w) (h : wpQuiet P ops C Q rest (a.put o.dst (.bool (!b)))) : wpQuiet P ops C Q (o :: rest) a :=
  q_val (.bool (!b)) hw (fun w hw => by
    unfold execOp
    simp only [ho, hx, hy, Sem.run_bind, run_eqGuard_agg w _ _ _ _ _ _ hm, run_neq_struct, heq w hw, Result.andThen_ok]
    rfl) h
theorem q_loadB {P : Program} {ops : Array Oper} {C : World → Prop} {a : Act} {o : Oper} {rest : List Oper} {Q : Act → Prop} (ty : TypeId) (x : Operand) (ho : o.op = .load ty x) (hw : Region.wanted o (yielded ops a.tmps) = true) (b off : Nat) (hx : a.eval x = .pointer (some ⟨b, off, none⟩)) (cs : List Value) (d : TypeDesc)
    (hc : ∀ w, C w → w.rangeAt b off cs) (hu : P.underlying ty = some d) (hd : d.isRow = true) (hi : (P.info? ty).map (·.size) = some cs.length) (h : wpQuiet P ops C Q rest (a.put o.dst (.agg cs.toArray))) : wpQuiet P ops C Q (o :: rest) a :=
  q_val (.agg cs.toArray) hw (fun w hw => by
    unfold execOp
    simp only [ho, hx, Instr.loadAt, Instr.sureAddr, Sem.run_bind, Sem.run_pure, Result.andThen_ok, run_loadVar_mid w b off ty cs d (hc w hw) hu hd hi]) h

/-- plain regions: an operation, guarded or not, that yields v; a load of a long row; == of values of one type. The caller writes '@' ahead of these: else the elaborator unfolds the goal -/
theorem wpList_val {P : Program} {ops : Array Oper} {rest : List Oper} {o : Oper} {a : Act} {w : World} {Q : Exit → Act → World → Prop} (v : Value) (hw : Region.wanted o (yielded ops a.tmps) = true) (ho : (execOp a.eval o).run P w = .ok (.value v) w)
    (h : wpList P ops Q rest (a.put o.dst v) w) : wpList P ops Q (o :: rest) a w :=
  BigFrame.wpList_want hw fun _ hK => by
    unfold Oper.wp
    rw [ho]
    exact hK _ _ h
theorem wpList_loadG {P : Program} {ops : Array Oper} {rest : List Oper} {o : Oper} {a : Act} {w : World} {Q : Exit → Act → World → Prop} (hw : Region.wanted o (yielded ops a.tmps) = true) (ty : TypeId) (x : Operand) (ho : o.op = .load ty x) (b off : Nat) (hx : a.eval x = .pointer (some ⟨b, off, none⟩)) (cs : List Value) (d : TypeDesc)
    (hc : w.rangeAt b off cs) (hu : P.underlying ty = some d) (hd : d.isRow = true) (hi : (P.info? ty).map (·.size) = some cs.length) (h : wpList P ops Q rest (a.put o.dst (.agg cs.toArray)) w) : wpList P ops Q (o :: rest) a w :=
  BigFrame.wpList_want hw fun _ hK => wp_load_mid ty x ho b off hx cs d hc hu hd hi (hK _ _ h)
theorem wpList_buildG {P : Program} {ops : Array Oper} {rest : List Oper} {o : Oper} {a : Act} {w : World} {Q : Exit → Act → World → Prop} (hw : Region.wanted o (yielded ops a.tmps) = true) (t : TypeId) (parts : Array (Nat × Operand)) (ho : o.op = .build t parts)
    (cells : Array Value) (hf : P.built t (parts.map fun (i, x) => (i, a.eval x)).toList = some cells) (h : wpList P ops Q rest (a.put o.dst (.agg cells)) w) : wpList P ops Q (o :: rest) a w :=
  wpList_val (.agg cells) hw (by
    unfold execOp
    simp only [ho, Sem.run_bind, run_build w t _ _ hf, Result.andThen_ok]
    rfl) h
theorem wpList_eqlV {P : Program} {ops : Array Oper} {rest : List Oper} {o : Oper} {a : Act} {w : World} {Q : Exit → Act → World → Prop} (t t' : TypeId) (x y : Operand) (ho : o.op = .binOp .eql t x y t') (hw : Region.wanted o (yielded ops a.tmps) = true) (X Y : Array Value) (hx : a.eval x = .agg X) (hy : a.eval y = .agg Y) (b : Bool)
    (hm : P.eqGuardType P.depth t = false) (heq : (Op.equalIn 10000 t (.agg X) (.agg Y)).run P w = .ok b w) (h : wpList P ops Q rest (a.put o.dst (.bool b)) w) : wpList P ops Q (o :: rest) a w :=
  wpList_val (.bool b) hw (by
    unfold execOp
    simp only [ho, hx, hy, Sem.run_bind, run_eqGuard_agg w _ _ _ _ _ _ hm, run_eql_struct, heq, Result.andThen_ok]
    rfl) h
theorem wpList_neqV {P : Program} {ops : Array Oper} {rest : List Oper} {o : Oper} {a : Act} {w : World} {Q : Exit → Act → World → Prop} (t t' : TypeId) (x y : Operand) (ho : o.op = .binOp .neq t x y t') (hw : Region.wanted o (yielded ops a.tmps) = true) (X Y : Array Value) (hx : a.eval x = .agg X) (hy : a.eval y = .agg Y) (b : Bool)
    (hm : P.eqGuardType P.depth t = false) (heq : (Op.equalIn 10000 t (.agg X) (.agg Y)).run P w = .ok b w) (h : wpList P ops Q rest (a.put o.dst (.bool (!b))) w) : wpList P ops Q (o :: rest) a w :=
  wpList_val (.bool (!b)) hw (by
    unfold execOp
    simp only [ho, hx, hy, Sem.run_bind, run_eqGuard_agg w _ _ _ _ _ _ hm, run_neq_struct, heq, Result.andThen_ok]
    rfl) h

theorem allB (f : Nat → Int) : (bl f).toArray.all (·.oneCell') = true := all_oneCell_toArray (bl_one f)
end Eqb
end Go.Proofs.Ytnmljjehkdbbjaa
