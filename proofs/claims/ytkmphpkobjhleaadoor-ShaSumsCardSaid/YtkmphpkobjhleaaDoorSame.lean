/- Two arrays of the same integers are equal; operations of a region that read and call quietly, one at a time. -/
import Derived.Test.YtkmphpkobjhleaaDoorShaAlive
import Derived.ChangeKeysEq
namespace Go.Proofs.YtkmphpkobjhleaaDoor
namespace Sha
open Go.RowKit Go.Sort

theorem eqItems_same {P : Program} {e : TypeId} {k : IntKind} (he : P.plainKey e = true) (hu : P.underlying e = some (.int k)) (d : Nat) (xs : Array Value) (F : Nat → Int) (w : World) :
    ∀ (is : List Nat), (∀ i ∈ is, xs[i]? = some (.int k (F i))) → (Op.eqItems (d + 1) e 1 xs xs is).run P w = .ok true w
  | [], _ => by simp [Op.eqItems]
  | i :: is, h => by
    have h1 := h i (by simp)
    simp only [Op.eqItems, Sem.run_bind, Nat.mul_one, run_part_plain w he h1, Result.andThen_ok, run_equalIn_int w d e k k (F i) (F i) hu]
    simpa using eqItems_same he hu d xs F w is fun j hj => h j (by simp [hj])

theorem equal_same8 (F : Nat → Int) (w : World) : (Op.equalIn 10000 28 (.agg (arr 8 (vu32 F))) (.agg (arr 8 (vu32 F)))).run Tryd.prog w = .ok true w := by
  obtain ⟨i, hi⟩ : ∃ i, Tryd.prog.info? 27 = some i := ⟨_, rfl⟩
  rw [run_equalIn_array w 9999 (n := 8) (e := 27) _ _ (by kernel_rfl) hi, show Tryd.prog.cellsOf 27 = 1 by kernel_rfl]
  exact eqItems_same (k := .u32) (by kernel_rfl) (by kernel_rfl) 9998 _ F w _ fun i hi => by rw [arr_get _ (by simpa using hi)]; rfl
theorem equal_same32 (F : Nat → Int) (w : World) : (Op.equalIn 10000 32 (.agg (arr 32 (vu8 F))) (.agg (arr 32 (vu8 F)))).run Tryd.prog w = .ok true w := by
  obtain ⟨i, hi⟩ : ∃ i, Tryd.prog.info? 5 = some i := ⟨_, rfl⟩
  rw [run_equalIn_array w 9999 (n := 32) (e := 5) _ _ (by kernel_rfl) hi, show Tryd.prog.cellsOf 5 = 1 by kernel_rfl]
  exact eqItems_same (k := .u8) (by kernel_rfl) (by kernel_rfl) 9998 _ F w _ fun i hi => by rw [arr_get _ (by simpa using hi)]; rfl

section
variable {P : Program} {C : World → Prop} {a : Act} {o : Oper} {K : Act → Prop}
theorem quiet_call (f : FuncId) (args : Array Value) (v : Value) (ho : ∀ w, (execOp a.eval o).run P w = .ok (.enter f args) w) (hc : ∀ w, C w → Calls P f args w fun e w'' => e = .returned v ∧ C w'') (hk : K (a.put o.dst v)) : o.quiet P a C K :=
  ⟨v, fun w hw => by unfold Oper.quietAt; rw [ho w]; exact ⟨rfl, hc w hw⟩, hk⟩
theorem quiet_value (v : Value) (ho : ∀ w, C w → (execOp a.eval o).run P w = .ok (.value v) w) (hk : K (a.put o.dst v)) : o.quiet P a C K :=
  ⟨v, fun w hw => by unfold Oper.quietAt; rw [ho w hw]; exact ⟨rfl, rfl⟩, hk⟩
theorem quiet_load_rowC (ty : TypeId) (x : Operand) (ho : o.op = .load ty x) (g : Nat) (hx : a.eval x = .pointer (some ⟨g, 0, none⟩)) (t : TypeId) (cs : Array Value) (fr : Nat × Nat) (d : TypeDesc) (hg : ∀ w, C w → w.heap[g]? = some (.cells cs t fr))
    (hu : P.underlying ty = some d) (hd : (match d with | .struct _ | .array _ _ => true | _ => false) = true) (hi : (P.info? ty).map (·.size) = some cs.size) (hk : K (a.put o.dst (.agg cs))) : o.quiet P a C K :=
  quiet_value (.agg cs) (fun w hw => by
    unfold execOp
    simp only [ho, hx, Instr.loadAt, Instr.sureAddr, Sem.run_bind, Sem.run_pure, Result.andThen_ok, run_loadVar_row w g t ty cs fr d (hg w hw) hu hd hi]) hk
end

end Sha
end Go.Proofs.YtkmphpkobjhleaaDoor
