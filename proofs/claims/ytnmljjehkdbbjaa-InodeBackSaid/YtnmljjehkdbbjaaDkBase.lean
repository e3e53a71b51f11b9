/- disk: has, there, Formed, formed and the reference's. -/
import Derived.Test.YtnmljjehkdbbjaaDkMem
namespace Go.Proofs.Ytnmljjehkdbbjaa
set_option maxRecDepth 20000
namespace Dk
open Go.RowKit

/-- a disk -/
structure Dsk where
  n : Nat
  S : Nat → Sec
  m : Nat
  C : Nat → Wr
  fuse : Int
  down : Bool
def hasB (n : Nat) (a : Int) : Bool := decide (0 ≤ a) && decide (a < n)
theorem hasB_no {n : Nat} {a : Int} (h : a < 0) : hasB n a = false := by unfold hasB; rw [decide_eq_false (by omega)]; rfl
theorem hasB_yes {n : Nat} {a : Int} (h : 0 ≤ a) : hasB n a = decide (a < n) := by unfold hasB; rw [decide_eq_true h]; rfl
theorem hasB_nat {n : Nat} {a : Int} (h : hasB n a = true) : 0 ≤ a ∧ a < n := by simpa [hasB] using h
def inAll (n : Nat) (C : Nat → Wr) : Nat → Bool
  | 0 => true
  | j + 1 => inAll n C j && hasB n (C j).place

section
variable {P : Program} {ops : Array Oper} {C : World → Prop} {a : Act} {o : Oper} {rest : List Oper} {Q : Act → Prop}
/-- a region in the order of its text: an operation that yields v in every world of the class -/
theorem q_val (v : Value) (hw : Region.wanted o (yielded ops a.tmps) = true) (ho : ∀ w, C w → (execOp a.eval o).run P w = .ok (.value v) w) (h : wpQuiet P ops C Q rest (a.put o.dst v)) : wpQuiet P ops C Q (o :: rest) a :=
  BigFrame.wpQuiet_want hw fun _ hK => ⟨v, fun w hw => by unfold Oper.quietAt; rw [ho w hw]; exact ⟨rfl, rfl⟩, hK _ h⟩
theorem q_call (f : FuncId) (args : Array Value) (v : Value) (hw : Region.wanted o (yielded ops a.tmps) = true) (ho : ∀ w, (execOp a.eval o).run P w = .ok (.enter f args) w) (hc : ∀ w, C w → Calls P f args w fun e w'' => e = .returned v ∧ C w'')
    (h : wpQuiet P ops C Q rest (a.put o.dst v)) : wpQuiet P ops C Q (o :: rest) a :=
  BigFrame.wpQuiet_want hw fun _ hK => ⟨v, fun w hw => by unfold Oper.quietAt; rw [ho w]; exact ⟨rfl, hc w hw⟩, hK _ h⟩
theorem q_move (x : Operand) (hm : o.op = .move x) (hw : Region.wanted o (yielded ops a.tmps) = true) (h : wpQuiet P ops C Q rest (a.put o.dst (a.eval x))) : wpQuiet P ops C Q (o :: rest) a :=
  BigFrame.wpQuiet_want hw fun _ hK => BigFrame.quiet_move x hm (hK _ h)
end

/-- what a disk's Cache names -/
theorem inAll_false {n : Nat} {C : Nat → Wr} {m j : Nat} (hj : j < m) (h : hasB n (C j).place = false) : inAll n C m = false := by
  induction m with
  | zero => omega
  | succ m ih =>
    unfold inAll
    by_cases e : j = m
    · subst e; rw [h, Bool.and_false]
    · rw [ih (by omega), Bool.false_and]
theorem inAll_at {n : Nat} {C : Nat → Wr} {m j : Nat} (hj : j < m) (h : inAll n C m = true) : hasB n (C j).place = true := by
  cases e : hasB n (C j).place with
  | true => rfl
  | false => rw [inAll_false hj e] at h; cases h
def formedB (n : Nat) (m : Nat) (C : Nat → Wr) : Bool := decide (1 ≤ n) && decide (n ≤ 4096) && inAll n C m

theorem wrV_place (x : Wr) : (wrV x)[0]? = some (.int .i64 x.place) := rfl

/-- worlds that have all that stood in W -/
theorem below_drew (W : World) : Below W.heap.size W { W with drawn := W.drawn + 1 } := ⟨rfl, rfl, rfl, Nat.le_refl _, fun _ _ => rfl⟩

section
variable {w w' : World} {g : Nat} {v0 v1 v2 v3 : Value}
end

end Dk
end Go.Proofs.Ytnmljjehkdbbjaa
