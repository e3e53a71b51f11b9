/- ptr: the reference's Node (made by tools/gen_pnode.py). -/
import Derived.Test.YtllejfnmbpjhaaaDoorPtNode
namespace Go.Proofs.YtllejfnmbpjhaaaDoor
set_option maxRecDepth 20000
namespace Pt
open Go.RowKit Dk Eqb Byt

def RnInv (x0 x1 x2 x3 x7 x8 x9 x10 x11 x12 x13 x14 x15 x16 x17 x18 x19 x20 x21 x22 x23 x30 x31 : Value) (bb pb j : Nat) (p : Pn) (E : Int) (c : Bool) (F F' : Nat → Int) (W0 : World) (L : Nat → Bool) (a' : Act) (w' : World) : Prop :=
  ∃ u0 u1 u2 u3 u4 u5, a' = { tmps := #[x0, x1, x2, x3, .pointer (some ⟨bb, 0, none⟩), .int .i64 (j : Int), .pointer (some ⟨pb, 0, none⟩), x7, x8, x9, x10, x11, x12, x13, x14, x15, x16, x17, x18, x19, x20, x21, x22, x23, u0, u1, u2, u3, u4, u5, x30, x31], defers := [] } ∧ (L 0 = true → u0 = .slice (some ⟨bb, 0, none⟩) 128 128) ∧ (L 1 = true → u1 = .int .i64 (j : Int)) ∧ (L 2 = true → u2 = .int .i64 (40 * (j : Int))) ∧ (L 3 = true → u3 = .agg (pV p).toArray) ∧ (L 4 = true → u4 = .int .i64 E) ∧ (L 5 = true → u5 = .bool c) ∧ NdW bb pb p F F' W0 (L 4) w'
theorem RnInv_kl {L : Nat → Bool} {i k : Nat} {Q : Prop} (h : L k = true → Q) (h1 : (k == i) = false) : (k == i || L k) = true → Q := by
  rw [h1, Bool.false_or]
  exact h

attribute [local go_sem] zvP zvB
attribute [local go_sem] zcB
end Pt
end Go.Proofs.YtllejfnmbpjhaaaDoor
