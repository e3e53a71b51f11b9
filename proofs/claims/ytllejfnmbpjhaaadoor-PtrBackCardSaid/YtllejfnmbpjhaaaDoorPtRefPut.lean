/- ptr: the reference's Put. -/
import Derived.Test.YtllejfnmbpjhaaaDoorPtPut
namespace Go.Proofs.YtllejfnmbpjhaaaDoor
set_option maxRecDepth 20000
namespace Pt
open Go.RowKit Dk Eqb Byt

theorem right_bd {p : Pn} (h : rightB p = true) : (p.A = -1 ∨ (0 ≤ p.A ∧ p.A < 4096)) ∧ (p.B = -1 ∨ (0 ≤ p.B ∧ p.B < 4096)) := by
  unfold rightB at h
  rcases Bool.or_eq_true _ _ ▸ h with h1 | h1
  · obtain ⟨a, b, _⟩ := eqP_iff.1 h1
    exact ⟨.inl a, .inl b⟩
  · simp only [Bool.and_eq_true, Bool.or_eq_true, secB_iff, beq_iff_eq] at h1
    exact ⟨.inr h1.1, h1.2.imp id (·.1)⟩
def LS (p : Pn) (i : Nat) : Int := if i = 0 then p.A else p.B
def FF (n : Nat) (a : Int) (p : Pn) (f : Nat → Int) : Nat → Nat → Int
  | 0 => f
  | j + 1 => Wd.putF n (a + 4 * (j : Int)) 4 (side (LS p j)) (FF n a p f j)
theorem FF_two (n a : Nat) (p : Pn) (f : Nat → Int) : FF n a p f 2 = Wd.putF n ((a : Int) + 4) 4 (side p.B) (Wd.putF n a 4 (side p.A) f) := by
  simp only [FF, LS]
  simp
def TwoI (w : World) (g : Nat) (p : Pn) : Prop := w.heap[g]? = some (.cells #[.int .i64 p.A, .int .i64 p.B] 126 (0, 0))
theorem TwoI.cell {w : World} {g : Nat} {p : Pn} (h : TwoI w g p) {j : Nat} (hj : j < 2) : w.cell? ⟨g, j, none⟩ = some (.int .i64 (LS p j)) := by
  rw [cell_of_row w g j _ _ _ h]
  match j, hj with
  | 0, _ => rfl
  | 1, _ => rfl

end Pt
end Go.Proofs.YtllejfnmbpjhaaaDoor
