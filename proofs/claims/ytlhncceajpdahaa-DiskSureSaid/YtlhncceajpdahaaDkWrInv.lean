/- disk: the last statement of Write, in whatever order its operations come. -/
import Derived.Test.YtlhncceajpdahaaDkFlush
import Derived.Test.YtlhncceajpdahaaQuietTail
import Derived.Deep.AppendLies
import Derived.Great.BuildSlice
namespace Go.Proofs.Ytlhncceajpdahaa
namespace Dk
open Go.RowKit

theorem wr_size (x : Wr) : (wrV x).toArray.size = 129 := by rw [List.size_toArray, wrV_length]
def bw (p : Int) (D : Nat → Int) : List Value := wrV ⟨p, D⟩
theorem built65 (p : Int) (D : Nat → Int) : Try.prog.built 55 [(0, .int .i64 p), (1, .agg (bl D).toArray)] = some (bw p D).toArray := by kernel_rfl
theorem wp_build65 {o : Oper} {a : Act} {w : World} {K : Act → World → Prop} {Q : Exit → Act → World → Prop} (p : Int) (D : Nat → Int) (x y : Operand) (ho : o.op = .build 55 #[(0, x), (1, y)]) (hx : a.eval x = .int .i64 p) (hy : a.eval y = .agg (bl D).toArray)
    (h : K (a.put o.dst (.agg (bw p D).toArray)) w) : o.wp Try.prog a w K Q := by
  unfold Oper.wp execOp
  have hb : Try.prog.built 55 ((#[(0, x), (1, y)] : Array (Nat × Operand)).map fun (i, x) => (i, a.eval x)).toList = some (bw p D).toArray := by
    simp only [List.map_toArray, List.map_cons, List.map_nil, hx, hy]
    exact built65 p D
  simp only [ho, Sem.run_bind, run_build w 55 _ _ hb, Result.andThen_ok]
  exact h
theorem fill65 (p : Int) (D : Nat → Int) : Instr.fill (fun i => some (i * 129, 129)) ((Array.range (1 * 129)).map ((Value.agg (wrV wr0).toArray).cells[· % (Value.agg (wrV wr0).toArray).cells.size]!)) [(0, .agg (bw p D).toArray)] = some (bw p D).toArray := by kernel_rfl
theorem wp_bslice65 {o : Oper} {a : Act} {w : World} {K : Act → World → Prop} {Q : Exit → Act → World → Prop} (p : Int) (D : Nat → Int) (x : Operand) (ho : o.op = .buildSlice 26 1 #[(0, x)]) (hx : a.eval x = .agg (bw p D).toArray)
    (h : K (a.put o.dst (.slice (some ⟨w.heap.size, 0, none⟩) 1 1)) (w.alloc (.cells (bw p D).toArray 55))) : o.wp Try.prog a w K Q := by
  obtain ⟨i0, hi, hz0, hz1, hz2⟩ := info_parts info_wr
  refine wp_buildSlice 26 55 1 #[(0, x)] ho _ i0 _ slice_wr hi hz0 (by rw [hz1]; decide) (by rw [hz1]; decide) ?_ h
  rw [hz1]
  simp only [List.map_toArray, List.map_cons, List.map_nil, hx]
  exact fill65 p D
theorem owns_ne {w : World} {B B' : Nat} {e e' : TypeId} {k k' n n' : Nat} {v v' : Value} {xs xs' : List Value} (h : w.ownsRow B e k v n xs) (h' : w.ownsRow B' e' k' v' n' xs') (hne : e ≠ e') : v.ownBlock = none ∨ v.ownBlock ≠ v'.ownBlock := by
  rcases h.2 with ⟨hv, _⟩ | ⟨b, cap, cur, hv, _, hc, _⟩
  · subst hv; exact .inl rfl
  · refine .inr fun he => ?_
    subst hv
    rcases h'.2 with ⟨hv', _⟩ | ⟨b', cap', cur', hv', _, hc', _⟩
    · subst hv'; cases he
    · subst hv'
      injection he with he
      simp only at he
      subst he
      rw [hc] at hc'
      injection hc' with hc'
      injection hc' with _ hc' _
      exact hne hc'
theorem keepL {L : Nat → Bool} {i j : Nat} {P : Prop} (h : L j = true → P) (hij : (j == i) = false) : (j == i || L j) = true → P := by rw [hij, Bool.false_or]; exact h
theorem keepL' {L : Nat → Bool} {i j : Nat} {P : Prop} (h : L j = false → P) (hij : (j == i) = false) : (j == i || L j) = false → P := by rw [hij, Bool.false_or]; exact h

/-- while the last statement of Write is carried out, in whatever order -/
def WInv (x2 x3 x4 x6 x7 x8 x9 x10 x11 x12 x13 x14 x15 x16 x17 x18 x19 x20 x21 x22 x23 x24 x25 x26 x27 x28 x29 x30 x31 y0 y1 : Value) (g xb p : Nat) (D : Nat → Int) (ca : Option Addr) (m cc B : Nat) (F : List Value) (sv : Value) (n : Nat) (G : List Value) (W : World) (L : Nat → Bool) (a : Act) (w' : World) : Prop :=
  ∃ u0 u1 u2 u3 u4 u5 u6 u7 u8 u9, a = { tmps := #[.pointer (some ⟨g, 0, none⟩), .int .i64 p, x2, x3, x4, .pointer (some ⟨xb, 0, none⟩), x6, x7, x8, x9, x10, x11, x12, x13, x14, x15, x16, x17, x18, x19, x20, x21, x22, x23, x24, x25, x26, x27, x28, x29, x30, x31, u0, u1, u2, u3, u4, u5, u6, u7, u8, u9, y0, y1], defers := [] } ∧ (L 0 = true → u0 = .pointer (some ⟨g, 0, none⟩)) ∧ (L 1 = true → u1 = .pointer (some ⟨g, 0, none⟩)) ∧ (L 2 = true → u2 = .pointer (some ⟨g, 0, none⟩)) ∧ (L 3 = true → u3 = .pointer (some ⟨g, 1, none⟩)) ∧ (L 4 = true → u4 = .slice ca m cc) ∧ (L 5 = true → u5 = .int .i64 p) ∧ (L 6 = true → u6 = .agg (bl D).toArray) ∧ (L 7 = true → u7 = .agg (bw p D).toArray) ∧ (L 8 = true → ∃ gb, u8 = .slice (some ⟨gb, 0, none⟩) 1 1 ∧ (L 9 = false → w'.heap[gb]? = some (.cells (bw p D).toArray 55 (0, 0)))) ∧ (L 9 = true → ∃ b5 c5, u9 = .slice (some ⟨b5, 0, none⟩) (m + 1) c5 ∧ w'.ownsRow B 55 129 (.slice (some ⟨b5, 0, none⟩) (m + 1) c5) (m + 1) (F ++ bw p D)) ∧
    Below B W w' ∧ B ≤ w'.heap.size ∧ w'.ownsRow B 53 130 sv n G ∧ (L 9 = false → w'.ownsRow B 55 129 (.slice ca m cc) m F)

end Dk
end Go.Proofs.Ytlhncceajpdahaa
