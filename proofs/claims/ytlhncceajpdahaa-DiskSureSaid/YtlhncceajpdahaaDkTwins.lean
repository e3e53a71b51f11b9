/- disk: the reference's Copy; the law's twins. -/
import Derived.Test.YtlhncceajpdahaaDkSame
namespace Go.Proofs.Ytlhncceajpdahaa
namespace Dk
open Go.RowKit

/-- append([]Write{}, s...) -/
theorem fresh_wr {w : World} {ops : Array Oper} {rest : List Oper} {o : Oper} {a : Act} {Q : Exit → Act → World → Prop} (hgd : o.guard = none) (s x : Operand)
    (ho : o.op = .call { callee := .builtin .append, args := #[s, x], argTypes := #[26, 26] }) (g : Nat) (ao : Option Addr) (n cap : Nat) (C : Nat → Wr)
    (hs : a.eval s = .slice (some ⟨w.heap.size, 0, none⟩) 0 0) (hx : a.eval x = .slice ao n cap) (hl : Lay w w.heap.size g ao n cap 129 (fun i => wrV (C i))) (hn : n * 136 ≤ 140737488355328)
    (h : ∀ v' w', w'.ownsRow w.heap.size 55 129 v' n (flat (fun i => wrV (C i)) n) → Below w.heap.size w w' → wpList Try.prog ops Q rest (a.put o.dst v') w') : wpList Try.prog ops Q (o :: rest) a (w.alloc (.cells #[] 55)) := by
  obtain ⟨i0, hi, hz0, hz1, hz2⟩ := info_parts info_wr
  refine append_lay hgd s x 26 55 i0 _ 129 136 ho slice_wr hi hz0 hz1 hz2 (by rw [show (Value.agg (wrV wr0).toArray).cells = (wrV wr0).toArray from rfl, List.size_toArray, wrV_length]) (by omega) w.heap.size _ [] 0 hs (World.ownsRow_lit w #[] 0 (Nat.le_refl _) (by decide) rfl) w.heap.size g ao n cap (fun i => wrV (C i)) hx (hl.keep fun b hb _ => Below.heap_alloc _ _ _ hb) (fun i _ => wrV_length _) (fun i _ => wrV_one _) (maxLen_ge (by omega)) (by omega) (by simp) ?_
  intro v' w' hown hg
  refine h v' w' (by simpa using hown) (((Below.refl _ _).alloc (Nat.le_refl _) _).grown hg (by simp) ?_)
  intro k hk
  injection hk with hk
  subst hk
  exact Nat.le_refl _
theorem fresh_wrN {w : World} {N : Nat} (hN : w.heap.size = N) {ops : Array Oper} {rest : List Oper} {o : Oper} {a : Act} {Q : Exit → Act → World → Prop} (hgd : o.guard = none) (s x : Operand)
    (ho : o.op = .call { callee := .builtin .append, args := #[s, x], argTypes := #[26, 26] }) (g : Nat) (ao : Option Addr) (n cap : Nat) (C : Nat → Wr)
    (hs : a.eval s = .slice (some ⟨N, 0, none⟩) 0 0) (hx : a.eval x = .slice ao n cap) (hl : Lay w w.heap.size g ao n cap 129 (fun i => wrV (C i))) (hn : n * 136 ≤ 140737488355328)
    (h : ∀ v' w', w'.ownsRow w.heap.size 55 129 v' n (flat (fun i => wrV (C i)) n) → Below w.heap.size w w' → wpList Try.prog ops Q rest (a.put o.dst v') w') : wpList Try.prog ops Q (o :: rest) a (w.alloc (.cells #[] 55)) := by
  subst hN
  exact fresh_wr hgd s x ho g ao n cap C hs hx hl hn h
theorem fresh_secN {w : World} {N : Nat} (hN : w.heap.size = N) {ops : Array Oper} {rest : List Oper} {o : Oper} {a : Act} {Q : Exit → Act → World → Prop} (hgd : o.guard = none) (s x : Operand)
    (ho : o.op = .call { callee := .builtin .append, args := #[s, x], argTypes := #[25, 25] }) (g : Nat) (ao : Option Addr) (n cap : Nat) (S : Nat → Sec)
    (hs : a.eval s = .slice (some ⟨N, 0, none⟩) 0 0) (hx : a.eval x = .slice ao n cap) (hl : Lay w w.heap.size g ao n cap 130 (fun i => secV (S i))) (hn : n * 130 ≤ 140737488355328)
    (h : ∀ v' w', w'.ownsRow w.heap.size 53 130 v' n (flat (fun i => secV (S i)) n) → Below w.heap.size w w' → wpList Try.prog ops Q rest (a.put o.dst v') w') : wpList Try.prog ops Q (o :: rest) a (w.alloc (.cells #[] 53)) := by
  subst hN
  exact fresh_sec hgd s x ho g ao n cap S hs hx hl hn h
theorem disk_one (a b : Option Addr) (n c m e : Nat) (f : Int) (d : Bool) : (#[.slice a n c, .slice b m e, .int .i64 f, .bool d] : Array Value).all (·.oneCell') = true := by simp [Value.oneCell']
theorem owns_slice {w : World} {B : Nat} {e : TypeId} {k n : Nat} {v : Value} {xs : List Value} (h : w.ownsRow B e k v n xs) : ∃ ao cap, v = .slice ao n cap := by
  rcases h.2 with ⟨hv, hn⟩ | ⟨b, cap', cur, hv, _⟩
  · exact ⟨none, 0, by rw [hv, hn]⟩
  · exact ⟨_, cap', hv⟩

/-- a copy: its lists are new -/
def Copied (w : World) (n m : Nat) (S : Nat → Sec) (C : Nat → Wr) (f : Int) (d : Bool) (v : Value) (w' : World) : Prop :=
  ∃ sa sc ca cc, v = .agg #[.slice sa n sc, .slice ca m cc, .int .i64 f, .bool d] ∧ w'.ownsRow w.heap.size 53 130 (.slice sa n sc) n (flat (fun i => secV (S i)) n) ∧ w'.ownsRow w.heap.size 55 129 (.slice ca m cc) m (flat (fun i => wrV (C i)) m)

/-- while twins copies, in whatever order -/
def TInv (x0 x1 : Value) (B0 A B : Nat) (n m : Nat) (S : Nat → Sec) (C : Nat → Wr) (f : Int) (d : Bool) (dv : Value) (W : World) (L : Nat → Bool) (a : Act) (w' : World) : Prop :=
  ∃ u0 u1 u2 u3 cA cB, a = { tmps := #[x0, x1, .pointer (some ⟨A, 0, none⟩), .pointer (some ⟨B, 0, none⟩), u0, u1, u2, u3], defers := [] } ∧ (L 0 = true → u0 = dv) ∧ (L 1 = true → Copied W n m S C f d u1 w') ∧ (L 2 = true → u2 = dv) ∧ (L 3 = true → Copied W n m S C f d u3 w') ∧ Below B0 W w' ∧ W.heap.size ≤ w'.heap.size ∧
    w'.heap[A]? = some (.cells cA 28 (0, 0)) ∧ cA.size = 4 ∧ (L 4 = true → L 1 = true ∧ u1 = .agg cA) ∧ w'.heap[B]? = some (.cells cB 28 (0, 0)) ∧ cB.size = 4 ∧ (L 5 = true → L 3 = true ∧ u3 = .agg cB)
theorem Copied.below {w w' w'' : World} {n m : Nat} {S : Nat → Sec} {C : Nat → Wr} {f : Int} {d : Bool} {v : Value} (h : Copied w n m S C f d v w') (hb : Below w'.heap.size w' w'') : Copied w n m S C f d v w'' := by
  obtain ⟨sa, sc, ca, cc, e, h1, h2⟩ := h
  exact ⟨sa, sc, ca, cc, e, owns_below h1 hb, owns_below h2 hb⟩
theorem Copied.mono {w0 w w' : World} {n m : Nat} {S : Nat → Sec} {C : Nat → Wr} {f : Int} {d : Bool} {v : Value} (h : Copied w n m S C f d v w') (hb : w0.heap.size ≤ w.heap.size) : Copied w0 n m S C f d v w' := by
  obtain ⟨sa, sc, ca, cc, e, h1, h2⟩ := h
  exact ⟨sa, sc, ca, cc, e, owns_mono h1 hb, owns_mono h2 hb⟩
theorem keepT {L : Nat → Bool} {i j : Nat} {P : Prop} (h : L j = true → P) (hij : (j == i) = false) : (j == i || L j) = true → P := by rw [hij, Bool.false_or]; exact h

theorem results_two {tmps : Array Value} {w : World} {A B : Nat} {u v : Array Value} {fn : Func} (hf : fn.results = #[.cell 2 28, .cell 3 28]) (h2 : tmps.getD 2 undef = .pointer (some ⟨A, 0, none⟩)) (h3 : tmps.getD 3 undef = .pointer (some ⟨B, 0, none⟩))
    (hA : w.heap[A]? = some (.cells u 28 (0, 0))) (hB : w.heap[B]? = some (.cells v 28 (0, 0))) (su : u.size = 4) (sv : v.size = 4) : (results fn tmps).run Try.prog w = .ok (.tuple #[.agg u, .agg v]) w := by
  have h2' : tmps[2]?.getD undef = .pointer (some ⟨A, 0, none⟩) := by simpa using h2
  have h3' : tmps[3]?.getD undef = .pointer (some ⟨B, 0, none⟩) := by simpa using h3
  have k2 := run_loadVar_row (P := Try.prog) w A 28 28 u (0, 0) _ hA Try.underlying28 rfl (by rw [su]; kernel_rfl)
  have k3 := run_loadVar_row (P := Try.prog) w B 28 28 v (0, 0) _ hB Try.underlying28 rfl (by rw [sv]; kernel_rfl)
  simp [results, hf, h2', h3', asAddr, k2, k3]

end Dk
end Go.Proofs.Ytlhncceajpdahaa
