/- space: two copies into two new variables, in whatever order (x, y := Copy(v), Copy(v)): what holds at each moment. -/
import Derived.Test.YtdbmdocmnhgbpaaSpAlive
import Derived.Laws.Rows
namespace Go.Proofs.Ytdbmdocmnhgbpaa
set_option maxRecDepth 20000
namespace TwS
open Go.RowKit Dk

/-- u0, u2: the value that is copied; u1, u3: the copies; u4, u5: the new variables -/
structure Tw (P : Value → World → Prop) (TY : TypeId) (SZ : Nat) (dv : Value) (W : World) (L : Nat → Bool) (u0 u1 u2 u3 u4 u5 : Value) (w' : World) : Prop where
  a0 : L 0 = true → u0 = dv
  a1 : L 1 = true → P u1 w'
  a2 : L 2 = true → u2 = dv
  a3 : L 3 = true → P u3 w'
  a4 : L 4 = true → ∃ b c, u4 = .pointer (some ⟨b, 0, none⟩) ∧ W.heap.size ≤ b ∧ w'.heap[b]? = some (.cells c TY (0, 0)) ∧ c.size = SZ ∧ (L 6 = true → u1 = .agg c)
  a5 : L 5 = true → ∃ b c, u5 = .pointer (some ⟨b, 0, none⟩) ∧ W.heap.size ≤ b ∧ w'.heap[b]? = some (.cells c TY (0, 0)) ∧ c.size = SZ ∧ (L 7 = true → u3 = .agg c)
  ne : L 4 = true → L 5 = true → u4 ≠ u5
  o6 : L 6 = true → L 1 = true ∧ L 4 = true
  o7 : L 7 = true → L 3 = true ∧ L 5 = true
  be : Below W.heap.size W w'
section
variable {P : Value → World → Prop} {TY : TypeId} {SZ : Nat} {dv : Value} {W : World} {L : Nat → Bool} {u0 u1 u2 u3 u4 u5 v : Value} {w' w'' : World}
theorem kl {i k : Nat} {Q : Prop} (h : L k = true → Q) (h1 : (k == i) = false) : (k == i || L k) = true → Q := by
  rw [h1, Bool.false_or]
  exact h
theorem Tw.start : Tw P TY SZ dv W (fun _ => false) u0 u1 u2 u3 u4 u5 { W with drawn := W.drawn + 1 } := by
  constructor <;> first | exact ⟨rfl, rfl, rfl, Nat.le_refl _, fun _ _ => rfl⟩ | simp
theorem blk {w : World} {k : Nat} {o : Obj} (h : w.heap[k]? = some o) : k < w.heap.size := (Array.getElem?_eq_some_iff.1 h).1
theorem Tw.load0 (h : Tw P TY SZ dv W L u0 u1 u2 u3 u4 u5 w') : Tw P TY SZ dv W (fun j => j == 0 || L j) dv u1 u2 u3 u4 u5 w' :=
  ⟨fun _ => rfl, kl h.a1 rfl, kl h.a2 rfl, kl h.a3 rfl, kl h.a4 rfl, kl h.a5 rfl, h.ne, h.o6, h.o7, h.be⟩
theorem Tw.load2 (h : Tw P TY SZ dv W L u0 u1 u2 u3 u4 u5 w') : Tw P TY SZ dv W (fun j => j == 2 || L j) u0 u1 dv u3 u4 u5 w' :=
  ⟨kl h.a0 rfl, kl h.a1 rfl, fun _ => rfl, kl h.a3 rfl, kl h.a4 rfl, kl h.a5 rfl, h.ne, h.o6, h.o7, h.be⟩
theorem Tw.call1 (h : Tw P TY SZ dv W L u0 u1 u2 u3 u4 u5 w') (hL : L 1 = false) (hv : P v w'') (hb : Below w'.heap.size w' w'') (hP : ∀ v w' w'', P v w' → Below w'.heap.size w' w'' → P v w'') : Tw P TY SZ dv W (fun j => j == 1 || L j) u0 v u2 u3 u4 u5 w'' := by
  have h6 : L 6 = false := by
    cases e : L 6 with
    | false => rfl
    | true => rw [(h.o6 e).1] at hL; cases hL
  refine ⟨kl h.a0 rfl, fun _ => hv, kl h.a2 rfl, kl (fun e => hP _ _ _ (h.a3 e) hb) rfl, ?_, ?_, h.ne, ?_, h.o7, h.be.trans (hb.mono h.be.size)⟩
  · intro e
    obtain ⟨b, c, e1, e2, e3, e4, _⟩ := h.a4 e
    exact ⟨b, c, e1, e2, (hb.block b (blk e3)).trans e3, e4, fun e6 => by
      have e6' : L 6 = true := e6
      rw [h6] at e6'; cases e6'⟩
  · intro e
    obtain ⟨b, c, e1, e2, e3, e4, e5⟩ := h.a5 e
    exact ⟨b, c, e1, e2, (hb.block b (blk e3)).trans e3, e4, e5⟩
  · intro e6
    have e6' : L 6 = true := e6
    rw [h6] at e6'; cases e6'
theorem Tw.call3 (h : Tw P TY SZ dv W L u0 u1 u2 u3 u4 u5 w') (hL : L 3 = false) (hv : P v w'') (hb : Below w'.heap.size w' w'') (hP : ∀ v w' w'', P v w' → Below w'.heap.size w' w'' → P v w'') : Tw P TY SZ dv W (fun j => j == 3 || L j) u0 u1 u2 v u4 u5 w'' := by
  have h7 : L 7 = false := by
    cases e : L 7 with
    | false => rfl
    | true => rw [(h.o7 e).1] at hL; cases hL
  refine ⟨kl h.a0 rfl, kl (fun e => hP _ _ _ (h.a1 e) hb) rfl, kl h.a2 rfl, fun _ => hv, ?_, ?_, h.ne, h.o6, ?_, h.be.trans (hb.mono h.be.size)⟩
  · intro e
    obtain ⟨b, c, e1, e2, e3, e4, e5⟩ := h.a4 e
    exact ⟨b, c, e1, e2, (hb.block b (blk e3)).trans e3, e4, e5⟩
  · intro e
    obtain ⟨b, c, e1, e2, e3, e4, _⟩ := h.a5 e
    exact ⟨b, c, e1, e2, (hb.block b (blk e3)).trans e3, e4, fun e7 => by
      have e7' : L 7 = true := e7
      rw [h7] at e7'; cases e7'⟩
  · intro e7
    have e7' : L 7 = true := e7
    rw [h7] at e7'; cases e7'
theorem Tw.alloc4 (h : Tw P TY SZ dv W L u0 u1 u2 u3 u4 u5 w') (hL : L 4 = false) {Z : Array Value} (hz : Z.size = SZ) (hP : ∀ v w' w'', P v w' → Below w'.heap.size w' w'' → P v w'') : Tw P TY SZ dv W (fun j => j == 4 || L j) u0 u1 u2 u3 (.pointer (some ⟨w'.heap.size, 0, none⟩)) u5 (w'.alloc (.cells Z TY)) := by
  have h6 : L 6 = false := by
    cases e : L 6 with
    | false => rfl
    | true => rw [(h.o6 e).2] at hL; cases hL
  have hb : Below w'.heap.size w' (w'.alloc (.cells Z TY)) := (Below.refl _ _).alloc (Nat.le_refl _) _
  refine ⟨kl h.a0 rfl, kl (fun e => hP _ _ _ (h.a1 e) hb) rfl, kl h.a2 rfl, kl (fun e => hP _ _ _ (h.a3 e) hb) rfl, ?_, ?_, ?_, ?_, ?_, h.be.trans (hb.mono h.be.size)⟩
  · exact fun _ => ⟨_, Z, rfl, h.be.size, heap_alloc_new _ _, hz, fun e6 => by
      have e6' : L 6 = true := e6
      rw [h6] at e6'; cases e6'⟩
  · intro e
    obtain ⟨b, c, e1, e2, e3, e4, e5⟩ := h.a5 e
    exact ⟨b, c, e1, e2, (hb.block b (blk e3)).trans e3, e4, e5⟩
  · intro _ e
    obtain ⟨b, c, e1, _, e3, _⟩ := h.a5 e
    rw [e1]
    intro he
    injection he with he
    injection he with he
    injection he with he
    have := blk e3
    omega
  · intro e6
    have e6' : L 6 = true := e6
    rw [h6] at e6'; cases e6'
  · intro e7
    exact ⟨by simpa using (h.o7 e7).1, by simpa using (h.o7 e7).2⟩
theorem Tw.alloc5 (h : Tw P TY SZ dv W L u0 u1 u2 u3 u4 u5 w') (hL : L 5 = false) {Z : Array Value} (hz : Z.size = SZ) (hP : ∀ v w' w'', P v w' → Below w'.heap.size w' w'' → P v w'') : Tw P TY SZ dv W (fun j => j == 5 || L j) u0 u1 u2 u3 u4 (.pointer (some ⟨w'.heap.size, 0, none⟩)) (w'.alloc (.cells Z TY)) := by
  have h7 : L 7 = false := by
    cases e : L 7 with
    | false => rfl
    | true => rw [(h.o7 e).2] at hL; cases hL
  have hb : Below w'.heap.size w' (w'.alloc (.cells Z TY)) := (Below.refl _ _).alloc (Nat.le_refl _) _
  refine ⟨kl h.a0 rfl, kl (fun e => hP _ _ _ (h.a1 e) hb) rfl, kl h.a2 rfl, kl (fun e => hP _ _ _ (h.a3 e) hb) rfl, ?_, ?_, ?_, ?_, ?_, h.be.trans (hb.mono h.be.size)⟩
  · intro e
    obtain ⟨b, c, e1, e2, e3, e4, e5⟩ := h.a4 e
    exact ⟨b, c, e1, e2, (hb.block b (blk e3)).trans e3, e4, e5⟩
  · exact fun _ => ⟨_, Z, rfl, h.be.size, heap_alloc_new _ _, hz, fun e7 => by
      have e7' : L 7 = true := e7
      rw [h7] at e7'; cases e7'⟩
  · intro e _
    obtain ⟨b, c, e1, _, e3, _⟩ := h.a4 e
    rw [e1]
    intro he
    injection he with he
    injection he with he
    injection he with he
    have := blk e3
    omega
  · intro e6
    exact ⟨by simpa using (h.o6 e6).1, by simpa using (h.o6 e6).2⟩
  · intro e7
    have e7' : L 7 = true := e7
    rw [h7] at e7'; cases e7'
theorem row_below {B b : Nat} {w w' : World} (h : Below B w w') (hb : B ≤ b) (c : Array Value) : Below B w (w'.setRow b c) :=
  ⟨h.os, h.tape, h.output, by simpa using h.size, fun k hk => (setRow_other w' b k c (by omega)).trans (h.block k hk)⟩
theorem Tw.store6 (h : Tw P TY SZ dv W L u0 u1 u2 u3 u4 u5 w') (h1 : L 1 = true) (h4 : L 4 = true) {b : Nat} {c c0 : Array Value} (e4 : u4 = .pointer (some ⟨b, 0, none⟩)) (e1 : u1 = .agg c) (hb : w'.heap[b]? = some (.cells c0 TY (0, 0))) (hc : c.size = SZ)
    (hP : ∀ v w' b c0 c, P v w' → w'.heap[b]? = some (.cells c0 TY (0, 0)) → P v (w'.setRow b c)) : Tw P TY SZ dv W (fun j => j == 6 || L j) u0 u1 u2 u3 u4 u5 (w'.setRow b c) := by
  refine ⟨kl h.a0 rfl, kl (fun e => hP _ _ _ _ _ (h.a1 e) hb) rfl, kl h.a2 rfl, kl (fun e => hP _ _ _ _ _ (h.a3 e) hb) rfl, ?_, ?_, h.ne, ?_, ?_, ?_⟩
  · intro e
    obtain ⟨b', c', f1, f2, _⟩ := h.a4 h4
    rw [e4] at f1
    injection f1 with f1
    injection f1 with f1
    injection f1 with f1
    subst f1
    exact ⟨b, c, e4, f2, setRow_heap _ _ _ _ _ _ hb, hc, fun _ => e1⟩
  · intro e
    obtain ⟨b', c', f1, f2, f3, f4, f5⟩ := h.a5 e
    have hne : b' ≠ b := by
      rintro rfl
      exact h.ne h4 e (by rw [e4, f1])
    exact ⟨b', c', f1, f2, (setRow_other _ _ _ _ hne).trans f3, f4, f5⟩
  · exact fun _ => ⟨by simpa using h1, by simpa using h4⟩
  · intro e7
    exact ⟨by simpa using (h.o7 e7).1, by simpa using (h.o7 e7).2⟩
  · obtain ⟨b', c', f1, f2, _⟩ := h.a4 h4
    rw [e4] at f1
    injection f1 with f1
    injection f1 with f1
    injection f1 with f1
    subst f1
    exact row_below h.be f2 c
theorem Tw.store7 (h : Tw P TY SZ dv W L u0 u1 u2 u3 u4 u5 w') (h3 : L 3 = true) (h5 : L 5 = true) {b : Nat} {c c0 : Array Value} (e5 : u5 = .pointer (some ⟨b, 0, none⟩)) (e3 : u3 = .agg c) (hb : w'.heap[b]? = some (.cells c0 TY (0, 0))) (hc : c.size = SZ)
    (hP : ∀ v w' b c0 c, P v w' → w'.heap[b]? = some (.cells c0 TY (0, 0)) → P v (w'.setRow b c)) : Tw P TY SZ dv W (fun j => j == 7 || L j) u0 u1 u2 u3 u4 u5 (w'.setRow b c) := by
  refine ⟨kl h.a0 rfl, kl (fun e => hP _ _ _ _ _ (h.a1 e) hb) rfl, kl h.a2 rfl, kl (fun e => hP _ _ _ _ _ (h.a3 e) hb) rfl, ?_, ?_, h.ne, ?_, ?_, ?_⟩
  · intro e
    obtain ⟨b', c', f1, f2, f3, f4, f5⟩ := h.a4 e
    have hne : b' ≠ b := by
      rintro rfl
      exact h.ne e h5 (by rw [e5, f1])
    exact ⟨b', c', f1, f2, (setRow_other _ _ _ _ hne).trans f3, f4, f5⟩
  · intro e
    obtain ⟨b', c', f1, f2, _⟩ := h.a5 h5
    rw [e5] at f1
    injection f1 with f1
    injection f1 with f1
    injection f1 with f1
    subst f1
    exact ⟨b, c, e5, f2, setRow_heap _ _ _ _ _ _ hb, hc, fun _ => e3⟩
  · intro e6
    exact ⟨by simpa using (h.o6 e6).1, by simpa using (h.o6 e6).2⟩
  · exact fun _ => ⟨by simpa using h3, by simpa using h5⟩
  · obtain ⟨b', c', f1, f2, _⟩ := h.a5 h5
    rw [e5] at f1
    injection f1 with f1
    injection f1 with f1
    injection f1 with f1
    subst f1
    exact row_below h.be f2 c
/-- all done -/
theorem Tw.fin (h : Tw P TY SZ dv W L u0 u1 u2 u3 u4 u5 w') (hL : ∀ i, i < 8 → L i = true) : ∃ bA cA bB cB, u4 = .pointer (some ⟨bA, 0, none⟩) ∧ u5 = .pointer (some ⟨bB, 0, none⟩) ∧ W.heap.size ≤ bA ∧ W.heap.size ≤ bB ∧ bA ≠ bB ∧ w'.heap[bA]? = some (.cells cA TY (0, 0)) ∧ w'.heap[bB]? = some (.cells cB TY (0, 0)) ∧ P (.agg cA) w' ∧ P (.agg cB) w' ∧ Below W.heap.size W w' := by
  obtain ⟨bA, cA, e1, e2, e3, _, e5⟩ := h.a4 (hL 4 (by omega))
  obtain ⟨bB, cB, f1, f2, f3, _, f5⟩ := h.a5 (hL 5 (by omega))
  have p := h.a1 (hL 1 (by omega))
  have q := h.a3 (hL 3 (by omega))
  rw [e5 (hL 6 (by omega))] at p
  rw [f5 (hL 7 (by omega))] at q
  refine ⟨bA, cA, bB, cB, e1, f1, e2, f2, ?_, e3, f3, p, q, h.be⟩
  rintro rfl
  exact h.ne (hL 4 (by omega)) (hL 5 (by omega)) (by rw [e1, f1])
end

/-- what lies in a block of another type is in another block -/
theorem owns_row {w : World} {base : Nat} {e TY : TypeId} {k n b : Nat} {v : Value} {xs : List Value} {c0 : Array Value} (h : w.ownsRow base e k v n xs) (hb : w.heap[b]? = some (.cells c0 TY (0, 0))) (hne : TY ≠ e) (c : Array Value) : (w.setRow b c).ownsRow base e k v n xs :=
  h.kept (row := some b) ⟨rfl, rfl, rfl, by simp, fun i _ hr => setRow_other _ _ _ _ (by simpa using hr)⟩ (by
    rcases h.2 with ⟨hv, _⟩ | ⟨g, cap, cur, hv, _, hc, _⟩
    · rw [hv]; exact .inl rfl
    · rw [hv]
      refine .inr fun e' => ?_
      injection e' with e'
      have e'' : g = b := e'
      subst e''
      rw [hb] at hc
      injection hc with hc
      injection hc with _ hc
      exact hne hc)
end TwS
namespace Sp
open Go.RowKit Dk Eqb Byt
/-- a copy of a space -/
def CopS (base : Nat) (A B Z : Int) (n : Nat) (f : Nat → Int) (v : Value) (w : World) : Prop := ∃ ao cap, v = .agg #[.int .i64 A, .int .i64 B, .int .i64 Z, .slice ao n cap] ∧ OwnS w base ao n cap f
theorem CopS.below {base : Nat} {A B Z : Int} {n : Nat} {f : Nat → Int} {v : Value} {w w' : World} (h : CopS base A B Z n f v w) (hb : Below w.heap.size w w') : CopS base A B Z n f v w' := by
  obtain ⟨ao, cap, e, ho⟩ := h
  exact ⟨ao, cap, e, ho.below hb⟩
theorem CopS.row {base : Nat} {A B Z : Int} {n b : Nat} {f : Nat → Int} {v : Value} {w : World} {c0 : Array Value} (h : CopS base A B Z n f v w) (hb : w.heap[b]? = some (.cells c0 26 (0, 0))) (c : Array Value) : CopS base A B Z n f v (w.setRow b c) := by
  obtain ⟨ao, cap, e, ho⟩ := h
  exact ⟨ao, cap, e, TwS.owns_row ho hb (by decide) c⟩
theorem OwnS.more {w : World} {base base' : Nat} {ao : Option Addr} {n cap : Nat} {f : Nat → Int} (h : OwnS w base ao n cap f) (hb : base' ≤ base) : OwnS w base' ao n cap f := by
  refine ⟨h.1, ?_⟩
  rcases h.2 with h2 | ⟨g, cap, cur, hv, hb', h5⟩
  · exact .inl h2
  · exact .inr ⟨g, cap, cur, hv, by omega, h5⟩
theorem sp_one (A B Z : Int) (ao : Option Addr) (n cap : Nat) : (#[.int .i64 A, .int .i64 B, .int .i64 Z, .slice ao n cap] : Array Value).all (·.oneCell') = true := by simp [Value.oneCell']
/-- such a copy, laid -/
theorem CopS.laid {base : Nat} {A B Z : Int} {n b : Nat} {f : Nat → Int} {c : Array Value} {w : World} (h : CopS base A B Z n f (.agg c) w) (hb : w.heap[b]? = some (.cells c 26 (0, 0))) (hf : ∀ i, i < n → 0 ≤ f i ∧ f i < 256) (hn : n ≤ 140737488355328) : ∃ ao cap, Bs w b A B Z ao n cap ∧ St w w.heap.size ao n cap f := by
  obtain ⟨ao, cap, e, ho⟩ := h
  injection e with e
  subst e
  exact ⟨ao, cap, hb, ho.st hf hn⟩
end Sp
end Go.Proofs.Ytdbmdocmnhgbpaa
