/- Two copies of unlike things into two new variables, in whatever order (x, p := Copy(d), Copy(m)): what holds at each moment. -/
import Derived.Test.YtllejfnmbpjhaaaDoorTwin
namespace Go.Proofs.YtllejfnmbpjhaaaDoor
set_option maxRecDepth 20000
namespace Mix
open Go.RowKit Dk Go.Proofs.YtllejfnmbpjhaaaDoor.Twin

/-- u0, u2: the value that is copied; u1, u3: the copies; u4, u5: the new variables -/
structure Mx (P Q : Value → World → Prop) (TY TZ : TypeId) (SZ SY : Nat) (dv ev : Value) (W : World) (L : Nat → Bool) (u0 u1 u2 u3 u4 u5 : Value) (w' : World) : Prop where
  a0 : L 0 = true → u0 = dv
  a1 : L 1 = true → P u1 w'
  a2 : L 2 = true → u2 = ev
  a3 : L 3 = true → Q u3 w'
  a4 : L 4 = true → ∃ b c, u4 = .pointer (some ⟨b, 0, none⟩) ∧ W.heap.size ≤ b ∧ w'.heap[b]? = some (.cells c TY (0, 0)) ∧ c.size = SZ ∧ (L 6 = true → u1 = .agg c)
  a5 : L 5 = true → ∃ b c, u5 = .pointer (some ⟨b, 0, none⟩) ∧ W.heap.size ≤ b ∧ w'.heap[b]? = some (.cells c TZ (0, 0)) ∧ c.size = SY ∧ (L 7 = true → u3 = .agg c)
  ne : L 4 = true → L 5 = true → u4 ≠ u5
  o6 : L 6 = true → L 1 = true ∧ L 4 = true
  o7 : L 7 = true → L 3 = true ∧ L 5 = true
  be : Below W.heap.size W w'
section
variable {P Q : Value → World → Prop} {TY TZ : TypeId} {SZ SY : Nat} {dv ev : Value} {W : World} {L : Nat → Bool} {u0 u1 u2 u3 u4 u5 v : Value} {w' w'' : World}
theorem Mx.start : Mx P Q TY TZ SZ SY dv ev W (fun _ => false) u0 u1 u2 u3 u4 u5 { W with drawn := W.drawn + 1 } := by
  constructor <;> first | exact ⟨rfl, rfl, rfl, Nat.le_refl _, fun _ _ => rfl⟩ | simp
theorem Mx.load0 (h : Mx P Q TY TZ SZ SY dv ev W L u0 u1 u2 u3 u4 u5 w') : Mx P Q TY TZ SZ SY dv ev W (fun j => j == 0 || L j) dv u1 u2 u3 u4 u5 w' :=
  ⟨fun _ => rfl, kl h.a1 rfl, kl h.a2 rfl, kl h.a3 rfl, kl h.a4 rfl, kl h.a5 rfl, h.ne, h.o6, h.o7, h.be⟩
theorem Mx.load2 (h : Mx P Q TY TZ SZ SY dv ev W L u0 u1 u2 u3 u4 u5 w') : Mx P Q TY TZ SZ SY dv ev W (fun j => j == 2 || L j) u0 u1 ev u3 u4 u5 w' :=
  ⟨kl h.a0 rfl, kl h.a1 rfl, fun _ => rfl, kl h.a3 rfl, kl h.a4 rfl, kl h.a5 rfl, h.ne, h.o6, h.o7, h.be⟩
theorem Mx.call1 (h : Mx P Q TY TZ SZ SY dv ev W L u0 u1 u2 u3 u4 u5 w') (hL : L 1 = false) (hv : P v w'') (hb : Below w'.heap.size w' w'') (_ : ∀ v w' w'', P v w' → Below w'.heap.size w' w'' → P v w'') (hQ : ∀ v w' w'', Q v w' → Below w'.heap.size w' w'' → Q v w'') : Mx P Q TY TZ SZ SY dv ev W (fun j => j == 1 || L j) u0 v u2 u3 u4 u5 w'' := by
  have h6 : L 6 = false := by
    cases e : L 6 with
    | false => rfl
    | true => rw [(h.o6 e).1] at hL; cases hL
  refine ⟨kl h.a0 rfl, fun _ => hv, kl h.a2 rfl, kl (fun e => hQ _ _ _ (h.a3 e) hb) rfl, ?_, ?_, h.ne, ?_, h.o7, h.be.trans (hb.mono h.be.size)⟩
  · intro e
    obtain ⟨b, c, e1, e2, e3, e4, _⟩ := h.a4 e
    exact ⟨b, c, e1, e2, (hb.block b (blk e3)).trans e3, e4, fun e6 => by
      have e6' : L 6 = true := e6
      rw [h6] at e6'; cases e6'⟩
  · intro e
    obtain ⟨b, c, e1, e2, e3, e4, e5⟩ := h.a5 e
    exact ⟨b, c, e1, e2, (hb.block b (blk e3)).trans e3, e4, e5⟩
  · intro e6
    have e6' : L 6 = true := e6
    rw [h6] at e6'; cases e6'
theorem Mx.call3 (h : Mx P Q TY TZ SZ SY dv ev W L u0 u1 u2 u3 u4 u5 w') (hL : L 3 = false) (hv : Q v w'') (hb : Below w'.heap.size w' w'') (hP : ∀ v w' w'', P v w' → Below w'.heap.size w' w'' → P v w'') (_ : ∀ v w' w'', Q v w' → Below w'.heap.size w' w'' → Q v w'') : Mx P Q TY TZ SZ SY dv ev W (fun j => j == 3 || L j) u0 u1 u2 v u4 u5 w'' := by
  have h7 : L 7 = false := by
    cases e : L 7 with
    | false => rfl
    | true => rw [(h.o7 e).1] at hL; cases hL
  refine ⟨kl h.a0 rfl, kl (fun e => hP _ _ _ (h.a1 e) hb) rfl, kl h.a2 rfl, fun _ => hv, ?_, ?_, h.ne, h.o6, ?_, h.be.trans (hb.mono h.be.size)⟩
  · intro e
    obtain ⟨b, c, e1, e2, e3, e4, e5⟩ := h.a4 e
    exact ⟨b, c, e1, e2, (hb.block b (blk e3)).trans e3, e4, e5⟩
  · intro e
    obtain ⟨b, c, e1, e2, e3, e4, _⟩ := h.a5 e
    exact ⟨b, c, e1, e2, (hb.block b (blk e3)).trans e3, e4, fun e7 => by
      have e7' : L 7 = true := e7
      rw [h7] at e7'; cases e7'⟩
  · intro e7
    have e7' : L 7 = true := e7
    rw [h7] at e7'; cases e7'
theorem Mx.alloc4 (h : Mx P Q TY TZ SZ SY dv ev W L u0 u1 u2 u3 u4 u5 w') (hL : L 4 = false) {Z : Array Value} (hz : Z.size = SZ) (hP : ∀ v w' w'', P v w' → Below w'.heap.size w' w'' → P v w'') (hQ : ∀ v w' w'', Q v w' → Below w'.heap.size w' w'' → Q v w'') : Mx P Q TY TZ SZ SY dv ev W (fun j => j == 4 || L j) u0 u1 u2 u3 (.pointer (some ⟨w'.heap.size, 0, none⟩)) u5 (w'.alloc (.cells Z TY)) := by
  have h6 : L 6 = false := by
    cases e : L 6 with
    | false => rfl
    | true => rw [(h.o6 e).2] at hL; cases hL
  have hb : Below w'.heap.size w' (w'.alloc (.cells Z TY)) := (Below.refl _ _).alloc (Nat.le_refl _) _
  refine ⟨kl h.a0 rfl, kl (fun e => hP _ _ _ (h.a1 e) hb) rfl, kl h.a2 rfl, kl (fun e => hQ _ _ _ (h.a3 e) hb) rfl, ?_, ?_, ?_, ?_, ?_, h.be.trans (hb.mono h.be.size)⟩
  · exact fun _ => ⟨_, Z, rfl, h.be.size, heap_alloc_new _ _, hz, fun e6 => by
      have e6' : L 6 = true := e6
      rw [h6] at e6'; cases e6'⟩
  · intro e
    obtain ⟨b, c, e1, e2, e3, e4, e5⟩ := h.a5 e
    exact ⟨b, c, e1, e2, (hb.block b (blk e3)).trans e3, e4, e5⟩
  · intro _ e
    obtain ⟨b, c, e1, _, e3, _⟩ := h.a5 e
    rw [e1]
    intro he
    injection he with he
    injection he with he
    injection he with he
    have := blk e3
    omega
  · intro e6
    have e6' : L 6 = true := e6
    rw [h6] at e6'; cases e6'
  · intro e7
    exact ⟨by simpa using (h.o7 e7).1, by simpa using (h.o7 e7).2⟩
theorem Mx.alloc5 (h : Mx P Q TY TZ SZ SY dv ev W L u0 u1 u2 u3 u4 u5 w') (hL : L 5 = false) {Z : Array Value} (hz : Z.size = SY) (hP : ∀ v w' w'', P v w' → Below w'.heap.size w' w'' → P v w'') (hQ : ∀ v w' w'', Q v w' → Below w'.heap.size w' w'' → Q v w'') : Mx P Q TY TZ SZ SY dv ev W (fun j => j == 5 || L j) u0 u1 u2 u3 u4 (.pointer (some ⟨w'.heap.size, 0, none⟩)) (w'.alloc (.cells Z TZ)) := by
  have h7 : L 7 = false := by
    cases e : L 7 with
    | false => rfl
    | true => rw [(h.o7 e).2] at hL; cases hL
  have hb : Below w'.heap.size w' (w'.alloc (.cells Z TZ)) := (Below.refl _ _).alloc (Nat.le_refl _) _
  refine ⟨kl h.a0 rfl, kl (fun e => hP _ _ _ (h.a1 e) hb) rfl, kl h.a2 rfl, kl (fun e => hQ _ _ _ (h.a3 e) hb) rfl, ?_, ?_, ?_, ?_, ?_, h.be.trans (hb.mono h.be.size)⟩
  · intro e
    obtain ⟨b, c, e1, e2, e3, e4, e5⟩ := h.a4 e
    exact ⟨b, c, e1, e2, (hb.block b (blk e3)).trans e3, e4, e5⟩
  · exact fun _ => ⟨_, Z, rfl, h.be.size, heap_alloc_new _ _, hz, fun e7 => by
      have e7' : L 7 = true := e7
      rw [h7] at e7'; cases e7'⟩
  · intro e _
    obtain ⟨b, c, e1, _, e3, _⟩ := h.a4 e
    rw [e1]
    intro he
    injection he with he
    injection he with he
    injection he with he
    have := blk e3
    omega
  · intro e6
    exact ⟨by simpa using (h.o6 e6).1, by simpa using (h.o6 e6).2⟩
  · intro e7
    have e7' : L 7 = true := e7
    rw [h7] at e7'; cases e7'
theorem Mx.store6 (h : Mx P Q TY TZ SZ SY dv ev W L u0 u1 u2 u3 u4 u5 w') (h1 : L 1 = true) (h4 : L 4 = true) {b : Nat} {c c0 : Array Value} (e4 : u4 = .pointer (some ⟨b, 0, none⟩)) (e1 : u1 = .agg c) (hb : w'.heap[b]? = some (.cells c0 TY (0, 0))) (hc : c.size = SZ)
    (hP : ∀ v w' b c0 c, P v w' → w'.heap[b]? = some (.cells c0 TY (0, 0)) → P v (w'.setRow b c)) (hQ : ∀ v w' b c0 c, Q v w' → w'.heap[b]? = some (.cells c0 TY (0, 0)) → Q v (w'.setRow b c)) : Mx P Q TY TZ SZ SY dv ev W (fun j => j == 6 || L j) u0 u1 u2 u3 u4 u5 (w'.setRow b c) := by
  refine ⟨kl h.a0 rfl, kl (fun e => hP _ _ _ _ _ (h.a1 e) hb) rfl, kl h.a2 rfl, kl (fun e => hQ _ _ _ _ _ (h.a3 e) hb) rfl, ?_, ?_, h.ne, ?_, ?_, ?_⟩
  · intro e
    obtain ⟨b', c', f1, f2, _⟩ := h.a4 h4
    rw [e4] at f1
    injection f1 with f1
    injection f1 with f1
    injection f1 with f1
    subst f1
    exact ⟨b, c, e4, f2, setRow_heap _ _ _ _ _ _ hb, hc, fun _ => e1⟩
  · intro e
    obtain ⟨b', c', f1, f2, f3, f4, f5⟩ := h.a5 e
    have hne : b' ≠ b := by
      rintro rfl
      exact h.ne h4 e (by rw [e4, f1])
    exact ⟨b', c', f1, f2, (setRow_other _ _ _ _ hne).trans f3, f4, f5⟩
  · exact fun _ => ⟨by simpa using h1, by simpa using h4⟩
  · intro e7
    exact ⟨by simpa using (h.o7 e7).1, by simpa using (h.o7 e7).2⟩
  · obtain ⟨b', c', f1, f2, _⟩ := h.a4 h4
    rw [e4] at f1
    injection f1 with f1
    injection f1 with f1
    injection f1 with f1
    subst f1
    exact row_below h.be f2 c
theorem Mx.store7 (h : Mx P Q TY TZ SZ SY dv ev W L u0 u1 u2 u3 u4 u5 w') (h3 : L 3 = true) (h5 : L 5 = true) {b : Nat} {c c0 : Array Value} (e5 : u5 = .pointer (some ⟨b, 0, none⟩)) (e3 : u3 = .agg c) (hb : w'.heap[b]? = some (.cells c0 TZ (0, 0))) (hc : c.size = SY)
    (hP : ∀ v w' b c0 c, P v w' → w'.heap[b]? = some (.cells c0 TZ (0, 0)) → P v (w'.setRow b c)) (hQ : ∀ v w' b c0 c, Q v w' → w'.heap[b]? = some (.cells c0 TZ (0, 0)) → Q v (w'.setRow b c)) : Mx P Q TY TZ SZ SY dv ev W (fun j => j == 7 || L j) u0 u1 u2 u3 u4 u5 (w'.setRow b c) := by
  refine ⟨kl h.a0 rfl, kl (fun e => hP _ _ _ _ _ (h.a1 e) hb) rfl, kl h.a2 rfl, kl (fun e => hQ _ _ _ _ _ (h.a3 e) hb) rfl, ?_, ?_, h.ne, ?_, ?_, ?_⟩
  · intro e
    obtain ⟨b', c', f1, f2, f3, f4, f5⟩ := h.a4 e
    have hne : b' ≠ b := by
      rintro rfl
      exact h.ne e h5 (by rw [e5, f1])
    exact ⟨b', c', f1, f2, (setRow_other _ _ _ _ hne).trans f3, f4, f5⟩
  · intro e
    obtain ⟨b', c', f1, f2, _⟩ := h.a5 h5
    rw [e5] at f1
    injection f1 with f1
    injection f1 with f1
    injection f1 with f1
    subst f1
    exact ⟨b, c, e5, f2, setRow_heap _ _ _ _ _ _ hb, hc, fun _ => e3⟩
  · intro e6
    exact ⟨by simpa using (h.o6 e6).1, by simpa using (h.o6 e6).2⟩
  · exact fun _ => ⟨by simpa using h3, by simpa using h5⟩
  · obtain ⟨b', c', f1, f2, _⟩ := h.a5 h5
    rw [e5] at f1
    injection f1 with f1
    injection f1 with f1
    injection f1 with f1
    subst f1
    exact row_below h.be f2 c
/-- all done -/
theorem Mx.fin (h : Mx P Q TY TZ SZ SY dv ev W L u0 u1 u2 u3 u4 u5 w') (hL : ∀ i, i < 8 → L i = true) : ∃ bA cA bB cB, u4 = .pointer (some ⟨bA, 0, none⟩) ∧ u5 = .pointer (some ⟨bB, 0, none⟩) ∧ W.heap.size ≤ bA ∧ W.heap.size ≤ bB ∧ bA ≠ bB ∧ w'.heap[bA]? = some (.cells cA TY (0, 0)) ∧ w'.heap[bB]? = some (.cells cB TZ (0, 0)) ∧ P (.agg cA) w' ∧ Q (.agg cB) w' ∧ Below W.heap.size W w' := by
  obtain ⟨bA, cA, e1, e2, e3, _, e5⟩ := h.a4 (hL 4 (by omega))
  obtain ⟨bB, cB, f1, f2, f3, _, f5⟩ := h.a5 (hL 5 (by omega))
  have p := h.a1 (hL 1 (by omega))
  have q := h.a3 (hL 3 (by omega))
  rw [e5 (hL 6 (by omega))] at p
  rw [f5 (hL 7 (by omega))] at q
  refine ⟨bA, cA, bB, cB, e1, f1, e2, f2, ?_, e3, f3, p, q, h.be⟩
  rintro rfl
  exact h.ne (hL 4 (by omega)) (hL 5 (by omega)) (by rw [e1, f1])
end

end Mix
end Go.Proofs.YtllejfnmbpjhaaaDoor
