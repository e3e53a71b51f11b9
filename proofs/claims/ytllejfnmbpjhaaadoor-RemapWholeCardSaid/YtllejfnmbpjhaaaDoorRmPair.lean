/- remap: two disks with their tables, of which one pair is turned, then the other. -/
import Derived.Test.YtllejfnmbpjhaaaDoorRmTab
namespace Go.Proofs.YtllejfnmbpjhaaaDoor
set_option maxRecDepth 20000
namespace Rm
open Go.RowKit Dk Byt

theorem far2 {w w' : World} {B g : Nat} {ao : Option Addr} {n cap k : Nat} {T : Nat → List Value} (h : Lay w B g ao n cap k T) (hk : ∀ i, i < n → (T i).length = k) (hk4 : 4 < k) {q1 q2 : Nat} {c1 c2 : Array Value} {t1 t2 : TypeId} {f1 f2 : Nat × Nat} (h1 : w.heap[q1]? = some (.cells c1 t1 f1)) (s1 : c1.size ≤ 4) (h2 : w.heap[q2]? = some (.cells c2 t2 f2)) (s2 : c2.size ≤ 4) (hT : Two w w' q1 q2) (hB : B ≤ w.heap.size) : Lay w' B g ao n cap k T := by
  refine ⟨h.room, h.nil, ?_⟩
  rcases h.rows with h0 | ⟨b, off, e, hb, hne, hr⟩
  · exact .inl h0
  · rcases Nat.eq_zero_or_pos n with h0 | h0
    · exact .inl h0
    · have no : ∀ {q : Nat} {c : Array Value} {t : TypeId} {f : Nat × Nat}, w.heap[q]? = some (.cells c t f) → c.size ≤ 4 → b ≠ q := by
        rintro q c t f hq hs rfl
        have hl := hk 0 h0
        have h4 : 4 < (T 0).length := by omega
        have := hr 0 h0 4 _ (List.getElem?_eq_getElem h4)
        rw [cell_of_row w b _ c t f hq, Array.getElem?_eq_none (by omega)] at this
        cases this
      exact .inr ⟨b, off, e, hb, hne, fun i hi j v hv => (World.cell?_of_block (w := w) (hT.block b (by omega) (no h1 s1) (no h2 s2))).trans (hr i hi j v hv)⟩
theorem HasD.two {w w' : World} {g n q1 q2 : Nat} {X : Dst} (h : HasD w g n X) {c1 c2 : Array Value} {t1 t2 : TypeId} {f1 f2 : Nat × Nat} (h1 : w.heap[q1]? = some (.cells c1 t1 f1)) (s1 : c1.size ≤ 4) (h2 : w.heap[q2]? = some (.cells c2 t2 f2)) (s2 : c2.size ≤ 4) (hT : Two w w' q1 q2) (n1 : g ≠ q1) (n2 : g ≠ q2) : HasD w' g n X := by
  obtain ⟨sa, sc, ca, cc, hh⟩ := h
  exact ⟨sa, sc, ca, cc, hh.bx.block (hT.block g hh.bx.lt n1 n2), (far2 hh.ss (fun i _ => secV_length _) (by omega) h1 s1 h2 s2 hT (Nat.le_refl _)).more hT.size, (far2 hh.cs (fun i _ => wrV_length _) (by omega) h1 s1 h2 s2 hT (Nat.le_refl _)).more hT.size, hh.nb, hh.mb⟩
theorem HasD.box {w : World} {g n : Nat} {X : Dst} (h : HasD w g n X) : ∃ c t f, w.heap[g]? = some (.cells c t f) ∧ c.size = 4 ∧ NoTwo c := by
  obtain ⟨sa, sc, ca, cc, hh⟩ := h
  exact ⟨_, _, _, hh.bx, rfl, noTwo_disk _ _ _ _ _ _ _ _⟩
theorem HasT.box {w : World} {b g : Nat} {M : Tab} (h : HasT w b g M) : ∃ c t f, w.heap[b]? = some (.cells c t f) ∧ c.size = 2 ∧ NoTwo c := by
  obtain ⟨pa, cap, hb, _⟩ := h
  exact ⟨_, _, _, hb, rfl, noTwo_tab _ _ _ _⟩
theorem box_ne {w : World} {a b : Nat} {c d : Array Value} {t t' : TypeId} {f f' : Nat × Nat} (h1 : w.heap[a]? = some (.cells c t f)) (h2 : w.heap[b]? = some (.cells d t' f')) (hs : c.size ≠ d.size) : a ≠ b := by
  rintro rfl
  rw [h1] at h2
  injection h2 with h2
  injection h2 with h2
  exact hs (by rw [h2])

/-- two disks with their tables -/
structure Pr (bA bP bB bQ n : Nat) (X Y : Dst) (M N : Tab) (w0 w' : World) : Prop where
  a : HasD w' bA n X
  p : HasT w' bP bA M
  b : HasD w' bB n Y
  q : HasT w' bQ bB N
  be : Below w0.heap.size w0 w'
  la : w0.heap.size ≤ bA
  lp : w0.heap.size ≤ bP
  lb : w0.heap.size ≤ bB
  lq : w0.heap.size ≤ bQ
  ab : bA ≠ bB
  pq : bP ≠ bQ
section
variable {bA bP bB bQ n : Nat} {X Y X' Y' : Dst} {M N M' N' : Tab} {w0 w' w'' : World}
theorem Pr.ap (h : Pr bA bP bB bQ n X Y M N w0 w') : bA ≠ bP ∧ bA ≠ bQ ∧ bB ≠ bP ∧ bB ≠ bQ := by
  obtain ⟨_, _, _, a1, a2, _⟩ := h.a.box
  obtain ⟨_, _, _, p1, p2, _⟩ := h.p.box
  obtain ⟨_, _, _, b1, b2, _⟩ := h.b.box
  obtain ⟨_, _, _, q1, q2, _⟩ := h.q.box
  exact ⟨box_ne a1 p1 (by omega), box_ne a1 q1 (by omega), box_ne b1 p1 (by omega), box_ne b1 q1 (by omega)⟩
theorem Pr.one (h : Pr bA bP bB bQ n X Y M N w0 w') (hT : Two w' w'' bA bP) (hD : HasD w'' bA n X') (hM : HasT w'' bP bA M') : Pr bA bP bB bQ n X' Y M' N w0 w'' := by
  obtain ⟨d1, d2, d3, d4⟩ := h.ap
  obtain ⟨_, _, _, a1, a2, a3⟩ := h.a.box
  obtain ⟨_, _, _, p1, p2, p3⟩ := h.p.box
  obtain ⟨_, _, _, b1, b2, b3⟩ := h.b.box
  refine ⟨hD, hM, h.b.two a1 (by omega) p1 (by omega) hT h.ab.symm d3, h.q.apart a1 p1 a3 p3 d2.symm h.pq.symm hT b1 b3, ?_, h.la, h.lp, h.lb, h.lq, h.ab, h.pq⟩
  exact ⟨hT.os.trans h.be.os, hT.tape.trans h.be.tape, hT.output.trans h.be.output, Nat.le_trans h.be.size hT.size, fun k hk => (hT.block k (Nat.lt_of_lt_of_le hk h.be.size) (by have := h.la; omega) (by have := h.lp; omega)).trans (h.be.block k hk)⟩
theorem Pr.flip (h : Pr bA bP bB bQ n X Y M N w0 w') : Pr bB bQ bA bP n Y X N M w0 w' := ⟨h.b, h.q, h.a, h.p, h.be, h.lb, h.lq, h.la, h.lp, h.ab.symm, h.pq.symm⟩
theorem Pr.two (h : Pr bA bP bB bQ n X Y M N w0 w') (hT : Two w' w'' bB bQ) (hD : HasD w'' bB n Y') (hM : HasT w'' bQ bB N') : Pr bA bP bB bQ n X Y' M N' w0 w'' := (h.flip.one hT hD hM).flip
theorem Pr.below (h : Pr bA bP bB bQ n X Y M N w0 w') (hb : Below w'.heap.size w' w'') : Pr bA bP bB bQ n X Y M N w0 w'' := by
  have keep : ∀ {b g : Nat} {M : Tab}, HasT w' b g M → HasT w'' b g M := by
    rintro b g M ⟨pa, cap, h1, h2⟩
    exact ⟨pa, cap, (hb.block b (Array.getElem?_eq_some_iff.1 h1).1).trans h1, (h2.below hb).more hb.size⟩
  exact ⟨h.a.below hb, keep h.p, h.b.below hb, keep h.q, h.be.trans (hb.mono h.be.size), h.la, h.lp, h.lb, h.lq, h.ab, h.pq⟩
/-- .. while two calls turn the one pair, then the other -/
structure PrW (bA bP bB bQ n : Nat) (X X' : Dst) (M M' : Tab) (w0 : World) (c d : Bool) (w' : World) : Prop where
  ord : d = true → c = true
  be : Below w0.heap.size w0 w'
  s0 : c = false → Pr bA bP bB bQ n X X M M w0 w'
  s1 : c = true → d = false → Pr bA bP bB bQ n X' X M' M w0 w'
  s2 : d = true → Pr bA bP bB bQ n X' X' M' M' w0 w'
theorem PrW.start (h : Pr bA bP bB bQ n X X M M w0 w') : PrW bA bP bB bQ n X X' M M' w0 false false w' :=
  ⟨fun e => (by cases e), h.be, fun _ => h, fun e => (by cases e), fun e => (by cases e)⟩
theorem PrW.one (h : PrW bA bP bB bQ n X X' M M' w0 false false w') (hT : Two w' w'' bA bP) (hD : HasD w'' bA n X') (hM : HasT w'' bP bA M') : PrW bA bP bB bQ n X X' M M' w0 true false w'' := by
  have s := (h.s0 rfl).one hT hD hM
  exact ⟨fun e => (by cases e), s.be, fun e => (by cases e), fun _ _ => s, fun e => (by cases e)⟩
theorem PrW.two (h : PrW bA bP bB bQ n X X' M M' w0 true false w') (hT : Two w' w'' bB bQ) (hD : HasD w'' bB n X') (hM : HasT w'' bQ bB M') : PrW bA bP bB bQ n X X' M M' w0 true true w'' := by
  have s := (h.s1 rfl rfl).two hT hD hM
  exact ⟨fun _ => rfl, s.be, fun e => (by cases e), fun _ e => (by cases e), fun _ => s⟩
end
theorem wRes_k (n : Nat) (X : Dst) (M : Tab) (x : Int) (V : Nat → Int) : (wRes n X M x V).2.2.k ≤ M.k + 1 := by
  have h : (wN n X M x V).k ≤ M.k + 1 := by
    show rpK M.F M.k x ≤ M.k + 1
    unfold rpK
    split <;> omega
  unfold wRes
  repeat (first | split | (show M.k ≤ M.k + 1; omega) | exact h)
end Rm
end Go.Proofs.YtllejfnmbpjhaaaDoor
