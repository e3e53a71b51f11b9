/- remap: Write. -/
import Derived.Test.YtllejfnmbpjhaaaDoorRmSpare
namespace Go.Proofs.YtllejfnmbpjhaaaDoor
set_option maxRecDepth 20000
namespace Rm
open Go.RowKit Dk Byt

attribute [local go_sem] zv29
attribute [local go_sem] zc29
/-- a table -/
structure Tab where
  gen : Int
  k : Nat
  F : Nat → Int
  T : Nat → Int
def Tab.next (M : Tab) (x to : Int) : Tab := ⟨M.gen + 1, rpK M.F M.k x, rpF M.F M.k x, rpT M.F M.T M.k x to⟩
def wA (M : Tab) (x : Int) : Int := atT M.F M.T M.k x
def w1X (n : Nat) (X : Dst) (M : Tab) (x : Int) (V : Nat → Int) : Dst := dWr n X (wA M x) V
def w2X (n : Nat) (X : Dst) (M : Tab) (x : Int) (V : Nat → Int) : Dst := spX n M.k M.T V (w1X n X M x V)
def w3X (n : Nat) (X : Dst) (M : Tab) (x : Int) (V : Nat → Int) : Dst := dFl n (w2X n X M x V)
def wN (n : Nat) (X : Dst) (M : Tab) (x : Int) (V : Nat → Int) : Tab := M.next x (spTo n M.k M.T V (w1X n X M x V))
def w4E (n : Nat) (X : Dst) (M : Tab) (x : Int) (V : Nat → Int) : Int := lyE n (w3X n X M x V) (wN n X M x V).gen (wN n X M x V).k (wN n X M x V).F (wN n X M x V).T
def w4X (n : Nat) (X : Dst) (M : Tab) (x : Int) (V : Nat → Int) : Dst := lyX n (w3X n X M x V) (wN n X M x V).gen (wN n X M x V).k (wN n X M x V).F (wN n X M x V).T
/-- what a call of Write comes to: the answer, the disk, the table -/
def wRes (n : Nat) (X : Dst) (M : Tab) (x : Int) (V : Nat → Int) : Int × Dst × Tab :=
  if homeB n X M.gen M.k M.F M.T x = false then (1, X, M)
  else if dWrE n X (wA M x) ≠ 2 then (dWrE n X (wA M x), w1X n X M x V, M)
  else if spE n M.k M.T V (w1X n X M x V) ≠ 0 then (spE n M.k M.T V (w1X n X M x V), w2X n X M x V, M)
  else if dFlE n (w2X n X M x V) ≠ 0 then (dFlE n (w2X n X M x V), w3X n X M x V, M)
  else if w4E n X M x V ≠ 0 then (w4E n X M x V, w4X n X M x V, M)
  else if dFlE n (w4X n X M x V) ≠ 0 then (dFlE n (w4X n X M x V), dFl n (w4X n X M x V), M)
  else (0, dFl n (w4X n X M x V), wN n X M x V)
/-- w' is w, but for the blocks g and b, and new memory -/
structure Two (w w' : World) (g b : Nat) : Prop where
  os : w'.os = w.os
  tape : w'.tape = w.tape
  output : w'.output = w.output
  size : w.heap.size ≤ w'.heap.size
  block : ∀ k, k < w.heap.size → k ≠ g → k ≠ b → w'.heap[k]? = w.heap[k]?
theorem Two.of {w w' : World} {g b : Nat} (h : w.grownBy w' (some g)) : Two w w' g b := ⟨h.os, h.tape, h.output, h.size, fun k hk hg _ => h.block k hk (by simpa using hg)⟩
/-- the table in the variable of block b -/
def HasT (w : World) (b g : Nat) (M : Tab) : Prop := ∃ pa cap, w.heap[b]? = some (.cells #[.int .i64 M.gen, .slice pa M.k cap] 26 (0, 0)) ∧ Lay w w.heap.size g pa M.k cap 2 (prV M.F M.T)
def TabOk (M : Tab) : Prop := M.k ≤ 140737488355328 ∧ ∀ i, i < M.k → i64 (M.F i) ∧ i64 (M.T i)
theorem Kp.ne {w : World} {g n : Nat} {X : Dst} (h : Kp w) (hd : HasD w g n X) : g ≠ 0 := by
  obtain ⟨sa, sc, ca, cc, hh⟩ := hd
  intro e
  subst e
  have := hh.bx.c0
  rw [h.1 0 (by omega)] at this
  cases this
theorem home_parts {n : Nat} {X : Dst} {gen : Int} {k : Nat} {F T : Nat → Int} {x : Int} (h : homeB n X gen k F T x = true) : 28 ≤ n ∧ n ≤ 4096 ∧ 0 ≤ gen ∧ gen ≤ 4611686018427387904 ∧ k ≤ 20 ∧ i64 x := by
  unfold homeB at h
  simp only [Bool.and_eq_true, decide_eq_true_eq] at h
  obtain ⟨⟨h1, h2⟩, h3⟩ := h
  obtain ⟨h4, h5, h6, h7, _⟩ := right_parts h2
  have hb := halfN_bd n
  obtain ⟨l1, l2, _⟩ := lent_bd h3
  have hf := hfN_bd n X
  obtain ⟨_, e1⟩ := hb.2.2 h4
  refine ⟨by omega, by omega, h5, h6, h7, by unfold i64; omega⟩
theorem spTo_bd {n k : Nat} {T V : Nat → Int} {X : Dst} (h0 : 28 ≤ n) (h1 : n ≤ 4096) : i64 (spTo n k T V X) := by
  have : ∀ i : Nat, spF n k T V X i < i := fun i => by
    induction i with
    | zero => simp [spF]
    | succ i ih =>
      simp only [spF]
      split
      · omega
      · split <;> omega
  have := this 20
  unfold spTo i64
  split <;> omega
theorem next_ok {M : Tab} (h : TabOk M) (hk : M.k ≤ 20) {x to : Int} (hx : i64 x) (ht : i64 to) : TabOk (M.next x to) := by
  have hk' : rpK M.F M.k x ≤ M.k + 1 := by unfold rpK; split <;> omega
  refine ⟨by show rpK M.F M.k x ≤ _; omega, fun i hi => ⟨?_, ?_⟩⟩
  · show i64 (rpF M.F M.k x i)
    unfold rpF
    split
    · rename_i h0
      have : rpK M.F M.k x = M.k := by unfold rpK; rw [if_pos h0]
      exact (h.2 i (by have hi' : i < rpK M.F M.k x := hi; omega)).1
    · split
      · exact hx
      · exact (h.2 i (by have hi' : i < rpK M.F M.k x := hi; omega)).1
  · show i64 (rpT M.F M.T M.k x to i)
    unfold rpT
    split
    · rename_i h0
      have : rpK M.F M.k x = M.k := by unfold rpK; rw [if_pos h0]
      split
      · exact ht
      · exact (h.2 i (by have hi' : i < rpK M.F M.k x := hi; omega)).2
    · split
      · exact ht
      · exact (h.2 i (by have hi' : i < rpK M.F M.k x := hi; omega)).2
theorem spX_ok {n k : Nat} {T V : Nat → Int} {X : Dst} {m : Nat} (h : Ok (20 + m) X) : Ok m (spX n k T V X) := by
  have hb : ∀ i : Nat, spF n k T V X i < i := fun i => by
    induction i with
    | zero => simp [spF]
    | succ i ih =>
      simp only [spF]
      split
      · omega
      · split <;> omega
  have := hb 20
  unfold spX
  split
  · exact (spS_ok (n := n) (k := k) (T := T) (V := V) h ((spF n k T V X 20).toNat + 1) (by omega)).less (by omega)
  · exact (spS_ok (n := n) (k := k) (T := T) (V := V) h 20 (by omega)).less (by omega)
theorem lyX_ok {n : Nat} {X : Dst} {gen : Int} {k : Nat} {F T : Nat → Int} (h : Ok 2 X) : Ok 0 (lyX n X gen k F T) := by
  unfold lyX
  split
  · unfold lyX'
    split
    · exact (lyS_ok h 1 (by omega)).less (by omega)
    · exact (lyS_ok h 2 (by omega)).less (by omega)
  · exact h.less (by omega)
end Rm
end Go.Proofs.YtllejfnmbpjhaaaDoor
