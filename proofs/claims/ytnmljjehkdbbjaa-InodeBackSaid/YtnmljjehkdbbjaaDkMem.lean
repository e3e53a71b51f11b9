/- disk: sectors and writes as values; slices of elements of many cells, read and owned. -/
import Derived.Test.YtnmljjehkdbbjaaRows
import Derived.WalkKit
import Derived.Handy
import Derived.Lib.Hide
import Derived.Laws.AppendOwnNone
import Derived.Deep.MidRow
import Derived.BigQuiet
import Derived.Deep.QuietTactic
namespace Go.Proofs.Ytnmljjehkdbbjaa
set_option maxRecDepth 20000
namespace Dk
open Go.RowKit

/-- a block's 128 bytes -/
def bl (f : Nat → Int) : List Value := (List.range 128).map fun j => .int .u8 (f j)
structure Sec where
  data : Nat → Int
  noRead : Bool
  noWrite : Bool
structure Wr where
  place : Int
  data : Nat → Int
def secV (s : Sec) : List Value := bl s.data ++ [.bool s.noRead, .bool s.noWrite]
def wrV (x : Wr) : List Value := .int .i64 x.place :: bl x.data
theorem bl_length (f : Nat → Int) : (bl f).length = 128 := by simp [bl]
theorem secV_length (s : Sec) : (secV s).length = 130 := by simp [secV, bl_length]
theorem wrV_length (x : Wr) : (wrV x).length = 129 := by simp [wrV, bl_length]
theorem wrV_asize (x : Wr) : (wrV x).toArray.size = 129 := by rw [List.size_toArray, wrV_length]
theorem secV_asize (s : Sec) : (secV s).toArray.size = 130 := by rw [List.size_toArray, secV_length]
theorem bl_get (f : Nat → Int) {j : Nat} (h : j < 128) : (bl f)[j]? = some (.int .u8 (f j)) := by simp [bl, h]
theorem bl_one (f : Nat → Int) : ∀ u ∈ bl f, u.oneCell' = true := by
  intro u hu
  simp only [bl, List.mem_map] at hu
  obtain ⟨j, _, rfl⟩ := hu
  rfl
theorem secV_one (s : Sec) : ∀ u ∈ secV s, u.oneCell' = true := by
  intro u hu
  simp only [secV, List.mem_append, List.mem_cons, List.not_mem_nil, or_false] at hu
  rcases hu with h | h | h
  · exact bl_one _ u h
  · subst h; rfl
  · subst h; rfl
theorem wrV_one (x : Wr) : ∀ u ∈ wrV x, u.oneCell' = true := by
  intro u hu
  simp only [wrV, List.mem_cons] at hu
  rcases hu with h | h
  · subst h; rfl
  · exact bl_one _ u h
theorem secV_data (s : Sec) {j : Nat} (h : j < 128) : (secV s)[j]? = some (.int .u8 (s.data j)) := by
  unfold secV
  rw [List.getElem?_append_left (by rw [bl_length]; exact h)]
  exact bl_get _ h
theorem secV_read (s : Sec) : (secV s)[128]? = some (.bool s.noRead) := by
  unfold secV
  rw [List.getElem?_append_right (by rw [bl_length]; exact Nat.le_refl _), bl_length]
  rfl
theorem secV_write (s : Sec) : (secV s)[129]? = some (.bool s.noWrite) := by
  unfold secV
  rw [List.getElem?_append_right (by rw [bl_length]; omega), bl_length]
  rfl
theorem wrV_data (x : Wr) {j : Nat} (h : j < 128) : (wrV x)[1 + j]? = some (.int .u8 (x.data j)) := by
  unfold wrV
  rw [Nat.add_comm 1 j]
  exact bl_get _ h

/-- elements laid one behind the other -/
def flat (T : Nat → List Value) (n : Nat) : List Value := (List.range n).flatMap T
theorem flat_succ (T : Nat → List Value) (n : Nat) : flat T (n + 1) = flat T n ++ T n := by simp [flat, List.range_succ, List.flatMap_append]
theorem flat_length {T : Nat → List Value} {k n : Nat} (hk : ∀ i, i < n → (T i).length = k) : (flat T n).length = n * k := by
  induction n with
  | zero => simp [flat]
  | succ n ih => rw [flat_succ, List.length_append, ih (fun i hi => hk i (by omega)), hk n (by omega), Nat.succ_mul]
theorem flat_get {T : Nat → List Value} {k n i r : Nat} {v : Value} (hk : ∀ i, i < n → (T i).length = k) (hi : i < n) (hv : (T i)[r]? = some v) : (flat T n)[i * k + r]? = some v := by
  induction n with
  | zero => omega
  | succ n ih =>
    rw [flat_succ]
    have hl := flat_length (T := T) (n := n) (fun i hi => hk i (by omega))
    have hr : r < k := by
      have := (List.getElem?_eq_some_iff.1 hv).1
      rwa [hk i hi] at this
    by_cases e : i < n
    · have hb : (i + 1) * k ≤ n * k := Nat.mul_le_mul_right k e
      rw [Nat.succ_mul] at hb
      rw [List.getElem?_append_left (by omega)]
      exact ih (fun i hi => hk i (by omega)) e
    · obtain rfl : i = n := by omega
      rw [List.getElem?_append_right (by omega), hl, Nat.add_sub_cancel_left]
      exact hv
theorem flat_inv {T : Nat → List Value} {k n j : Nat} {v : Value} (hk : ∀ i, i < n → (T i).length = k) (hv : (flat T n)[j]? = some v) : ∃ i r, i < n ∧ r < k ∧ j = i * k + r ∧ (T i)[r]? = some v := by
  induction n with
  | zero => simp [flat] at hv
  | succ n ih =>
    have hl := flat_length (T := T) (n := n) (fun i hi => hk i (by omega))
    rw [flat_succ] at hv
    by_cases e : j < n * k
    · rw [List.getElem?_append_left (by omega)] at hv
      obtain ⟨i, r, h1, h2, h3, h4⟩ := ih (fun i hi => hk i (by omega)) hv
      exact ⟨i, r, by omega, h2, h3, h4⟩
    · rw [List.getElem?_append_right (by omega), hl] at hv
      have hr : j - n * k < k := by
        have := (List.getElem?_eq_some_iff.1 hv).1
        rwa [hk n (by omega)] at this
      exact ⟨n, j - n * k, by omega, hr, by omega, hv⟩
theorem flat_one {T : Nat → List Value} {n : Nat} (h : ∀ i, i < n → ∀ u ∈ T i, u.oneCell' = true) : ∀ u ∈ flat T n, u.oneCell' = true := by
  intro u hu
  simp only [flat, List.mem_flatMap, List.mem_range] at hu
  obtain ⟨i, hi, hu⟩ := hu
  exact h i hi u hu
theorem flat_congr {T T' : Nat → List Value} {n : Nat} (h : ∀ i, i < n → T i = T' i) : flat T n = flat T' n := by
  induction n with
  | zero => rfl
  | succ n ih => rw [flat_succ, flat_succ, ih (fun i hi => h i (by omega)), h n (by omega)]

/-- n elements T 0 .. T (n - 1), of k cells each, are read at ao, in a block below B that isn't g -/
structure Lay (w : World) (B g : Nat) (ao : Option Addr) (n cap k : Nat) (T : Nat → List Value) : Prop where
  room : n ≤ cap
  nil : ao = none → cap = 0
  rows : n = 0 ∨ ∃ b off, ao = some ⟨b, off, none⟩ ∧ b < B ∧ b ≠ g ∧ ∀ i, i < n → w.rangeAt b (off + i * k) (T i)
theorem Lay.keep {w w' : World} {B g : Nat} {ao : Option Addr} {n cap k : Nat} {T : Nat → List Value} (h : Lay w B g ao n cap k T) (hk : ∀ b, b < B → b ≠ g → w'.heap[b]? = w.heap[b]?) : Lay w' B g ao n cap k T :=
  ⟨h.room, h.nil, h.rows.imp id fun ⟨b, off, e, hb, hne, hr⟩ => ⟨b, off, e, hb, hne, fun i hi j v hv => (World.cell?_of_block (w := w) (hk b hb hne)).trans (hr i hi j v hv)⟩⟩
theorem Lay.below {w w' : World} {B g : Nat} {ao : Option Addr} {n cap k : Nat} {T : Nat → List Value} (h : Lay w B g ao n cap k T) (hb : Below B w w') : Lay w' B g ao n cap k T := h.keep fun b hB _ => hb.block b hB
theorem Lay.grown {w w' : World} {B g : Nat} {ao : Option Addr} {n cap k : Nat} {T : Nat → List Value} (h : Lay w B g ao n cap k T) (hg : w.grownBy w' (some g)) (hB : B ≤ w.heap.size) : Lay w' B g ao n cap k T :=
  h.keep fun b hb hne => hg.block b (by omega) (by simpa using hne)
theorem Lay.more {w : World} {B B' g : Nat} {ao : Option Addr} {n cap k : Nat} {T : Nat → List Value} (h : Lay w B g ao n cap k T) (hB : B ≤ B') : Lay w B' g ao n cap k T :=
  ⟨h.room, h.nil, h.rows.imp id fun ⟨b, off, e, hb, hne, hr⟩ => ⟨b, off, e, by omega, hne, hr⟩⟩
theorem Lay.other {w : World} {B g g' : Nat} {ao : Option Addr} {n cap k : Nat} {T : Nat → List Value} (h : Lay w B g ao n cap k T) (hg : B ≤ g') : Lay w B g' ao n cap k T :=
  ⟨h.room, h.nil, h.rows.imp id fun ⟨b, off, e, hb, hne, hr⟩ => ⟨b, off, e, hb, by omega, hr⟩⟩
theorem Lay.congr {w : World} {B g : Nat} {ao : Option Addr} {n cap k : Nat} {T T' : Nat → List Value} (h : Lay w B g ao n cap k T) (he : ∀ i, i < n → T i = T' i) : Lay w B g ao n cap k T' :=
  ⟨h.room, h.nil, h.rows.imp id fun ⟨b, off, e, hb, hne, hr⟩ => ⟨b, off, e, hb, hne, fun i hi => by rw [← he i hi]; exact hr i hi⟩⟩
theorem Lay.empty (w : World) (B g _cap : Nat) (k : Nat) (T : Nat → List Value) : Lay w B g none 0 0 k T := ⟨Nat.le_refl _, fun _ => rfl, .inl rfl⟩

/-- what the call owns is read -/
theorem lay_own {w : World} {base g : Nat} {e : TypeId} {ao : Option Addr} {n cap k : Nat} {T : Nat → List Value} (hk : ∀ i, i < n → (T i).length = k) (h : w.ownsRow base e k (.slice ao n cap) n (flat T n)) (hg : g < base ∨ w.heap.size ≤ g) : Lay w w.heap.size g ao n cap k T := by
  have hlt := h.lt
  rcases h.2 with ⟨hv, hn⟩ | ⟨b, cap', cur, hv, hb, hc, hnc, _, hcs, ht⟩
  · injection hv with h1 h2 h3
    exact ⟨by omega, fun _ => h3, .inl hn⟩
  · injection hv with h1 h2 h3
    subst h1 h3
    have hbl := (hlt b rfl).2
    refine ⟨hnc, fun e => (by cases e), .inr ⟨b, 0, rfl, hbl, by omega, fun i hi j v hv => ?_⟩⟩
    rw [Nat.zero_add, cell_of_row w b _ cur _ _ hc]
    have e1 := flat_get hk hi hv
    have hj : i * k + j < n * k := by
      have := (List.getElem?_eq_some_iff.1 e1).1
      rwa [flat_length hk] at this
    rw [← ht] at e1
    simpa [List.getElem?_take, hj] using e1

def sec0 : Sec := ⟨fun _ => 0, false, false⟩
def wr0 : Wr := ⟨0, fun _ => 0⟩
/-- append(v, x...), v the call's own, x whatever, of elements of k cells -/
theorem append_lay {w : World} {ops : Array Oper} {rest : List Oper} {o : Oper} {a : Act} {Q : Exit → Act → World → Prop} (hgd : o.guard = none) (s x : Operand) (t e : TypeId) (i : TypeInfo) (z : Value) (k bytes : Nat)
    (ho : o.op = .call { callee := .builtin .append, args := #[s, x], argTypes := #[t, t] }) (ht : Try.prog.underlying t = some (.slice e)) (hi : Try.prog.info? e = some i) (hz : i.zero = some z) (hs1 : i.size = k) (hs2 : i.bytes = bytes) (hzs : z.cells.size = k) (hk0 : 0 < k)
    (base : Nat) (v : Value) (ys : List Value) (m : Nat) (hs : a.eval s = v) (hown : w.ownsRow base e k v m ys)
    (B g : Nat) (ao : Option Addr) (n cap : Nat) (T : Nat → List Value) (hx : a.eval x = .slice ao n cap) (hl : Lay w B g ao n cap k T) (hk : ∀ i, i < n → (T i).length = k) (h1 : ∀ i, i < n → ∀ u ∈ T i, u.oneCell' = true)
    (hm : m + n ≤ maxLen) (hby : (m + n) * bytes ≤ 140737488355328) (hbase : base ≤ w.heap.size)
    (h : ∀ v' w', w'.ownsRow base e k v' (m + n) (ys ++ flat T n) → w.grownBy w' v.ownBlock → wpList Try.prog ops Q rest (a.put o.dst v') w') : wpList Try.prog ops Q (o :: rest) a w := by
  cases ao with
  | none =>
    have hc := hl.nil rfl
    have hn : n = 0 := by have := hl.room; omega
    subst hn hc
    exact wpList_append_own_none hgd s x t ho base e i k ht hi v m ys hs hown hx (h v w (by simpa [flat] using hown) (World.grownBy.refl _ _))
  | some ad =>
    refine wpList_append_own w hgd s x t ho base e i z k bytes ht hi hz hs1 hs2 hzs hk0 v m ys hs hown ad n cap (flat T n) hx (flat_length hk) ?_ (flat_one h1) hm hby hbase ?_
    · intro j u hu
      obtain ⟨i, r, hi, hr, rfl, hv⟩ := flat_inv hk hu
      obtain ⟨b, off, e1, _, _, hrow⟩ := hl.rows.resolve_left (by omega)
      injection e1 with e1
      subst e1
      rw [Addr.add_mid, ← Nat.add_assoc]
      exact hrow i hi r u hv
    · intro v' w' h1 h2 _
      exact h v' w' h1 h2

end Dk
end Go.Proofs.Ytnmljjehkdbbjaa
