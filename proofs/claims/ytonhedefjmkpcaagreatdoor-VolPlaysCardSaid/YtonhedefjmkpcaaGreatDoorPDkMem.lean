import Derived.Test.YtonhedefjmkpcaaGreatDoorRows
import Derived.WalkKit
import Derived.Handy
import Derived.Lib.Hide
import Derived.Laws.AppendOwnNone
import Derived.Deep.MidRow
import Derived.BigQuiet
import Derived.Deep.QuietTactic
/- A place of memory: where in a block a variable lies, and what else lies there. -/
namespace Go.Proofs.YtonhedefjmkpcaaGreatDoor
set_option maxRecDepth 20000
open Go.RowKit

/-- a variable of some cells: its block, the cells ahead of it and behind it, the block's type -/
structure Pl where
 b : Nat
 pre : List Value
 post : List Value
 t : TypeId
instance : Coe Pl Nat := ⟨Pl.b⟩
namespace Pl
/-- where its cells begin -/
def o (g : Pl) : Nat := g.pre.length
/-- the block's cells -/
def cs (g : Pl) (l : List Value) : Array Value := (g.pre ++ (l ++ g.post)).toArray
/-- the variable's cells are l -/
def At (g : Pl) (w : World) (l : List Value) : Prop := w.heap[g.b]? = some (.cells (g.cs l) g.t (0, 0))
theorem cs_get (g : Pl) {l : List Value} {j : Nat} (h : j < l.length) : (g.cs l)[g.o + j]? = l[j]? := by
 unfold cs o
 rw [List.getElem?_toArray, List.getElem?_append_right (by omega), Nat.add_sub_cancel_left, List.getElem?_append_left h]
theorem cs_set (g : Pl) {l : List Value} {j : Nat} (h : j < l.length) (u : Value) : (g.cs l).setIfInBounds (g.o + j) u = g.cs (l.set j u) := by
 unfold cs o
 rw [List.setIfInBounds_toArray, List.set_append_right _ _ (by omega), Nat.add_sub_cancel_left, List.set_append_left _ _ h]
section
variable {g : Pl} {w w' : World} {l : List Value}
theorem At.cell (h : g.At w l) {j : Nat} (hj : j < l.length) : w.cell? ⟨g.b, g.o + j, none⟩ = l[j]? := by
 rw [cell_of_row w g.b _ _ _ _ h, g.cs_get hj]
theorem At.fr (h : g.At w l) (j : Nat) : w.frozen? ⟨g.b, j, none⟩ = false := frozen_of_row w g.b j _ _ h
theorem At.lt (h : g.At w l) : g.b < w.heap.size := (Array.getElem?_eq_some_iff.1 h).1
theorem At.block (h : g.At w l) (hb : w'.heap[g.b]? = w.heap[g.b]?) : g.At w' l := hb.trans h
theorem At.below (h : g.At w l) (hb : Below w.heap.size w w') : g.At w' l := h.block (hb.block g.b h.lt)
theorem At.set (h : g.At w l) {j : Nat} (hj : j < l.length) (u : Value) : g.At (w.setCell ⟨g.b, g.o + j, none⟩ u) (l.set j u) := by
 unfold At
 rw [heap_setCell_same w g.b _ _ _ u h, g.cs_set hj]
end
/-- what lies beside the variable is no byte -/
def NoB (g : Pl) : Prop := ∀ x ∈ g.pre ++ g.post, ∀ z, x ≠ .int .u8 z
/-- the first cells of a variable, l behind them; its last cells, l ahead of them -/
def hd (v : Pl) (l : List Value) : Pl := ⟨v.b, v.pre, l ++ v.post, v.t⟩
def tl (v : Pl) (l : List Value) : Pl := ⟨v.b, v.pre ++ l, v.post, v.t⟩
theorem cs_hd (v : Pl) (l k : List Value) : (v.hd l).cs k = v.cs (k ++ l) := by simp [cs, hd]
theorem cs_tl (v : Pl) (l k : List Value) : (v.tl l).cs k = v.cs (l ++ k) := by simp [cs, tl]
theorem at_hd {v : Pl} {w : World} {l k : List Value} : (v.hd l).At w k ↔ v.At w (k ++ l) := by
 unfold At
 rw [cs_hd]
 rfl
theorem at_tl {v : Pl} {w : World} {l k : List Value} : (v.tl l).At w k ↔ v.At w (l ++ k) := by
 unfold At
 rw [cs_tl]
 rfl
theorem tl_o (v : Pl) (l : List Value) : (v.tl l).o = v.o + l.length := by simp [o, tl]
/-- a block of its own -/
def own (b : Nat) (t : TypeId) : Pl := ⟨b, [], [], t⟩
theorem own_noB (b : Nat) (t : TypeId) : (own b t).NoB := by simp [NoB, own]
end Pl
end Go.Proofs.YtonhedefjmkpcaaGreatDoor
/- disk: sectors and writes as values; slices of elements of many cells, read and owned. -/
namespace Go.Proofs.YtonhedefjmkpcaaGreatDoor
set_option maxRecDepth 20000
namespace Dk
open Go.RowKit

/-- a block's 128 bytes -/
def bl (f : Nat → Int) : List Value := (List.range 128).map fun j => .int .u8 (f j)
structure Sec where
 data : Nat → Int
 noRead : Bool
 noWrite : Bool
structure Wr where
 place : Int
 data : Nat → Int
def secV (s : Sec) : List Value := bl s.data ++ [.bool s.noRead, .bool s.noWrite]
def wrV (x : Wr) : List Value := .int .i64 x.place :: bl x.data
theorem bl_length (f : Nat → Int) : (bl f).length = 128 := by simp [bl]
theorem secV_length (s : Sec) : (secV s).length = 130 := by simp [secV, bl_length]
theorem wrV_length (x : Wr) : (wrV x).length = 129 := by simp [wrV, bl_length]
theorem wrV_asize (x : Wr) : (wrV x).toArray.size = 129 := by rw [List.size_toArray, wrV_length]
theorem bl_get (f : Nat → Int) {j : Nat} (h : j < 128) : (bl f)[j]? = some (.int .u8 (f j)) := by simp [bl, h]
theorem bl_one (f : Nat → Int) : ∀ u ∈ bl f, u.oneCell' = true := by
 intro u hu
 simp only [bl, List.mem_map] at hu
 obtain ⟨j, _, rfl⟩ := hu
 rfl
theorem secV_one (s : Sec) : ∀ u ∈ secV s, u.oneCell' = true := by
 intro u hu
 simp only [secV, List.mem_append, List.mem_cons, List.not_mem_nil, or_false] at hu
 rcases hu with h | h | h
 ·exact bl_one _ u h
 ·subst h; rfl
 ·subst h; rfl
theorem wrV_one (x : Wr) : ∀ u ∈ wrV x, u.oneCell' = true := by
 intro u hu
 simp only [wrV, List.mem_cons] at hu
 rcases hu with h | h
 ·subst h; rfl
 ·exact bl_one _ u h
theorem secV_data (s : Sec) {j : Nat} (h : j < 128) : (secV s)[j]? = some (.int .u8 (s.data j)) := by
 unfold secV
 rw [List.getElem?_append_left (by rw [bl_length]; exact h)]
 exact bl_get _ h
theorem secV_read (s : Sec) : (secV s)[128]? = some (.bool s.noRead) := by
 unfold secV
 rw [List.getElem?_append_right (by rw [bl_length]; exact Nat.le_refl _), bl_length]
 rfl
theorem secV_write (s : Sec) : (secV s)[129]? = some (.bool s.noWrite) := by
 unfold secV
 rw [List.getElem?_append_right (by rw [bl_length]; omega), bl_length]
 rfl
theorem wrV_data (x : Wr) {j : Nat} (h : j < 128) : (wrV x)[1 + j]? = some (.int .u8 (x.data j)) := by
 unfold wrV
 rw [Nat.add_comm 1 j]
 exact bl_get _ h

/-- elements laid one behind the other -/
def flat (T : Nat → List Value) (n : Nat) : List Value := (List.range n).flatMap T
theorem flat_succ (T : Nat → List Value) (n : Nat) : flat T (n + 1) = flat T n ++ T n := by simp [flat, List.range_succ, List.flatMap_append]
theorem flat_length {T : Nat → List Value} {k n : Nat} (hk : ∀ i, i < n → (T i).length = k) : (flat T n).length = n * k := by
 induction n with
 | zero => simp [flat]
 | succ n ih => rw [flat_succ, List.length_append, ih (fun i hi => hk i (by omega)), hk n (by omega), Nat.succ_mul]
theorem flat_get {T : Nat → List Value} {k n i r : Nat} {v : Value} (hk : ∀ i, i < n → (T i).length = k) (hi : i < n) (hv : (T i)[r]? = some v) : (flat T n)[i * k + r]? = some v := by
 induction n with
 | zero => omega
 | succ n ih =>
  rw [flat_succ]
  have hl := flat_length (T := T) (n := n) (fun i hi => hk i (by omega))
  have hr : r < k := by
   have := (List.getElem?_eq_some_iff.1 hv).1
   rwa [hk i hi] at this
  by_cases e : i < n
  ·have hb : (i + 1) * k ≤ n * k := Nat.mul_le_mul_right k e
   rw [Nat.succ_mul] at hb
   rw [List.getElem?_append_left (by omega)]
   exact ih (fun i hi => hk i (by omega)) e
  ·obtain rfl : i = n := by omega
   rw [List.getElem?_append_right (by omega), hl, Nat.add_sub_cancel_left]
   exact hv
theorem flat_inv {T : Nat → List Value} {k n j : Nat} {v : Value} (hk : ∀ i, i < n → (T i).length = k) (hv : (flat T n)[j]? = some v) : ∃ i r, i < n ∧ r < k ∧ j = i * k + r ∧ (T i)[r]? = some v := by
 induction n with
 | zero => simp [flat] at hv
 | succ n ih =>
  have hl := flat_length (T := T) (n := n) (fun i hi => hk i (by omega))
  rw [flat_succ] at hv
  by_cases e : j < n * k
  ·rw [List.getElem?_append_left (by omega)] at hv
   obtain ⟨i, r, h1, h2, h3, h4⟩ := ih (fun i hi => hk i (by omega)) hv
   exact ⟨i, r, by omega, h2, h3, h4⟩
  ·rw [List.getElem?_append_right (by omega), hl] at hv
   have hr : j - n * k < k := by
    have := (List.getElem?_eq_some_iff.1 hv).1
    rwa [hk n (by omega)] at this
   exact ⟨n, j - n * k, by omega, hr, by omega, hv⟩
theorem flat_one {T : Nat → List Value} {n : Nat} (h : ∀ i, i < n → ∀ u ∈ T i, u.oneCell' = true) : ∀ u ∈ flat T n, u.oneCell' = true := by
 intro u hu
 simp only [flat, List.mem_flatMap, List.mem_range] at hu
 obtain ⟨i, hi, hu⟩ := hu
 exact h i hi u hu
theorem flat_congr {T T' : Nat → List Value} {n : Nat} (h : ∀ i, i < n → T i = T' i) : flat T n = flat T' n := by
 induction n with
 | zero => rfl
 | succ n ih => rw [flat_succ, flat_succ, ih (fun i hi => h i (by omega)), h n (by omega)]

/-- n elements T 0 .. T (n - 1), of k cells each, are read at ao, in a block below B that isn't g -/
structure Lay (w : World) (B g : Nat) (ao : Option Addr) (n cap k : Nat) (T : Nat → List Value) : Prop where
 room : n ≤ cap
 nil : ao = none → cap = 0
 rows : n = 0 ∨ ∃ b off, ao = some ⟨b, off, none⟩ ∧ b < B ∧ b ≠ g ∧ ∀ i, i < n → w.rangeAt b (off + i * k) (T i)
theorem Lay.keep {w w' : World} {B g : Nat} {ao : Option Addr} {n cap k : Nat} {T : Nat → List Value} (h : Lay w B g ao n cap k T) (hk : ∀ b, b < B → b ≠ g → w'.heap[b]? = w.heap[b]?) : Lay w' B g ao n cap k T :=
 ⟨h.room, h.nil, h.rows.imp id fun ⟨b, off, e, hb, hne, hr⟩ => ⟨b, off, e, hb, hne, fun i hi j v hv => (World.cell?_of_block (w := w) (hk b hb hne)).trans (hr i hi j v hv)⟩⟩
theorem Lay.below {w w' : World} {B g : Nat} {ao : Option Addr} {n cap k : Nat} {T : Nat → List Value} (h : Lay w B g ao n cap k T) (hb : Below B w w') : Lay w' B g ao n cap k T := h.keep fun b hB _ => hb.block b hB
theorem Lay.grown {w w' : World} {B g : Nat} {ao : Option Addr} {n cap k : Nat} {T : Nat → List Value} (h : Lay w B g ao n cap k T) (hg : w.grownBy w' (some g)) (hB : B ≤ w.heap.size) : Lay w' B g ao n cap k T :=
 h.keep fun b hb hne => hg.block b (by omega) (by simpa using hne)
theorem Lay.more {w : World} {B B' g : Nat} {ao : Option Addr} {n cap k : Nat} {T : Nat → List Value} (h : Lay w B g ao n cap k T) (hB : B ≤ B') : Lay w B' g ao n cap k T :=
 ⟨h.room, h.nil, h.rows.imp id fun ⟨b, off, e, hb, hne, hr⟩ => ⟨b, off, e, by omega, hne, hr⟩⟩
theorem Lay.other {w : World} {B g g' : Nat} {ao : Option Addr} {n cap k : Nat} {T : Nat → List Value} (h : Lay w B g ao n cap k T) (hg : B ≤ g') : Lay w B g' ao n cap k T :=
 ⟨h.room, h.nil, h.rows.imp id fun ⟨b, off, e, hb, hne, hr⟩ => ⟨b, off, e, hb, by omega, hr⟩⟩
theorem Lay.empty (w : World) (B g _cap : Nat) (k : Nat) (T : Nat → List Value) : Lay w B g none 0 0 k T := ⟨Nat.le_refl _, fun _ => rfl, .inl rfl⟩

/-- what the call owns is read -/
theorem lay_own {w : World} {base g : Nat} {e : TypeId} {ao : Option Addr} {n cap k : Nat} {T : Nat → List Value} (hk : ∀ i, i < n → (T i).length = k) (h : w.ownsRow base e k (.slice ao n cap) n (flat T n)) (hg : g < base ∨ w.heap.size ≤ g) : Lay w w.heap.size g ao n cap k T := by
 have hlt := h.lt
 rcases h.2 with ⟨hv, hn⟩ | ⟨b, cap', cur, hv, hb, hc, hnc, _, hcs, ht⟩
 ·injection hv with h1 h2 h3
  exact ⟨by omega, fun _ => h3, .inl hn⟩
 ·injection hv with h1 h2 h3
  subst h1 h3
  have hbl := (hlt b rfl).2
  refine ⟨hnc, fun e => (by cases e), .inr ⟨b, 0, rfl, hbl, by omega, fun i hi j v hv => ?_⟩⟩
  rw [Nat.zero_add, cell_of_row w b _ cur _ _ hc]
  have e1 := flat_get hk hi hv
  have hj : i * k + j < n * k := by
   have := (List.getElem?_eq_some_iff.1 e1).1
   rwa [flat_length hk] at this
  rw [← ht] at e1
  simpa [List.getElem?_take, hj] using e1
/-- the list at ao lies in a block of type t -/
def Ty (w : World) (n : Nat) (ao : Option Addr) (t : TypeId) : Prop := n = 0 ∨ ∀ b off s, ao = some ⟨b, off, s⟩ → ∃ cur, w.heap[b]? = some (.cells cur t (0, 0))
theorem Ty.zero (w : World) (ao : Option Addr) (t : TypeId) : Ty w 0 ao t := .inl rfl
theorem Ty.own {w : World} {base : Nat} {e : TypeId} {ao : Option Addr} {n cap k : Nat} {xs : List Value} (h : w.ownsRow base e k (.slice ao n cap) n xs) : Ty w n ao e := by
 rcases h.2 with ⟨_, hn⟩ | ⟨b, cap', cur, hv, _, hc, _⟩
 ·exact .inl hn
 ·refine .inr fun q off s e => ?_
  injection hv with h1
  rw [h1] at e
  injection e with e
  injection e with e1
  subst e1
  exact ⟨cur, hc⟩
theorem Ty.keep {w w' : World} {B g : Nat} {ao : Option Addr} {n cap k : Nat} {T : Nat → List Value} {t : TypeId} (h : Ty w n ao t) (hl : Lay w B g ao n cap k T) (hk : ∀ b, b < B → b ≠ g → w'.heap[b]? = w.heap[b]?) : Ty w' n ao t := by
 rcases h with h | h
 ·exact .inl h
 ·rcases hl.rows with h0 | ⟨b, off, e, hb, hne, _⟩
  ·exact .inl h0
  ·refine .inr fun q o s e' => ?_
   obtain ⟨cur, hc⟩ := h q o s e'
   rw [e] at e'
   injection e' with e'
   injection e' with e1
   subst e1
   exact ⟨cur, (hk b hb hne).trans hc⟩
theorem Ty.below {w w' : World} {B g : Nat} {ao : Option Addr} {n cap k : Nat} {T : Nat → List Value} {t : TypeId} (h : Ty w n ao t) (hl : Lay w B g ao n cap k T) (hb : Below B w w') : Ty w' n ao t := h.keep hl fun b hB _ => hb.block b hB
theorem Ty.grown {w w' : World} {B g : Nat} {ao : Option Addr} {n cap k : Nat} {T : Nat → List Value} {t : TypeId} (h : Ty w n ao t) (hl : Lay w B g ao n cap k T) (hg : w.grownBy w' (some g)) (hB : B ≤ w.heap.size) : Ty w' n ao t :=
 h.keep hl fun b hb hne => hg.block b (by omega) (by simpa using hne)
theorem Ty.setCell {w : World} {n : Nat} {ao : Option Addr} {t : TypeId} (h : Ty w n ao t) (b off : Nat) (v : Value) : Ty (w.setCell ⟨b, off, none⟩ v) n ao t := by
 rcases h with h | h
 ·exact .inl h
 ·refine .inr fun q o s e => ?_
  obtain ⟨cur, hc⟩ := h q o s e
  by_cases hq : q = b
  ·subst hq
   exact ⟨_, heap_setCell_same w q off _ _ v hc⟩
  ·exact ⟨cur, (Below.heap_setCell _ _ _ _ hq).trans hc⟩
/-- what lies in a block of another type isn't the list -/
theorem Ty.ne {w : World} {n : Nat} {ao : Option Addr} {t t' : TypeId} (h : Ty w n ao t) {b : Nat} {cur : Array Value} {fr : Nat × Nat} (hb : w.heap[b]? = some (.cells cur t' fr)) (ht : t' ≠ t) : n = 0 ∨ ∀ q o s, ao = some ⟨q, o, s⟩ → q ≠ b := by
 rcases h with h | h
 ·exact .inl h
 ·refine .inr fun q o s e hq => ?_
  obtain ⟨cur', hc⟩ := h q o s e
  rw [hq, hb] at hc
  injection hc with hc
  injection hc with _ hc
  exact ht hc


def sec0 : Sec := ⟨fun _ => 0, false, false⟩
def wr0 : Wr := ⟨0, fun _ => 0⟩
theorem info_sec : (Tryz.prog.info? 63).map (fun i => (i.zero, i.size, i.bytes)) = some (some (.agg (secV sec0).toArray), 130, 130) := by kernel_rfl
theorem info_wr : (Tryz.prog.info? 204).map (fun i => (i.zero, i.size, i.bytes)) = some (some (.agg (wrV wr0).toArray), 129, 136) := by kernel_rfl
theorem size_bl (f : Nat → Int) : (Tryz.prog.info? 45).map (·.size) = some (bl f).length := by rw [bl_length]; kernel_rfl
theorem size_wr (x : Wr) : (Tryz.prog.info? 204).map (·.size) = some (wrV x).length := by rw [wrV_length]; kernel_rfl
theorem slice_sec : Tryz.prog.underlying 24 = some (.slice 63) := by kernel_rfl
theorem slice_wr : Tryz.prog.underlying 25 = some (.slice 204) := by kernel_rfl

/-- append(v, x...), v the call's own, x whatever, of elements of k cells -/
theorem append_lay {w : World} {ops : Array Oper} {rest : List Oper} {o : Oper} {a : Act} {Q : Exit → Act → World → Prop} (hgd : o.guard = none) (s x : Operand) (t e : TypeId) (i : TypeInfo) (z : Value) (k bytes : Nat)
  (ho : o.op = .call { callee := .builtin .append, args := #[s, x], argTypes := #[t, t] }) (ht : Tryz.prog.underlying t = some (.slice e)) (hi : Tryz.prog.info? e = some i) (hz : i.zero = some z) (hs1 : i.size = k) (hs2 : i.bytes = bytes) (hzs : z.cells.size = k) (hk0 : 0 < k)
  (base : Nat) (v : Value) (ys : List Value) (m : Nat) (hs : a.eval s = v) (hown : w.ownsRow base e k v m ys)
  (B g : Nat) (ao : Option Addr) (n cap : Nat) (T : Nat → List Value) (hx : a.eval x = .slice ao n cap) (hl : Lay w B g ao n cap k T) (hk : ∀ i, i < n → (T i).length = k) (h1 : ∀ i, i < n → ∀ u ∈ T i, u.oneCell' = true)
  (hm : m + n ≤ maxLen) (hby : (m + n) * bytes ≤ 140737488355328) (hbase : base ≤ w.heap.size)
  (h : ∀ v' w', w'.ownsRow base e k v' (m + n) (ys ++ flat T n) → w.grownBy w' v.ownBlock → wpList Tryz.prog ops Q rest (a.put o.dst v') w') : wpList Tryz.prog ops Q (o :: rest) a w := by
 cases ao with
 | none =>
  have hc := hl.nil rfl
  have hn : n = 0 := by have := hl.room; omega
  subst hn hc
  exact wpList_append_own_none hgd s x t ho base e i k ht hi v m ys hs hown hx (h v w (by simpa [flat] using hown) (World.grownBy.refl _ _))
 | some ad =>
  refine wpList_append_own w hgd s x t ho base e i z k bytes ht hi hz hs1 hs2 hzs hk0 v m ys hs hown ad n cap (flat T n) hx (flat_length hk) ?_ (flat_one h1) hm hby hbase ?_
  ·intro j u hu
   obtain ⟨i, r, hi, hr, rfl, hv⟩ := flat_inv hk hu
   obtain ⟨b, off, e1, _, _, hrow⟩ := hl.rows.resolve_left (by omega)
   injection e1 with e1
   subst e1
   rw [Addr.add_mid, ← Nat.add_assoc]
   exact hrow i hi r u hv
  ·intro v' w' h1 h2 _
   exact h v' w' h1 h2

end Dk
end Go.Proofs.YtonhedefjmkpcaaGreatDoor
