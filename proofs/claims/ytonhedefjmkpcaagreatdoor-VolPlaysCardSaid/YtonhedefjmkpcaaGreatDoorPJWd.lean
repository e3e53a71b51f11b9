import Derived.Test.YtonhedefjmkpcaaGreatDoorRows
import Derived.WalkKit
import Derived.Handy
import Derived.Lib.Hide
import Derived.Laws.AppendOwnNone
import Derived.Laws.BytesString
import Derived.Deep.MidRow
import Derived.PlainAid
import Derived.Lib.LazyBuf
import Derived.Lib.SliceRun
import Derived.BigQuiet
import Derived.Deep.QuietTactic
import Derived.Outline
/- Slices of bytes: what lies there, appended, as strings; Copy, Same. -/
namespace Go.Proofs.YtonhedefjmkpcaaGreatDoor
set_option maxRecDepth 20000
namespace Byt
open Go.RowKit

def bys (xs : List Int) : List Value := xs.map (Value.int .u8)
theorem bys_length (xs : List Int) : (bys xs).length = xs.length := by simp [bys]
theorem bys_append (xs ys : List Int) : bys (xs ++ ys) = bys xs ++ bys ys := by simp [bys]
theorem bys_get (xs : List Int) (i : Nat) (h : i < xs.length) : (bys xs)[i]? = some (.int .u8 (xs.getD i 0)) := by
 simp [bys, List.getD_eq_getElem?_getD, h]

/-- the bytes xs are read at ao; they lie below block B -/
structure Lies (w : World) (B : Nat) (ao : Option Addr) (cap : Nat) (xs : List Int) : Prop where
 room : xs.length ≤ cap
 nil : ao = none → cap = 0
 cells : xs ≠ [] → ∃ b off, ao = some ⟨b, off, none⟩ ∧ b < B ∧ ∀ i, i < xs.length → w.cell? ⟨b, off + i, none⟩ = some (.int .u8 (xs.getD i 0))

theorem Lies.keep {w w' : World} {B : Nat} {ao : Option Addr} {cap : Nat} {xs : List Int} (h : Lies w B ao cap xs) (hk : ∀ p : Addr, p.block < B → w'.cell? p = w.cell? p) : Lies w' B ao cap xs :=
 ⟨h.room, h.nil, fun hn => by
  obtain ⟨b, off, e, hb, hc⟩ := h.cells hn
  exact ⟨b, off, e, hb, fun i hi => (hk _ hb).trans (hc i hi)⟩⟩
theorem Lies.below {w w' : World} {B : Nat} {ao : Option Addr} {cap : Nat} {xs : List Int} (h : Lies w B ao cap xs) (hb : Below B w w') : Lies w' B ao cap xs := h.keep fun _ hp => hb.cell hp
theorem Lies.more {w : World} {B B' : Nat} {ao : Option Addr} {cap : Nat} {xs : List Int} (h : Lies w B ao cap xs) (hB : B ≤ B') : Lies w B' ao cap xs :=
 ⟨h.room, h.nil, fun hn => by
  obtain ⟨b, off, e, hb, hc⟩ := h.cells hn
  exact ⟨b, off, e, by omega, hc⟩⟩

/-- an owned row, read -/
theorem lies_own {w : World} {base : Nat} {ao : Option Addr} {cap : Nat} {xs : List Int} (h : w.ownsRow base 5 1 (.slice ao xs.length cap) xs.length (bys xs)) : Lies w w.heap.size ao cap xs := by
 have hlt := h.lt
 have hc := h.cells (g := (ao.map (·.block)).getD 0)
 rcases h.2 with ⟨hv, hn⟩ | ⟨g, cap', cur, hv, hb, hg, hnc, _, hcs, ht⟩
 ·injection hv with h1 h2 h3
  exact ⟨by omega, fun _ => h3, fun hx => absurd (List.eq_nil_of_length_eq_zero hn) hx⟩
 ·injection hv with h1 h2 h3
  subst h1 h3
  refine ⟨hnc, fun e => (by cases e), fun _ => ⟨g, 0, rfl, (hlt g rfl).2, fun i hi => ?_⟩⟩
  rw [Nat.zero_add, cell_of_row w g i cur _ _ hg]
  have e1 := bys_get xs i hi
  rw [← ht] at e1
  simpa [List.getElem?_take, hi] using e1

theorem bytes_info : (Tryz.prog.info? 5).map (fun i => (i.zero, i.size, i.bytes)) = some (some (.int .u8 0), 1, 1) := by kernel_rfl
theorem bytes_slice : Tryz.prog.underlying 32 = some (.slice 5) := by kernel_rfl

theorem bys_one (xs : List Int) : ∀ u ∈ bys xs, u.oneCell' = true := ints_oneCell _ _

set_option maxRecDepth 10000 in
/-- append(v, x...), v the call's own, x whatever -/
theorem append_lies {w : World} {ops : Array Oper} {rest : List Oper} {o : Oper} {a : Act} {Q : Exit → Act → World → Prop} (hgd : o.guard = none) (s x : Operand)
  (ho : o.op = .call { callee := .builtin .append, args := #[s, x], argTypes := #[32, 32] }) (base : Nat) (v : Value) (ys : List Int) (hs : a.eval s = v) (hown : w.ownsRow base 5 1 v ys.length (bys ys))
  (B : Nat) (ao : Option Addr) (cap : Nat) (xs : List Int) (n : Nat) (hn : n = xs.length) (hx : a.eval x = .slice ao n cap) (hl : Lies w B ao cap xs) (hlen : ys.length + xs.length ≤ 140737488355328) (hbase : base ≤ w.heap.size)
  (h : ∀ v' w', w'.ownsRow base 5 1 v' (ys ++ xs).length (bys (ys ++ xs)) → w.grownBy w' v.ownBlock → wpList Tryz.prog ops Q rest (a.put o.dst v') w') : wpList Tryz.prog ops Q (o :: rest) a w := by
 subst hn
 obtain ⟨i0, hi, hz0, hz1, hz2⟩ := info_parts bytes_info
 cases ao with
 | none =>
  have hc := hl.nil rfl
  have hx0 : xs = [] := List.eq_nil_of_length_eq_zero (by have := hl.room; omega)
  subst hx0 hc
  exact wpList_append_own_none hgd s x 32 ho base 5 i0 1 bytes_slice hi v ys.length (bys ys) hs hown hx (h v w (by simpa using hown) (World.grownBy.refl _ _))
 | some ad =>
  refine wpList_append_own w hgd s x 32 ho base 5 i0 (.int .u8 0) 1 1 bytes_slice hi hz0 hz1 hz2 rfl (by decide) v ys.length (bys ys) hs hown ad xs.length cap (bys xs) hx (by simp [bys]) ?_ (bys_one _) (by unfold maxLen; omega) (by omega) hbase ?_
  ·intro j u hu
   have hj : j < xs.length := by
    have := (List.getElem?_eq_some_iff.1 hu).1
    rwa [bys_length] at this
   obtain ⟨b, off, e, _, hc⟩ := hl.cells (fun e => by rw [e] at hj; simp at hj)
   injection e with e
   subst e
   rw [Addr.add_mid, hc j hj, ← hu, bys_get xs j hj]
  ·intro v' w' h1 h2 _
   exact h v' w' (by rw [bys_append, List.length_append]; exact h1) h2

def Byte (xs : List Int) : Prop := ∀ x ∈ xs, 0 ≤ x ∧ x < 256
end Byt
end Go.Proofs.YtonhedefjmkpcaaGreatDoor
/- A row of bytes in a block that may be written: a function of the place. -/
namespace Go.Proofs.YtonhedefjmkpcaaGreatDoor
set_option maxRecDepth 20000
namespace Byt
open Go.RowKit

/-- the first n values of f -/
def tab (n : Nat) (f : Nat → Int) : List Int := (List.range n).map f
@[simp] theorem tab_length (n : Nat) (f : Nat → Int) : (tab n f).length = n := by simp [tab]
theorem tab_getD (n : Nat) (f : Nat → Int) {i : Nat} (h : i < n) : (tab n f).getD i 0 = f i := by simp [tab, List.getD_eq_getElem?_getD, h]
theorem tab_congr {n : Nat} {f g : Nat → Int} (h : ∀ i, i < n → f i = g i) : tab n f = tab n g := by
 unfold tab
 exact List.map_congr_left fun i hi => h i (by simpa using hi)
theorem byte_tab {n : Nat} {f : Nat → Int} (h : ∀ i, i < n → 0 ≤ f i ∧ f i < 256) : Byte (tab n f) := by
 intro x hx
 simp only [tab, List.mem_map, List.mem_range] at hx
 obtain ⟨i, hi, rfl⟩ := hx
 exact h i hi
/-- in block g, from off on, lie the bytes f 0 .. f (n - 1), and may be written -/
structure Row (w : World) (g off n : Nat) (f : Nat → Int) : Prop where
 cur : ∃ cur : Array Value, (∃ ty, w.heap[g]? = some (.cells cur ty (0, 0))) ∧ ∀ j, j < n → cur[off + j]? = some (.int .u8 (f j))
theorem Row.cell {w : World} {g off n : Nat} {f : Nat → Int} (h : Row w g off n f) {j : Nat} (hj : j < n) : w.cell? ⟨g, off + j, none⟩ = some (.int .u8 (f j)) := by
 obtain ⟨cur, ⟨ty, hc⟩, hz⟩ := h.cur
 rw [cell_of_row w g (off + j) _ _ _ hc, hz j hj]
theorem Row.free {w : World} {g off n : Nat} {f : Nat → Int} (h : Row w g off n f) (j : Nat) : w.frozen? ⟨g, j, none⟩ = false := by
 obtain ⟨cur, ⟨ty, hc⟩, _⟩ := h.cur
 exact frozen_of_row w g j _ _ hc
theorem Row.lt {w : World} {g off n : Nat} {f : Nat → Int} (h : Row w g off n f) : g < w.heap.size := by
 obtain ⟨cur, ⟨ty, hc⟩, _⟩ := h.cur
 exact (Array.getElem?_eq_some_iff.1 hc).1
/-- f, but z at j -/
def put (f : Nat → Int) (j : Nat) (z : Int) (i : Nat) : Int := if i = j then z else f i
theorem Row.store {w : World} {g off n : Nat} {f : Nat → Int} (h : Row w g off n f) (j : Nat) (z : Int) : Row (w.setCell ⟨g, off + j, none⟩ (.int .u8 z)) g off n (put f j z) := by
 obtain ⟨cur, ⟨ty, hc⟩, hz⟩ := h.cur
 refine ⟨⟨cur.setIfInBounds (off + j) (.int .u8 z), ⟨_, heap_setCell_same w g (off + j) cur _ _ hc⟩, fun i hi => ?_⟩⟩
 rw [Array.getElem?_setIfInBounds]
 unfold put
 by_cases hij : i = j
 ·subst hij
  have hs : off + i < cur.size := (Array.getElem?_eq_some_iff.1 (hz i hi)).1
  simp [hs]
 ·rw [if_neg (by omega), if_neg hij]
  exact hz i hi
theorem Row.congr {w : World} {g off n : Nat} {f f' : Nat → Int} (h : Row w g off n f) (he : ∀ j, j < n → f j = f' j) : Row w g off n f' := by
 obtain ⟨cur, ⟨ty, hc⟩, hz⟩ := h.cur
 exact ⟨⟨cur, ⟨_, hc⟩, fun j hj => by rw [hz j hj, he j hj]⟩⟩
theorem Row.part {w : World} {g off n : Nat} {f : Nat → Int} (h : Row w g off n f) (a m : Nat) (hm : a + m ≤ n) : Row w g (off + a) m (fun j => f (a + j)) := by
 obtain ⟨cur, ⟨ty, hc⟩, hz⟩ := h.cur
 exact ⟨⟨cur, ⟨_, hc⟩, fun j hj => by rw [show off + a + j = off + (a + j) by omega, hz _ (by omega)]⟩⟩
theorem Row.block {w w' : World} {g off n : Nat} {f : Nat → Int} (h : Row w g off n f) (hb : w'.heap[g]? = w.heap[g]?) : Row w' g off n f := by
 obtain ⟨cur, ⟨ty, hc⟩, hz⟩ := h.cur
 exact ⟨⟨cur, ⟨_, hb.trans hc⟩, hz⟩⟩
theorem Row.lies {w : World} {g off n : Nat} {f : Nat → Int} (h : Row w g off n f) {B cap : Nat} (hB : g < B) (hc : n ≤ cap) : Lies w B (some ⟨g, off, none⟩) cap (tab n f) := by
 refine ⟨by simpa using hc, by simp, fun _ => ⟨g, off, rfl, hB, fun i hi => ?_⟩⟩
 have hi' : i < n := by simpa using hi
 rw [h.cell hi', tab_getD n f hi']
/-- what the call owns is a row -/
theorem row_own {w : World} {base : Nat} {v : Value} {n : Nat} {xs : List Int} (hn : n = xs.length) (h : w.ownsRow base 5 1 v n (bys xs)) :
  (v = .slice none 0 0 ∧ n = 0) ∨ ∃ g cap, v = .slice (some ⟨g, 0, none⟩) n cap ∧ base ≤ g ∧ n ≤ cap ∧ cap ≤ maxLen ∧ Row w g 0 n (fun i => xs.getD i 0) := by
 subst hn
 rcases h.2 with ⟨hv, hn⟩ | ⟨g, cap, cur, hv, hb, hg, hnc, hm, hcs, ht⟩
 ·exact .inl ⟨hv, hn⟩
 ·refine .inr ⟨g, cap, hv, hb, hnc, hm, ⟨⟨cur, ⟨_, hg⟩, fun i hi => ?_⟩⟩⟩
  have e1 := bys_get xs i hi
  rw [← ht] at e1
  simpa [List.getElem?_take, hi] using e1
/-- f, but h from a on, k of them -/
def mix (f : Nat → Int) (a k : Nat) (h : Nat → Int) (i : Nat) : Int := if a ≤ i ∧ i < a + k then h (i - a) else f i
theorem mix_zero (f : Nat → Int) (a : Nat) (h : Nat → Int) : mix f a 0 h = f := by
 funext i
 unfold mix
 rw [if_neg (by omega)]
theorem put_mix (f : Nat → Int) (a k : Nat) (h : Nat → Int) : put (mix f a k h) (a + k) (h k) = mix f a (k + 1) h := by
 funext i
 unfold put mix
 by_cases e : i = a + k
 ·rw [if_pos e, if_pos (by omega), show i - a = k by omega]
 ·rw [if_neg e]
  by_cases h' : a ≤ i ∧ i < a + k
  ·rw [if_pos h', if_pos (by omega)]
  ·rw [if_neg h', if_neg (by omega)]
theorem mix_in {f : Nat → Int} {a k : Nat} {h : Nat → Int} {i : Nat} (h1 : a ≤ i) (h2 : i < a + k) : mix f a k h i = h (i - a) := by unfold mix; rw [if_pos ⟨h1, h2⟩]
theorem mix_out {f : Nat → Int} {a k : Nat} {h : Nat → Int} {i : Nat} (h1 : ¬ (a ≤ i ∧ i < a + k)) : mix f a k h i = f i := by unfold mix; rw [if_neg h1]
theorem mix_byte {f h : Nat → Int} {a k n : Nat} (hf : ∀ i, i < n → 0 ≤ f i ∧ f i < 256) (hh : ∀ i, i < k → 0 ≤ h i ∧ h i < 256) (i : Nat) (hi : i < n) : 0 ≤ mix f a k h i ∧ mix f a k h i < 256 := by
 unfold mix
 split
 ·exact hh _ (by omega)
 ·exact hf i hi
theorem only_trans {g : Nat} {a w w' : World} (h : a.grownBy w (some g)) (k : w.grownBy w' (some g)) : a.grownBy w' (some g) :=
 ⟨k.os.trans h.os, k.tape.trans h.tape, k.output.trans h.output, Nat.le_trans h.size k.size, fun i hi hr => (k.block i (by have := h.size; omega) hr).trans (h.block i hi hr)⟩
theorem only_store {g : Nat} {a w : World} (h : a.grownBy w (some g)) (j : Nat) (v : Value) : a.grownBy (w.setCell ⟨g, j, none⟩ v) (some g) :=
 only_trans h ⟨rfl, rfl, rfl, by simp, fun k _ hr => Below.heap_setCell _ _ _ _ (by rintro rfl; exact hr rfl)⟩
end Byt
end Go.Proofs.YtonhedefjmkpcaaGreatDoor
/- Rows of bytes: many cells at once; strings and their bytes. -/
namespace Go.Proofs.YtonhedefjmkpcaaGreatDoor
set_option maxRecDepth 20000
namespace Byt
open Go.RowKit Go.PlainAid

theorem mix_next (f : Nat → Int) (a k : Nat) (h : Nat → Int) : mix (put f a (h 0)) (a + 1) k (fun i => h (i + 1)) = mix f a (k + 1) h := by
 funext i
 unfold mix put
 by_cases e : i = a
 ·subst e
  rw [if_neg (by omega), if_pos rfl, if_pos (by omega), Nat.sub_self]
 ·by_cases h' : a + 1 ≤ i ∧ i < a + 1 + k
  ·rw [if_pos h', if_pos (by omega)]
   show h (i - (a + 1) + 1) = _
   rw [show i - (a + 1) + 1 = i - a by omega]
  ·rw [if_neg h', if_neg e, if_neg (by omega)]
theorem tab_succ (k : Nat) (h : Nat → Int) : tab (k + 1) h = h 0 :: tab k (fun i => h (i + 1)) := by
 unfold tab
 rw [List.range_succ_eq_map, List.map_cons, List.map_map]
 rfl
theorem Row.many {g off n : Nat} : ∀ (k j : Nat) (h f : Nat → Int) (w : World), Row w g off n f → Row (w.setCells g (off + j) (bys (tab k h))) g off n (mix f j k h)
 | 0, j, h, f, w, hr => by rw [mix_zero]; exact hr
 | k + 1, j, h, f, w, hr => by
  rw [tab_succ]
  show Row ((w.setCell ⟨g, off + j, none⟩ (.int .u8 (h 0))).setCells g (off + j + 1) (bys (tab k fun i => h (i + 1)))) g off n _
  rw [← mix_next, Nat.add_assoc]
  exact Row.many k (j + 1) _ _ _ (hr.store j (h 0))
end Byt
end Go.Proofs.YtonhedefjmkpcaaGreatDoor
/- Numbers as bytes, the lowest first: plain mathematics. -/
namespace Go.Proofs.YtonhedefjmkpcaaGreatDoor
set_option maxRecDepth 20000
namespace Wd
open Go.RowKit

def byteAt (n : Int) (i : Nat) : Int := n / 2 ^ (8 * i) % 256
theorem byteAt_bd (n : Int) (i : Nat) : 0 ≤ byteAt n i ∧ byteAt n i < 256 := by unfold byteAt; omega
def sumLE (f : Nat → Int) : Nat → Int
 | 0 => 0
 | k + 1 => sumLE f k + f k * 2 ^ (8 * k)
theorem pow8 (k : Nat) : (2 : Int) ^ (8 * (k + 1)) = 2 ^ (8 * k) * 256 := by
 rw [show 8 * (k + 1) = 8 * k + 8 by omega, Int.pow_add]; rfl
theorem pow8_pos (k : Nat) : (0 : Int) < 2 ^ (8 * k) := Int.pow_pos (by decide)
theorem sumLE_bd (f : Nat → Int) : ∀ k, (∀ i, i < k → 0 ≤ f i ∧ f i < 256) → 0 ≤ sumLE f k ∧ sumLE f k < 2 ^ (8 * k)
 | 0, _ => by simp [sumLE]
 | k + 1, h => by
  have ih := sumLE_bd f k fun i hi => h i (by omega)
  have hk := h k (by omega)
  have hp := pow8_pos k
  rw [pow8]
  simp only [sumLE]
  have h1 : 0 ≤ f k * 2 ^ (8 * k) := Int.mul_nonneg hk.1 (by omega)
  have h2 : f k * 2 ^ (8 * k) ≤ 255 * 2 ^ (8 * k) := Int.mul_le_mul_of_nonneg_right (by omega) (by omega)
  omega
end Wd
end Go.Proofs.YtonhedefjmkpcaaGreatDoor
/- word: place, Put, Take, Zero. -/
namespace Go.Proofs.YtonhedefjmkpcaaGreatDoor
set_option maxRecDepth 20000
namespace Wd
open Go.RowKit Byt

set_option maxHeartbeats 400000 in
theorem place_ok (g off n cap a k : Nat) (most : Int) (w : World) (hc : n ≤ cap) (hn : n ≤ 140737488355328) (h1 : 1 ≤ k) (h2 : (k : Int) ≤ most) (h3 : a + k ≤ n) :
  Calls Tryz.prog 194 #[.slice (some ⟨g, off, none⟩) n cap, .int .i64 a, .int .i64 k, .int .i64 most] w fun e w' => e = .returned (.tuple #[.slice (some ⟨g, off + a, none⟩) k (cap - a), .bool true]) ∧ w = w' := by
 go_enter Tryz.func194, Tryz.ntmps194
 go_wp2
 go_ret2
 refine ⟨?_, rfl⟩
 show Ending.returned (.tuple #[.slice (some ⟨g, off + a, none⟩) (a + k - a) (cap - a), .bool true]) = _
 rw [Nat.add_sub_cancel_left]

set_option maxHeartbeats 400000 in
theorem place_no (ao : Option Addr) (n cap : Nat) (a k most : Int) (w : World) (hn : n ≤ 140737488355328) (hm : most ≤ 1000) (h : k < 1 ∨ k > most ∨ a < 0 ∨ a > n - k) :
  Calls Tryz.prog 194 #[.slice ao n cap, .int .i64 a, .int .i64 k, .int .i64 most] w fun e w' => e = .returned (.tuple #[.slice none 0 0, .bool false]) ∧ w = w' := by
 go_enter Tryz.func194, Tryz.ntmps194
 go_wp2
 all_goals
  go_ret2
  exact ⟨rfl, rfl⟩

set_option maxHeartbeats 400000 in
theorem put_ok (g off n cap a k : Nat) (z : Int) (f : Nat → Int) (w : World) (hr : Row w g off n f) (hc : n ≤ cap) (hn : n ≤ 140737488355328) (h1 : 1 ≤ k) (h2 : k ≤ 8) (h3 : a + k ≤ n) (z0 : 0 ≤ z) (z1 : z / 2 ^ (8 * k) = 0) :
  Calls Tryz.prog 171 #[.slice (some ⟨g, off, none⟩) n cap, .int .i64 a, .int .i64 k, .int .i64 z] w fun e w' =>
   e = .returned (.int .i64 0) ∧ w.grownBy w' (some g) ∧ Row w' g off n (mix f a k (byteAt z)) := by
 have HR := Lib.hid hr
 clear hr
 go_enter Tryz.func171, Tryz.ntmps171
 go_wp2_with fail
 refine (place_ok g off n cap a k 8 w hc hn h1 (by omega) h3).mono ?_
 rintro _ _ ⟨rfl, rfl⟩
 dsimp only
 go_wp2_with fail
 clear z1
 go_loopw [34] (fun i wr => ∃ j : Nat, j ≤ k ∧ i = .int .i64 j ∧ w.grownBy wr (some g) ∧ Row wr g off n (mix f a j (byteAt z))) (fun i _ => k - (intOf i).toNat)
 case atStart => exact ⟨0, by omega, rfl, World.grownBy.refl _ _, by rw [mix_zero]; exact HR.out⟩
 case round =>
  obtain ⟨j, hj, rfl, hG, hR⟩ := hrel
  by_cases hlt : j < k
  ·have hcell := hR.cell (j := a + j) (by omega)
   have hfr := hR.free (off + (a + j))
   rw [← Nat.add_assoc] at hcell hfr
   have HG := Lib.hid hG
   have HRR := Lib.hid hR
   clear hG hR
   go_wp2_with fail
   go_roundw
   case rel =>
    refine ⟨j + 1, by omega, by go_num, only_store HG.out _ _, ?_⟩
    have := HRR.out.store (a + j) (byteAt z j)
    rw [put_mix] at this
    rw [← Nat.add_assoc] at this
    exact this
   case measure => simp [intOf]; omega
  ·obtain rfl : j = k := by omega
   go_wp2_with fail
   go_ret
   exact ⟨rfl, hG, hR⟩

set_option maxHeartbeats 400000 in
theorem put_no (ao : Option Addr) (n cap : Nat) (a k z : Int) (w : World) (hn : n ≤ 140737488355328) (h : k < 1 ∨ k > 8 ∨ a < 0 ∨ a > n - k ∨ z < 0 ∨ z / 2 ^ (8 * k.toNat) ≠ 0) (hg : n = 0 ∨ ∃ g off, ao = some ⟨g, off, none⟩) (hc : n ≤ cap) :
  Calls Tryz.prog 171 #[.slice ao n cap, .int .i64 a, .int .i64 k, .int .i64 z] w fun e w' => e = .returned (.int .i64 1) ∧ w = w' := by
 by_cases hp : k < 1 ∨ k > 8 ∨ a < 0 ∨ a > n - k
 ·clear h
  have hp' := place_no ao n cap a k 8 w hn (by omega) hp
  clear hp
  go_enter Tryz.func171, Tryz.ntmps171
  go_wp2_with fail
  refine hp'.mono ?_
  rintro _ _ ⟨rfl, rfl⟩
  dsimp only
  go_wp2_with fail
  go_ret
  exact ⟨rfl, rfl⟩
 ·obtain ⟨a, rfl⟩ : ∃ m : Nat, a = m := ⟨a.toNat, by omega⟩
  obtain ⟨k, rfl⟩ : ∃ m : Nat, k = m := ⟨k.toNat, by omega⟩
  obtain ⟨g, off, rfl⟩ : ∃ g off, ao = some ⟨g, off, none⟩ := hg.resolve_left (by omega)
  have hz : z < 0 ∨ (0 ≤ z ∧ z / 2 ^ (8 * k) ≠ 0) := by
   rw [Int.toNat_natCast] at h
   omega
  have hp' := place_ok g off n cap a k 8 w hc hn (by omega) (by omega) (by omega)
  have hz2 : z < 0 ∨ (0 ≤ z ∧ (z / 2 ^ (8 * k) != 0) = true) := by simpa using hz
  clear hz
  have hk8 : k ≤ 8 := by omega
  rcases hz2 with hz | ⟨hz, hz'⟩
  all_goals
   clear h hp hg
   go_enter Tryz.func171, Tryz.ntmps171
   go_wp2_with fail
   refine hp'.mono ?_
   rintro _ _ ⟨rfl, rfl⟩
   dsimp only
   go_wp2_with fail
   go_ret
   exact ⟨rfl, rfl⟩

def zeroB (f : Nat → Int) : Nat → Bool
 | 0 => true
 | n + 1 => zeroB f n && (f n == 0)
theorem zeroB_true {f : Nat → Int} : ∀ {n}, zeroB f n = true ↔ ∀ i, i < n → f i = 0
 | 0 => by simp [zeroB]
 | n + 1 => by
  simp only [zeroB, Bool.and_eq_true, zeroB_true (n := n), beq_iff_eq]
  constructor
  ·intro h i hi
   by_cases e : i = n
   ·subst e; exact h.2
   ·exact h.1 i (by omega)
  ·intro h
   exact ⟨fun i hi => h i (by omega), h n (by omega)⟩
theorem zeroB_false {f : Nat → Int} {n i : Nat} (h : i < n) (hi : f i ≠ 0) : zeroB f n = false := by
 rw [Bool.eq_false_iff]
 intro e
 exact hi (zeroB_true.1 e i h)
/-- the bytes f 0 .. f (n - 1) are read at ao -/
def Reads (w : World) (ao : Option Addr) (n cap : Nat) (f : Nat → Int) : Prop := n ≤ cap ∧ (ao = none → cap = 0) ∧ (n = 0 ∨ ∃ g off, ao = some ⟨g, off, none⟩ ∧ ∀ j, j < n → w.cell? ⟨g, off + j, none⟩ = some (.int .u8 (f j)))

set_option maxHeartbeats 400000 in
theorem zero_any (ao : Option Addr) (n cap : Nat) (f : Nat → Int) (w : World) (hr : Reads w ao n cap f) (hn : n ≤ 140737488355328) :
  Calls Tryz.prog 165 #[.slice ao n cap] w fun e w' => e = .returned (.bool (zeroB f n)) ∧ w = w' := by
 obtain ⟨hc, _, h0 | ⟨g, off, rfl, hr⟩⟩ := hr
 ·subst h0
  go_enter Tryz.func165, Tryz.ntmps165
  go_wp2_with fail
  go_rounds 1
  go_ret
  exact ⟨rfl, rfl⟩
 have HR := Lib.hid hr
 clear hr
 obtain ⟨z, hz⟩ : ∃ z, z = zeroB f n := ⟨_, rfl⟩
 rw [← hz]
 have HZ := Lib.hid hz
 clear hz
 go_enter Tryz.func165, Tryz.ntmps165
 go_wp2_with fail
 go_loop [7] (fun i => ∃ j : Nat, j ≤ n ∧ i = .int .i64 j ∧ Hid (∀ i, i < j → f i = 0)) (fun i => n - (intOf i).toNat)
 case atStart => exact ⟨0, by omega, rfl, fun i hi => by omega⟩
 case round =>
  obtain ⟨j, hj, rfl, hz⟩ := hrel
  by_cases hlt : j < n
  ·have hcell := HR.out j hlt
   by_cases hx : f j = 0
   ·have hz' : Hid (∀ i, i < j + 1 → f i = 0) := Lib.hid fun i hi => by
     by_cases e : i = j
     ·subst e; exact hx
     ·exact hz.out i (by omega)
    go_wp2_with fail
    go_round
    case rel => exact ⟨j + 1, by omega, by go_num, hz'⟩
    case measure => simp [intOf]; omega
   ·have hx' : (f j != 0) = true := by simpa using hx
    have hz' := Lib.hid (zeroB_false hlt hx)
    clear hx
    go_wp2_with fail
    go_ret
    exact ⟨congrArg (fun b => Ending.returned (.bool b)) (HZ.out.trans hz'.out).symm, rfl⟩
  ·obtain rfl : j = n := by omega
   have hz' := Lib.hid (zeroB_true.2 hz.out)
   go_wp2_with fail
   go_ret
   exact ⟨congrArg (fun b => Ending.returned (.bool b)) (HZ.out.trans hz'.out).symm, rfl⟩

end Wd
end Go.Proofs.YtonhedefjmkpcaaGreatDoor
/- word: PutText, TakeText. -/
namespace Go.Proofs.YtonhedefjmkpcaaGreatDoor
set_option maxRecDepth 20000
namespace Wd
open Go.RowKit Byt Go.PlainAid

end Wd
end Go.Proofs.YtonhedefjmkpcaaGreatDoor
/- The reference of word: right, Fits, Put, Take, Zero, PutText, TakeText. -/
namespace Go.Proofs.YtonhedefjmkpcaaGreatDoor
set_option maxRecDepth 20000
namespace WdRef
open Go.RowKit Byt Wd Go.PlainAid

end WdRef
end Go.Proofs.YtonhedefjmkpcaaGreatDoor
/- The reference of word: Zero, PutText, TakeText; what isn't taken. -/
namespace Go.Proofs.YtonhedefjmkpcaaGreatDoor
set_option maxRecDepth 20000
namespace WdRef
open Go.RowKit Byt Wd Go.PlainAid

end WdRef
end Go.Proofs.YtonhedefjmkpcaaGreatDoor
/- word and its reference at whatever arguments, one contract each. -/
namespace Go.Proofs.YtonhedefjmkpcaaGreatDoor
set_option maxRecDepth 20000
namespace Wd
open Go.RowKit Byt Go.PlainAid

/-- bytes of the call's own (from block B on), or none at all -/
structure Own (w : World) (B : Nat) (ao : Option Addr) (n cap : Nat) (f : Nat → Int) : Prop where
 room : n ≤ cap
 nil : ao = none → cap = 0
 row : (ao = none ∧ n = 0) ∨ ∃ g, ao = some ⟨g, 0, none⟩ ∧ B ≤ g ∧ Row w g 0 n f
/-- w' is w, but for what stands in ao's block -/
def Only (w w' : World) (ao : Option Addr) : Prop := w.grownBy w' (ao.map (·.block))
theorem Only.refl (w : World) (ao : Option Addr) : Only w w ao := World.grownBy.refl _ _
theorem Own.reads {w : World} {B : Nat} {ao : Option Addr} {n cap : Nat} {f : Nat → Int} (h : Own w B ao n cap f) : Reads w ao n cap f :=
 ⟨h.room, h.nil, h.row.imp (·.2) fun ⟨g, e, _, hr⟩ => ⟨g, 0, e, fun _ hj => hr.cell hj⟩⟩
theorem Own.under {B : Nat} {a w w' : World} {ao : Option Addr} {n cap : Nat} {f : Nat → Int} (ho : Own w B ao n cap f) (h : Below B a w) (hg : Only w w' ao) (hs : B ≤ w.heap.size) : Below B a w' := by
 refine h.grown hg hs fun k hk => ?_
 rcases ho.row with ⟨e, _⟩ | ⟨g, e, hb, _⟩
 ·rw [e] at hk; cases hk
 ·rw [e] at hk
  have : g = k := by simpa using hk
  omega
theorem Own.same {w w' : World} {B : Nat} {ao : Option Addr} {n cap : Nat} {f : Nat → Int} (h : Own w B ao n cap f) (e : w'.heap = w.heap) : Own w' B ao n cap f :=
 ⟨h.room, h.nil, h.row.imp id fun ⟨g, e1, hb, hr⟩ => ⟨g, e1, hb, hr.block (by rw [e])⟩⟩
def putGood (n : Nat) (a k z : Int) : Prop := 1 ≤ k ∧ k ≤ 8 ∧ 0 ≤ a ∧ a ≤ n - k ∧ 0 ≤ z ∧ z / 2 ^ (8 * k.toNat) = 0
instance (n : Nat) (a k z : Int) : Decidable (putGood n a k z) := by unfold putGood; infer_instance
def putF (n : Nat) (a k z : Int) (f : Nat → Int) : Nat → Int := if putGood n a k z then mix f a.toNat k.toNat (byteAt z) else f
def putE (n : Nat) (a k z : Int) : Int := if putGood n a k z then 0 else 1

/-- what a call of Put comes to -/
def PutPost (w : World) (B : Nat) (ao : Option Addr) (n cap : Nat) (a k z : Int) (f : Nat → Int) (e : Ending) (w' : World) : Prop :=
 e = .returned (.int .i64 (putE n a k z)) ∧ Only w w' ao ∧ Own w' B ao n cap (putF n a k z f)

theorem put_post {w : World} {B : Nat} {ao : Option Addr} {n cap : Nat} {f : Nat → Int} (h : Own w B ao n cap f) (a k z : Int) (F : FuncId)
  (hok : ∀ (g a' k' : Nat), ao = some ⟨g, 0, none⟩ → Row w g 0 n f → a = a' → k = k' → 1 ≤ k' → k' ≤ 8 → a' + k' ≤ n → 0 ≤ z → z / 2 ^ (8 * k') = 0 → Calls Tryz.prog F #[.slice ao n cap, .int .i64 a, .int .i64 k, .int .i64 z] w fun e w' =>
   e = .returned (.int .i64 0) ∧ w.grownBy w' (some g) ∧ Row w' g 0 n (mix f a' k' (byteAt z)))
  (hno : (k < 1 ∨ k > 8 ∨ a < 0 ∨ a > n - k ∨ z < 0 ∨ z / 2 ^ (8 * k.toNat) ≠ 0) → (n = 0 ∨ ∃ g off, ao = some ⟨g, off, none⟩) → Calls Tryz.prog F #[.slice ao n cap, .int .i64 a, .int .i64 k, .int .i64 z] w fun e w' => e = .returned (.int .i64 1) ∧ w = w') :
  Calls Tryz.prog F #[.slice ao n cap, .int .i64 a, .int .i64 k, .int .i64 z] w (PutPost w B ao n cap a k z f) := by
 by_cases hg : putGood n a k z
 ·have hg' := hg
  obtain ⟨h1, h2, h3, h4, h5, h6⟩ := hg
  obtain ⟨a', rfl⟩ : ∃ m : Nat, a = m := ⟨a.toNat, by omega⟩
  obtain ⟨k', rfl⟩ : ∃ m : Nat, k = m := ⟨k.toNat, by omega⟩
  obtain ⟨g, e, hb, hr⟩ := h.row.resolve_left (by omega)
  refine (hok g a' k' e hr rfl rfl (by omega) (by omega) (by omega) h5 (by simpa using h6)).mono ?_
  rintro _ w' ⟨rfl, hG, hR⟩
  refine ⟨by unfold putE; rw [if_pos hg'], by subst e; exact hG, ⟨h.room, h.nil, .inr ⟨g, e, hb, ?_⟩⟩⟩
  unfold putF
  rw [if_pos hg']
  simpa using hR
 ·refine (hno (by unfold putGood at hg; omega) (h.row.imp (·.2) fun ⟨g, e, _, _⟩ => ⟨g, 0, e⟩)).mono ?_
  rintro _ w' ⟨rfl, rfl⟩
  refine ⟨by unfold putE; rw [if_neg hg], Only.refl _ _, ?_⟩
  unfold putF
  rw [if_neg hg]
  exact h

theorem put_any (w : World) (B : Nat) (ao : Option Addr) (n cap : Nat) (f : Nat → Int) (a k z : Int) (h : Own w B ao n cap f) (hn : n ≤ 140737488355328) :
  Calls Tryz.prog 171 #[.slice ao n cap, .int .i64 a, .int .i64 k, .int .i64 z] w (PutPost w B ao n cap a k z f) :=
 put_post h a k z _ (fun g a' k' e hr ea ek h1 h2 h3 h4 h5 => by subst e ea ek; exact put_ok g 0 n cap a' k' z f w hr h.room hn h1 h2 h3 h4 h5)
  (fun hb hg => put_no ao n cap a k z w hn hb hg h.room)
end Wd
end Go.Proofs.YtonhedefjmkpcaaGreatDoor
/- Take, TakeText, PutText of word and its reference at whatever arguments, one contract each. -/
namespace Go.Proofs.YtonhedefjmkpcaaGreatDoor
set_option maxRecDepth 20000
namespace Wd
open Go.RowKit Byt Go.PlainAid

def rightAt (n : Nat) (a k most : Int) : Prop := 1 ≤ k ∧ k ≤ most ∧ 0 ≤ a ∧ a ≤ n - k
instance (n : Nat) (a k most : Int) : Decidable (rightAt n a k most) := by unfold rightAt; infer_instance
def ptGood (n : Nat) (a k : Int) (s : ByteArray) : Prop := rightAt n a k 256 ∧ (s.size : Int) ≤ k - 1
instance (n : Nat) (a k : Int) (s : ByteArray) : Decidable (ptGood n a k s) := by unfold ptGood; infer_instance
end Wd
end Go.Proofs.YtonhedefjmkpcaaGreatDoor
