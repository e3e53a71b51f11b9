/- A row of bytes in a block that may be written: a function of the place. -/
import Derived.Test.YtolgiooddiolcaaByt
namespace Go.Proofs.Ytolgiooddiolcaa
namespace Byt
open Go.RowKit

/-- the first n values of f -/
def tab (n : Nat) (f : Nat → Int) : List Int := (List.range n).map f
@[simp] theorem tab_length (n : Nat) (f : Nat → Int) : (tab n f).length = n := by simp [tab]
theorem tab_getD (n : Nat) (f : Nat → Int) {i : Nat} (h : i < n) : (tab n f).getD i 0 = f i := by simp [tab, List.getD_eq_getElem?_getD, h]
theorem tab_congr {n : Nat} {f g : Nat → Int} (h : ∀ i, i < n → f i = g i) : tab n f = tab n g := by
  unfold tab
  exact List.map_congr_left fun i hi => h i (by simpa using hi)
theorem tab_of (xs : List Int) : tab xs.length (fun i => xs.getD i 0) = xs := by
  apply List.ext_getElem?
  intro i
  unfold tab
  by_cases h : i < xs.length <;> simp [h]
theorem tab_inj {n : Nat} {f g : Nat → Int} (h : tab n f = tab n g) {i : Nat} (hi : i < n) : f i = g i := by
  rw [← tab_getD n f hi, h, tab_getD n g hi]
theorem byte_tab {n : Nat} {f : Nat → Int} (h : ∀ i, i < n → 0 ≤ f i ∧ f i < 256) : Byte (tab n f) := by
  intro x hx
  simp only [tab, List.mem_map, List.mem_range] at hx
  obtain ⟨i, hi, rfl⟩ := hx
  exact h i hi
theorem byte_at {xs : List Int} (h : Byte xs) (i : Nat) : 0 ≤ xs.getD i 0 ∧ xs.getD i 0 < 256 := by
  rw [List.getD_eq_getElem?_getD]
  by_cases hi : i < xs.length
  · have := h (xs[i]) (List.getElem_mem hi)
    simpa [hi] using this
  · simp [hi]

/-- in block g, from off on, lie the bytes f 0 .. f (n - 1), and may be written -/
structure Row (w : World) (g off n : Nat) (f : Nat → Int) : Prop where
  cur : ∃ cur : Array Value, w.heap[g]? = some (.cells cur 5 (0, 0)) ∧ ∀ j, j < n → cur[off + j]? = some (.int .u8 (f j))
theorem Row.cell {w : World} {g off n : Nat} {f : Nat → Int} (h : Row w g off n f) {j : Nat} (hj : j < n) : w.cell? ⟨g, off + j, none⟩ = some (.int .u8 (f j)) := by
  obtain ⟨cur, hc, hz⟩ := h.cur
  rw [cell_of_row w g (off + j) _ _ _ hc, hz j hj]
theorem Row.free {w : World} {g off n : Nat} {f : Nat → Int} (h : Row w g off n f) (j : Nat) : w.frozen? ⟨g, j, none⟩ = false := by
  obtain ⟨cur, hc, _⟩ := h.cur
  exact frozen_of_row w g j _ _ hc
theorem Row.lt {w : World} {g off n : Nat} {f : Nat → Int} (h : Row w g off n f) : g < w.heap.size := by
  obtain ⟨cur, hc, _⟩ := h.cur
  exact (Array.getElem?_eq_some_iff.1 hc).1
/-- f, but z at j -/
def put (f : Nat → Int) (j : Nat) (z : Int) (i : Nat) : Int := if i = j then z else f i
theorem Row.store {w : World} {g off n : Nat} {f : Nat → Int} (h : Row w g off n f) (j : Nat) (z : Int) : Row (w.setCell ⟨g, off + j, none⟩ (.int .u8 z)) g off n (put f j z) := by
  obtain ⟨cur, hc, hz⟩ := h.cur
  refine ⟨⟨cur.setIfInBounds (off + j) (.int .u8 z), heap_setCell_same w g (off + j) cur _ _ hc, fun i hi => ?_⟩⟩
  rw [Array.getElem?_setIfInBounds]
  unfold put
  by_cases hij : i = j
  · subst hij
    have hs : off + i < cur.size := (Array.getElem?_eq_some_iff.1 (hz i hi)).1
    simp [hs]
  · rw [if_neg (by omega), if_neg hij]
    exact hz i hi
theorem put_put (f : Nat → Int) (j : Nat) (x y : Int) : put (put f j x) j y = put f j y := by
  funext i
  unfold put
  split <;> rfl
theorem Row.congr {w : World} {g off n : Nat} {f f' : Nat → Int} (h : Row w g off n f) (he : ∀ j, j < n → f j = f' j) : Row w g off n f' := by
  obtain ⟨cur, hc, hz⟩ := h.cur
  exact ⟨⟨cur, hc, fun j hj => by rw [hz j hj, he j hj]⟩⟩
theorem Row.part {w : World} {g off n : Nat} {f : Nat → Int} (h : Row w g off n f) (a m : Nat) (hm : a + m ≤ n) : Row w g (off + a) m (fun j => f (a + j)) := by
  obtain ⟨cur, hc, hz⟩ := h.cur
  exact ⟨⟨cur, hc, fun j hj => by rw [show off + a + j = off + (a + j) by omega, hz _ (by omega)]⟩⟩
theorem Row.block {w w' : World} {g off n : Nat} {f : Nat → Int} (h : Row w g off n f) (hb : w'.heap[g]? = w.heap[g]?) : Row w' g off n f := by
  obtain ⟨cur, hc, hz⟩ := h.cur
  exact ⟨⟨cur, hb.trans hc, hz⟩⟩
theorem Row.lies {w : World} {g off n : Nat} {f : Nat → Int} (h : Row w g off n f) {B cap : Nat} (hB : g < B) (hc : n ≤ cap) : Lies w B (some ⟨g, off, none⟩) cap (tab n f) := by
  refine ⟨by simpa using hc, by simp, fun _ => ⟨g, off, rfl, hB, fun i hi => ?_⟩⟩
  have hi' : i < n := by simpa using hi
  rw [h.cell hi', tab_getD n f hi']
/-- what the call owns is a row -/
theorem row_own {w : World} {base : Nat} {v : Value} {n : Nat} {xs : List Int} (hn : n = xs.length) (h : w.ownsRow base 5 1 v n (bys xs)) :
    (v = .slice none 0 0 ∧ n = 0) ∨ ∃ g cap, v = .slice (some ⟨g, 0, none⟩) n cap ∧ base ≤ g ∧ n ≤ cap ∧ cap ≤ maxLen ∧ Row w g 0 n (fun i => xs.getD i 0) := by
  subst hn
  rcases h.2 with ⟨hv, hn⟩ | ⟨g, cap, cur, hv, hb, hg, hnc, hm, hcs, ht⟩
  · exact .inl ⟨hv, hn⟩
  · refine .inr ⟨g, cap, hv, hb, hnc, hm, ⟨⟨cur, hg, fun i hi => ?_⟩⟩⟩
    have e1 := bys_get xs i hi
    rw [← ht] at e1
    simpa [List.getElem?_take, hi] using e1
/-- f, but h from a on, k of them -/
def mix (f : Nat → Int) (a k : Nat) (h : Nat → Int) (i : Nat) : Int := if a ≤ i ∧ i < a + k then h (i - a) else f i
theorem mix_zero (f : Nat → Int) (a : Nat) (h : Nat → Int) : mix f a 0 h = f := by
  funext i
  unfold mix
  rw [if_neg (by omega)]
theorem put_mix (f : Nat → Int) (a k : Nat) (h : Nat → Int) : put (mix f a k h) (a + k) (h k) = mix f a (k + 1) h := by
  funext i
  unfold put mix
  by_cases e : i = a + k
  · rw [if_pos e, if_pos (by omega), show i - a = k by omega]
  · rw [if_neg e]
    by_cases h' : a ≤ i ∧ i < a + k
    · rw [if_pos h', if_pos (by omega)]
    · rw [if_neg h', if_neg (by omega)]
theorem mix_in {f : Nat → Int} {a k : Nat} {h : Nat → Int} {i : Nat} (h1 : a ≤ i) (h2 : i < a + k) : mix f a k h i = h (i - a) := by unfold mix; rw [if_pos ⟨h1, h2⟩]
theorem mix_out {f : Nat → Int} {a k : Nat} {h : Nat → Int} {i : Nat} (h1 : ¬ (a ≤ i ∧ i < a + k)) : mix f a k h i = f i := by unfold mix; rw [if_neg h1]
theorem mix_byte {f h : Nat → Int} {a k n : Nat} (hf : ∀ i, i < n → 0 ≤ f i ∧ f i < 256) (hh : ∀ i, i < k → 0 ≤ h i ∧ h i < 256) (i : Nat) (hi : i < n) : 0 ≤ mix f a k h i ∧ mix f a k h i < 256 := by
  unfold mix
  split
  · exact hh _ (by omega)
  · exact hf i hi
/-- what is written in block g alone -/
theorem below_only {B g : Nat} {a w w' : World} (h : Below B a w) (hg : w.grownBy w' (some g)) (hB : B ≤ g) (hs : B ≤ w.heap.size) : Below B a w' :=
  h.grown hg hs fun k hk => by injection hk with hk; omega
theorem only_trans {g : Nat} {a w w' : World} (h : a.grownBy w (some g)) (k : w.grownBy w' (some g)) : a.grownBy w' (some g) :=
  ⟨k.os.trans h.os, k.tape.trans h.tape, k.output.trans h.output, Nat.le_trans h.size k.size, fun i hi hr => (k.block i (by have := h.size; omega) hr).trans (h.block i hi hr)⟩
theorem only_store {g : Nat} {a w : World} (h : a.grownBy w (some g)) (j : Nat) (v : Value) : a.grownBy (w.setCell ⟨g, j, none⟩ v) (some g) :=
  only_trans h ⟨rfl, rfl, rfl, by simp, fun k _ hr => Below.heap_setCell _ _ _ _ (by rintro rfl; exact hr rfl)⟩
theorem Lies.only {w w' : World} {B : Nat} {b off : Nat} {cap : Nat} {xs : List Int} {g : Nat} (h : Lies w B (some ⟨b, off, none⟩) cap xs) (hB : B ≤ w.heap.size) (hg : w.grownBy w' (some g)) (hne : b ≠ g) : Lies w' B (some ⟨b, off, none⟩) cap xs :=
  ⟨h.room, h.nil, fun hn => by
    obtain ⟨b', off', e, hb, hc⟩ := h.cells hn
    injection e with e
    injection e with e1 e2
    subst e1 e2
    exact ⟨b, off, rfl, hb, fun i hi => (World.cell?_of_block (w := w) (hg.block b (by omega) (by simpa using hne))).trans (hc i hi)⟩⟩
theorem Row.only {w w' : World} {g g' off n : Nat} {f : Nat → Int} (h : Row w g off n f) (hg : w.grownBy w' (some g')) (hne : g ≠ g') : Row w' g off n f :=
  h.block (hg.block g h.lt (by simpa using hne))
theorem Row.below {w w' : World} {g off n B : Nat} {f : Nat → Int} (h : Row w g off n f) (hb : Below B w w') (hB : g < B) : Row w' g off n f := h.block (hb.block g hB)

end Byt
end Go.Proofs.Ytolgiooddiolcaa
