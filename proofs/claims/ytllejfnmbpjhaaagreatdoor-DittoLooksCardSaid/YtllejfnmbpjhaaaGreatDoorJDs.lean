import Derived.Test.YtllejfnmbpjhaaaGreatDoorJDn
import Derived.Test.YtllejfnmbpjhaaaGreatDoorOwnB
/- disk: what is later, write by write. -/
namespace Go.Proofs.YtllejfnmbpjhaaaGreatDoor
set_option maxRecDepth 20000
namespace Dk
open Go.RowKit

/-- the first bytes of the writes for sector k, in order -/
def lat (C : Nat → Wr) (k : Nat) : Nat → List Int
  | 0 => []
  | m + 1 => if (C m).place = k then lat C k m ++ [(C m).data 0] else lat C k m
theorem lat_congr {C C' : Nat → Wr} {k : Nat} : ∀ m, (∀ j, j < m → C j = C' j) → lat C k m = lat C' k m := by
  intro m
  induction m with
  | zero => intro _; rfl
  | succ m ih => intro h; simp only [lat]; rw [ih (fun j hj => h j (by omega)), h m (by omega)]
theorem lat_upd (C : Nat → Wr) (k m : Nat) (x : Wr) : lat (updC C m x) k (m + 1) = if x.place = k then lat C k m ++ [x.data 0] else lat C k m := by
  have h0 : lat (updC C m x) k m = lat C k m := lat_congr m fun j hj => by simp only [updC]; rw [if_neg (by omega)]
  have h1 : updC C m x m = x := by simp [updC]
  simp only [lat]
  rw [h0, h1]
theorem lat_len (C : Nat → Wr) (k : Nat) : ∀ m, (lat C k m).length ≤ m := by
  intro m
  induction m with
  | zero => exact Nat.le_refl _
  | succ m ih =>
    simp only [lat]
    split
    · rw [List.length_append]; simp only [List.length_singleton]; omega
    · omega
def lastOr (l : List Int) (s : Int) : Int := l.getLast?.getD s
theorem lastOr_nil (s : Int) : lastOr [] s = s := rfl
theorem lastOr_snoc (l : List Int) (x s : Int) : lastOr (l ++ [x]) s = x := by simp [lastOr]
theorem lastOr_at {l : List Int} {s x : Int} (h : l[l.length - 1]? = some x) : lastOr l s = x := by
  rw [lastOr, List.getLast?_eq_getElem?, h]; rfl
theorem st_all {n : Nat} {S : Nat → Sec} {C : Nat → Wr} {k : Nat} : ∀ m, inAll n C m = true → (stS S C (fun _ => true) m k).data 0 = lastOr (lat C k m) ((S k).data 0) := by
  intro m
  induction m with
  | zero => intro _; rfl
  | succ m ih =>
    intro h
    simp only [inAll, Bool.and_eq_true] at h
    have hp := hasB_nat h.2
    simp only [stS, lat, if_true, upd]
    by_cases e : (C m).place = k
    · rw [if_pos e, if_pos (by omega), lastOr_snoc]
    · rw [if_neg e, if_neg (by omega)]
      exact ih h.1
theorem st_any {n : Nat} {S : Nat → Sec} {C : Nat → Wr} {K : Nat → Bool} {k : Nat} : ∀ m, inAll n C m = true → (stS S C K m k).data 0 = (S k).data 0 ∨ (stS S C K m k).data 0 ∈ lat C k m := by
  intro m
  induction m with
  | zero => intro _; exact .inl rfl
  | succ m ih =>
    intro h
    simp only [inAll, Bool.and_eq_true] at h
    have hp := hasB_nat h.2
    have h1 := ih h.1
    simp only [stS, lat]
    cases hK : K m with
    | false =>
      simp only [Bool.false_eq_true, if_false]
      split
      · exact h1.imp id fun h => List.mem_append_left _ h
      · exact h1
    | true =>
      simp only [if_true, upd]
      by_cases e : (C m).place = k
      · rw [if_pos e, if_pos (by omega)]
        exact .inr (by simp)
      · rw [if_neg e, if_neg (by omega)]
        exact h1
theorem st_read {S : Nat → Sec} {C : Nat → Wr} {K : Nat → Bool} {k : Nat} (h : (S k).noRead = false) : ∀ m, (stS S C K m k).noRead = false := by
  intro m
  induction m with
  | zero => exact h
  | succ m ih =>
    simp only [stS]
    split
    · simp only [upd]
      split
      · rfl
      · exact ih
    · exact ih
theorem st_write {S : Nat → Sec} {C : Nat → Wr} {K : Nat → Bool} {k : Nat} : ∀ m, (stS S C K m k).noWrite = (S k).noWrite := by
  intro m
  induction m with
  | zero => rfl
  | succ m ih =>
    simp only [stS]
    split
    · simp only [upd]
      split
      · rename_i e
        subst e
        exact ih
      · exact ih
    · exact ih
theorem inAll_upd {n : Nat} {C : Nat → Wr} {x : Wr} : ∀ m, inAll n C m = true → hasB n x.place = true → inAll n (updC C m x) (m + 1) = true := by
  intro m h hx
  have h0 : ∀ j, j ≤ m → inAll n (updC C m x) j = true := by
    intro j
    induction j with
    | zero => intro _; rfl
    | succ j ih =>
      intro hj
      simp only [inAll, Bool.and_eq_true]
      refine ⟨ih (by omega), ?_⟩
      simp only [updC]; rw [if_neg (by omega)]
      exact inAll_at (by omega) h
  simp only [inAll, Bool.and_eq_true]
  refine ⟨h0 m (Nat.le_refl _), ?_⟩
  simp only [updC, if_true]; exact hx
end Dk
end Go.Proofs.YtllejfnmbpjhaaaGreatDoor
/- DiskSure: what holds while it is played: the disk, sure, later. -/
namespace Go.Proofs.YtllejfnmbpjhaaaGreatDoor
set_option maxRecDepth 20000
namespace Dk
open Go.RowKit

/-- a block of n cells F 0 .. F (n - 1) -/
def Cells (w : World) (g : Nat) (t : TypeId) (n : Nat) (F : Nat → Value) : Prop := w.heap[g]? = some (.cells ((List.range n).map F).toArray t (0, 0))
section
variable {w w' : World} {g : Nat} {t : TypeId} {n : Nat} {F : Nat → Value}
theorem Cells.cell (h : Cells w g t n F) {k : Nat} (hk : k < n) : w.cell? ⟨g, k, none⟩ = some (F k) := by
  rw [cell_of_row w g k _ _ _ h]; simp [hk]
theorem Cells.free (h : Cells w g t n F) (k : Nat) : w.frozen? ⟨g, k, none⟩ = false := frozen_of_row w g k _ _ h
theorem Cells.lt (h : Cells w g t n F) : g < w.heap.size := (Array.getElem?_eq_some_iff.1 h).1
theorem Cells.block (h : Cells w g t n F) (hb : w'.heap[g]? = w.heap[g]?) : Cells w' g t n F := hb.trans h
def updV (F : Nat → Value) (k : Nat) (v : Value) (j : Nat) : Value := if j = k then v else F j
theorem Cells.set (h : Cells w g t n F) (k : Nat) (v : Value) : Cells (w.setCell ⟨g, k, none⟩ v) g t n (updV F k v) := by
  unfold Cells
  rw [heap_setCell_same w g k _ _ v h]
  congr 3
  apply Array.ext'
  simp only [Array.toList_setIfInBounds]
  apply List.ext_getElem?
  intro j
  by_cases hj : j < n
  · by_cases e : k = j
    · subst e; simp [updV, hj]
    · rw [List.getElem?_set_ne e]
      have e' : ¬ j = k := fun h => e h.symm
      simp [updV, hj, e']
  · rw [List.getElem?_eq_none (by simp; omega), List.getElem?_eq_none (by simp; omega)]
theorem Cells.congr {F' : Nat → Value} (h : Cells w g t n F) (he : ∀ k, k < n → F k = F' k) : Cells w g t n F' := by
  unfold Cells
  have : (List.range n).map F = (List.range n).map F' := List.map_congr_left fun k hk => he k (by simpa using hk)
  rw [← this]; exact h
end

theorem Lay.grown2 {w w' : World} {B g : Nat} {ao : Option Addr} {n cap k : Nat} {T : Nat → List Value} {row : Option Nat} (h : Lay w B g ao n cap k T) (hg : w.grownBy w' row) (hB : B ≤ w.heap.size) (hne : ∀ q o, ao = some ⟨q, o, none⟩ → n = 0 ∨ some q ≠ row) : Lay w' B g ao n cap k T := by
  refine ⟨h.room, h.nil, ?_⟩
  rcases h.rows with h0 | ⟨b, off, e, hb, hbg, hr⟩
  · exact .inl h0
  · rcases hne b off e with h0 | h1
    · exact .inl h0
    · exact .inr ⟨b, off, e, hb, hbg, fun i hi j v hv => (World.cell?_of_block (w := w) (hg.block b (by omega) h1)).trans (hr i hi j v hv)⟩

/-- the disk's lists lie in no block of bytes alone, and in none of at most 4 cells -/
theorem Has.sa_ne {w : World} {g : Nat} {sa ca : Option Addr} {n sc m cc : Nat} {S : Nat → Sec} {C : Nat → Wr} {f : Int} {d : Bool} (h : Has w g sa ca n sc m cc S C f d) {b : Nat} {cur : Array Value} {t : TypeId} {fr : Nat × Nat} (hb : w.heap[b]? = some (.cells cur t fr))
    (hc : (∀ u ∈ cur.toList, OwnB.IsB u) ∨ cur.size ≤ 4) : (∀ q o, sa = some ⟨q, o, none⟩ → n = 0 ∨ some q ≠ some b) ∧ (∀ q o, ca = some ⟨q, o, none⟩ → m = 0 ∨ some q ≠ some b) := by
  constructor
  · intro q o e
    by_cases h0 : n = 0
    · exact .inl h0
    · refine .inr fun hq => ?_
      injection hq with hq
      subst hq
      obtain ⟨b, off, e1, _, _, hr⟩ := h.ss.rows.resolve_left h0
      rw [e] at e1
      injection e1 with e1
      injection e1 with e1 e2
      subst e1 e2
      have h1 := hr 0 (by omega) 128 _ (secV_read (S 0))
      rw [cell_of_row w q _ cur t fr hb] at h1
      rcases hc with hc | hc
      · obtain ⟨z, hz⟩ := hc _ (by simpa using Array.mem_of_getElem? h1)
        cases hz
      · have := (Array.getElem?_eq_some_iff.1 h1).1
        omega
  · intro q o e
    by_cases h0 : m = 0
    · exact .inl h0
    · refine .inr fun hq => ?_
      injection hq with hq
      subst hq
      obtain ⟨b, off, e1, _, _, hr⟩ := h.cs.rows.resolve_left h0
      rw [e] at e1
      injection e1 with e1
      injection e1 with e1 e2
      subst e1 e2
      rcases hc with hc | hc
      · have h1 := hr 0 (by omega) 0 _ (wrV_place (C 0))
        rw [cell_of_row w q _ cur t fr hb] at h1
        obtain ⟨z, hz⟩ := hc _ (by simpa using Array.mem_of_getElem? h1)
        cases hz
      · have h1 := hr 0 (by omega) (1 + 100) _ (wrV_data (C 0) (by omega))
        rw [cell_of_row w q _ cur t fr hb] at h1
        have := (Array.getElem?_eq_some_iff.1 h1).1
        omega
theorem Has.only {w w' : World} {g : Nat} {sa ca : Option Addr} {n sc m cc : Nat} {S : Nat → Sec} {C : Nat → Wr} {f : Int} {d : Bool} (h : Has w g sa ca n sc m cc S C f d) {b : Nat} {cur : Array Value} {t : TypeId} {fr : Nat × Nat} (hb : w.heap[b]? = some (.cells cur t fr))
    (hc : (∀ u ∈ cur.toList, OwnB.IsB u) ∨ cur.size ≤ 4) (hgb : g ≠ b) (hg : w.grownBy w' (some b)) : Has w' g sa ca n sc m cc S C f d := by
  obtain ⟨h1, h2⟩ := h.sa_ne hb hc
  exact ⟨h.bx.block (hg.block g h.bx.lt (by simpa using hgb)), (h.ss.grown2 hg (Nat.le_refl _) h1).more hg.size, (h.cs.grown2 hg (Nat.le_refl _) h2).more hg.size, h.nb, h.mb⟩
theorem Has.grownNone {w w' : World} {g : Nat} {sa ca : Option Addr} {n sc m cc : Nat} {S : Nat → Sec} {C : Nat → Wr} {f : Int} {d : Bool} (h : Has w g sa ca n sc m cc S C f d) (hg : w.grownBy w' none) : Has w' g sa ca n sc m cc S C f d :=
  h.below ⟨hg.os, hg.tape, hg.output, hg.size, fun i hi => hg.block i hi (by simp)⟩

abbrev u8V (Z : Nat → Int) : Nat → Value := fun k => .int .u8 (Z k)
section
variable {w0 w w' : World} {g b9 b10 m : Nat} {S : Nat → Sec} {C : Nat → Wr} {f : Int} {d : Bool} {V : Nat → Value} {L : Nat → List Int} {Z : Nat → Int}
end
end Dk
end Go.Proofs.YtllejfnmbpjhaaaGreatDoor
