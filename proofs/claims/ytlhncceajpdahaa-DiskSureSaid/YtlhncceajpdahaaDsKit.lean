/- DiskSure: what holds while it is played: the disk, sure, later. -/
import Derived.Test.YtlhncceajpdahaaDsMath
import Derived.Test.YtlhncceajpdahaaDkAlive
import Derived.Test.YtlhncceajpdahaaOwnB
namespace Go.Proofs.Ytlhncceajpdahaa
namespace Dk
open Go.RowKit

/-- a block of n cells F 0 .. F (n - 1) -/
def Cells (w : World) (g : Nat) (t : TypeId) (n : Nat) (F : Nat → Value) : Prop := w.heap[g]? = some (.cells ((List.range n).map F).toArray t (0, 0))
section
variable {w w' : World} {g : Nat} {t : TypeId} {n : Nat} {F : Nat → Value}
theorem Cells.cell (h : Cells w g t n F) {k : Nat} (hk : k < n) : w.cell? ⟨g, k, none⟩ = some (F k) := by
  rw [cell_of_row w g k _ _ _ h]; simp [hk]
theorem Cells.free (h : Cells w g t n F) (k : Nat) : w.frozen? ⟨g, k, none⟩ = false := frozen_of_row w g k _ _ h
theorem Cells.lt (h : Cells w g t n F) : g < w.heap.size := (Array.getElem?_eq_some_iff.1 h).1
theorem Cells.block (h : Cells w g t n F) (hb : w'.heap[g]? = w.heap[g]?) : Cells w' g t n F := hb.trans h
def updV (F : Nat → Value) (k : Nat) (v : Value) (j : Nat) : Value := if j = k then v else F j
theorem Cells.set (h : Cells w g t n F) (k : Nat) (v : Value) : Cells (w.setCell ⟨g, k, none⟩ v) g t n (updV F k v) := by
  unfold Cells
  rw [heap_setCell_same w g k _ _ v h]
  congr 3
  apply Array.ext'
  simp only [Array.toList_setIfInBounds]
  apply List.ext_getElem?
  intro j
  by_cases hj : j < n
  · by_cases e : k = j
    · subst e; simp [updV, hj]
    · rw [List.getElem?_set_ne e]
      have e' : ¬ j = k := fun h => e h.symm
      simp [updV, hj, e']
  · rw [List.getElem?_eq_none (by simp; omega), List.getElem?_eq_none (by simp; omega)]
theorem Cells.congr {F' : Nat → Value} (h : Cells w g t n F) (he : ∀ k, k < n → F k = F' k) : Cells w g t n F' := by
  unfold Cells
  have : (List.range n).map F = (List.range n).map F' := List.map_congr_left fun k hk => he k (by simpa using hk)
  rw [← this]; exact h
end

theorem Lay.grown2 {w w' : World} {B g : Nat} {ao : Option Addr} {n cap k : Nat} {T : Nat → List Value} {row : Option Nat} (h : Lay w B g ao n cap k T) (hg : w.grownBy w' row) (hB : B ≤ w.heap.size) (hne : ∀ q o, ao = some ⟨q, o, none⟩ → n = 0 ∨ some q ≠ row) : Lay w' B g ao n cap k T := by
  refine ⟨h.room, h.nil, ?_⟩
  rcases h.rows with h0 | ⟨b, off, e, hb, hbg, hr⟩
  · exact .inl h0
  · rcases hne b off e with h0 | h1
    · exact .inl h0
    · exact .inr ⟨b, off, e, hb, hbg, fun i hi j v hv => (World.cell?_of_block (w := w) (hg.block b (by omega) h1)).trans (hr i hi j v hv)⟩

/-- the disk's lists lie in no block of bytes alone, and in none of at most 4 cells -/
theorem Has.sa_ne {w : World} {g : Nat} {sa ca : Option Addr} {n sc m cc : Nat} {S : Nat → Sec} {C : Nat → Wr} {f : Int} {d : Bool} (h : Has w g sa ca n sc m cc S C f d) {b : Nat} {cur : Array Value} {t : TypeId} {fr : Nat × Nat} (hb : w.heap[b]? = some (.cells cur t fr))
    (hc : (∀ u ∈ cur.toList, OwnB.IsB u) ∨ cur.size ≤ 4) : (∀ q o, sa = some ⟨q, o, none⟩ → n = 0 ∨ some q ≠ some b) ∧ (∀ q o, ca = some ⟨q, o, none⟩ → m = 0 ∨ some q ≠ some b) := by
  constructor
  · intro q o e
    by_cases h0 : n = 0
    · exact .inl h0
    · refine .inr fun hq => ?_
      injection hq with hq
      subst hq
      obtain ⟨b, off, e1, _, _, hr⟩ := h.ss.rows.resolve_left h0
      rw [e] at e1
      injection e1 with e1
      injection e1 with e1 e2
      subst e1 e2
      have h1 := hr 0 (by omega) 128 _ (secV_read (S 0))
      rw [cell_of_row w q _ cur t fr hb] at h1
      rcases hc with hc | hc
      · obtain ⟨z, hz⟩ := hc _ (by simpa using Array.mem_of_getElem? h1)
        cases hz
      · have := (Array.getElem?_eq_some_iff.1 h1).1
        omega
  · intro q o e
    by_cases h0 : m = 0
    · exact .inl h0
    · refine .inr fun hq => ?_
      injection hq with hq
      subst hq
      obtain ⟨b, off, e1, _, _, hr⟩ := h.cs.rows.resolve_left h0
      rw [e] at e1
      injection e1 with e1
      injection e1 with e1 e2
      subst e1 e2
      rcases hc with hc | hc
      · have h1 := hr 0 (by omega) 0 _ (wrV_place (C 0))
        rw [cell_of_row w q _ cur t fr hb] at h1
        obtain ⟨z, hz⟩ := hc _ (by simpa using Array.mem_of_getElem? h1)
        cases hz
      · have h1 := hr 0 (by omega) (1 + 100) _ (wrV_data (C 0) (by omega))
        rw [cell_of_row w q _ cur t fr hb] at h1
        have := (Array.getElem?_eq_some_iff.1 h1).1
        omega
theorem Has.only {w w' : World} {g : Nat} {sa ca : Option Addr} {n sc m cc : Nat} {S : Nat → Sec} {C : Nat → Wr} {f : Int} {d : Bool} (h : Has w g sa ca n sc m cc S C f d) {b : Nat} {cur : Array Value} {t : TypeId} {fr : Nat × Nat} (hb : w.heap[b]? = some (.cells cur t fr))
    (hc : (∀ u ∈ cur.toList, OwnB.IsB u) ∨ cur.size ≤ 4) (hgb : g ≠ b) (hg : w.grownBy w' (some b)) : Has w' g sa ca n sc m cc S C f d := by
  obtain ⟨h1, h2⟩ := h.sa_ne hb hc
  exact ⟨h.bx.block (hg.block g h.bx.lt (by simpa using hgb)), (h.ss.grown2 hg (Nat.le_refl _) h1).more hg.size, (h.cs.grown2 hg (Nat.le_refl _) h2).more hg.size, h.nb, h.mb⟩
theorem Has.grownNone {w w' : World} {g : Nat} {sa ca : Option Addr} {n sc m cc : Nat} {S : Nat → Sec} {C : Nat → Wr} {f : Int} {d : Bool} (h : Has w g sa ca n sc m cc S C f d) (hg : w.grownBy w' none) : Has w' g sa ca n sc m cc S C f d :=
  h.below ⟨hg.os, hg.tape, hg.output, hg.size, fun i hi => hg.block i hi (by simp)⟩

abbrev u8V (Z : Nat → Int) : Nat → Value := fun k => .int .u8 (Z k)
/-- the disk, what is sure, what came later -/
structure Sure (w0 : World) (g b9 b10 : Nat) (m : Nat) (S : Nat → Sec) (C : Nat → Wr) (f : Int) (d : Bool) (V : Nat → Value) (L : Nat → List Int) (Z : Nat → Int) (w : World) : Prop where
  has : ∃ sa sc ca cc, Has w g sa ca 4 sc m cc S C f d
  sure : Cells w b9 34 4 (u8V Z)
  late : Cells w b10 36 4 V
  own : ∀ k, k < 4 → OwnB.Own w (b10 + 1) 5 (V k) (L k)
  apart : ∀ j k, j < 4 → k < 4 → j ≠ k → (V j).ownBlock = none ∨ (V j).ownBlock ≠ (V k).ownBlock
  below : Below w0.heap.size w0 w
  far : w0.heap.size ≤ g ∧ g < b9 ∧ b9 < b10
section
variable {w0 w w' : World} {g b9 b10 m : Nat} {S : Nat → Sec} {C : Nat → Wr} {f : Int} {d : Bool} {V : Nat → Value} {L : Nat → List Int} {Z : Nat → Int}
theorem Sure.sizes (h : Sure w0 g b9 b10 m S C f d V L Z w) : b10 < w.heap.size := h.late.lt
theorem Sure.more (h : Sure w0 g b9 b10 m S C f d V L Z w) (hb : Below w.heap.size w w') : Sure w0 g b9 b10 m S C f d V L Z w' := by
  obtain ⟨sa, sc, ca, cc, hh⟩ := h.has
  have hg : w.grownBy w' none := ⟨hb.os, hb.tape, hb.output, hb.size, fun i hi _ => hb.block i hi⟩
  exact ⟨⟨sa, sc, ca, cc, hh.below hb⟩, h.sure.block (hb.block _ h.sure.lt), h.late.block (hb.block _ h.late.lt), fun k hk => (h.own k hk).kept hg (by cases (V k).ownBlock <;> simp), h.apart, h.below.trans (hb.mono h.below.size), h.far⟩
theorem Sure.turn {m' : Nat} {S' : Nat → Sec} {C' : Nat → Wr} {f' : Int} {d' : Bool} (h : Sure w0 g b9 b10 m S C f d V L Z w) (hg : w.grownBy w' (some g)) (hh : ∃ sa sc ca cc, Has w' g sa ca 4 sc m' cc S' C' f' d') : Sure w0 g b9 b10 m' S' C' f' d' V L Z w' := by
  have h1 := h.far
  exact ⟨hh, h.sure.block (hg.block _ h.sure.lt (by simp; omega)), h.late.block (hg.block _ h.late.lt (by simp; omega)), fun k hk => (h.own k hk).kept hg (by
    cases e : (V k).ownBlock with
    | none => exact .inl rfl
    | some b => exact .inr (by have := ((h.own k hk).lt b e).1; simp; omega)), h.apart, h.below.grown hg h.below.size (fun k hk => by injection hk with hk; omega), h.far⟩
/-- a store into later, of a slice that is known to be good -/
theorem later_of {sa ca : Option Addr} {sc cc : Nat} (hh : Has w g sa ca 4 sc m cc S C f d) (hs : Cells w b9 34 4 (u8V Z)) (hl : Cells w b10 36 4 V) (k : Nat) (own : ∀ j, j < 4 → j ≠ k → OwnB.Own w (b10 + 1) 5 (V j) (L j))
    (apart : ∀ i j, i < 4 → j < 4 → i ≠ k → j ≠ k → i ≠ j → (V i).ownBlock = none ∨ (V i).ownBlock ≠ (V j).ownBlock) (below : Below w0.heap.size w0 w) (h1 : w0.heap.size ≤ g ∧ g < b9 ∧ b9 < b10)
    (v : Value) (l : List Int) (ho : OwnB.Own w (b10 + 1) 5 v l) (ha : ∀ j, j < 4 → j ≠ k → v.ownBlock = none ∨ (v.ownBlock ≠ (V j).ownBlock)) :
    Sure w0 g b9 b10 m S C f d (updV V k v) (fun j => if j = k then l else L j) Z (w.setCell ⟨b10, k, none⟩ v) := by
  have hg : w.grownBy (w.setCell ⟨b10, k, none⟩ v) (some b10) := only_put _ _ _ _
  have hkept : ∀ (u : Value) (l : List Int), OwnB.Own w (b10 + 1) 5 u l → OwnB.Own (w.setCell ⟨b10, k, none⟩ v) (b10 + 1) 5 u l := fun u l hu => hu.kept hg (by
    cases e : u.ownBlock with
    | none => exact .inl rfl
    | some b => exact .inr (by have := (hu.lt b e).1; simp; omega))
  refine ⟨⟨sa, sc, ca, cc, hh.only hl (.inr (by simp)) (by omega) hg⟩, hs.block (hg.block _ hs.lt (by simp; omega)), hl.set k v, ?_, ?_, below.grown hg below.size (fun k hk => by injection hk with hk; omega), h1⟩
  · intro j hj
    by_cases e : j = k
    · subst e; simp only [updV, if_true]; exact hkept v l ho
    · simp only [updV, if_neg e]; exact hkept _ _ (own j hj e)
  · intro i j hi hj hij
    by_cases e : i = k
    · subst e
      simp only [updV, if_true, if_neg (fun e => hij e.symm : ¬ j = i)]
      exact ha j hj (fun e => hij e.symm)
    · by_cases e2 : j = k
      · subst e2
        simp only [updV, if_true, if_neg e]
        rcases ha i hi e with h0 | h0
        · rw [h0]
          cases (V i).ownBlock with
          | none => exact .inl rfl
          | some b => exact .inr (by simp)
        · exact .inr (fun h => h0 h.symm)
      · simp only [updV, if_neg e, if_neg e2]
        exact apart i j hi hj e e2 hij
theorem Sure.later (h : Sure w0 g b9 b10 m S C f d V L Z w) (k : Nat) (v : Value) (l : List Int) (ho : OwnB.Own w (b10 + 1) 5 v l) (ha : ∀ j, j < 4 → j ≠ k → v.ownBlock = none ∨ (v.ownBlock ≠ (V j).ownBlock)) :
    Sure w0 g b9 b10 m S C f d (updV V k v) (fun j => if j = k then l else L j) Z (w.setCell ⟨b10, k, none⟩ v) := by
  obtain ⟨sa, sc, ca, cc, hh⟩ := h.has
  exact later_of hh h.sure h.late k (fun j hj _ => h.own j hj) (fun i j hi hj _ _ hij => h.apart i j hi hj hij) h.below h.far v l ho ha
/-- append to one of later -/
theorem Sure.appended (h : Sure w0 g b9 b10 m S C f d V L Z w) (k : Nat) (hk : k < 4) (v : Value) (l : List Int) (ho : OwnB.Own w' (b10 + 1) 5 v l) (hg : w.grownBy w' (V k).ownBlock) (hv : v.ownBlock = (V k).ownBlock ∨ v.ownBlock = some w.heap.size) :
    Sure w0 g b9 b10 m S C f d (updV V k v) (fun j => if j = k then l else L j) Z (w'.setCell ⟨b10, k, none⟩ v) := by
  obtain ⟨sa, sc, ca, cc, hh⟩ := h.has
  have h1 := h.far
  have hs := h.sizes
  have hh' : Has w' g sa ca 4 sc m cc S C f d := by
    cases e : (V k).ownBlock with
    | none => rw [e] at hg; exact hh.grownNone hg
    | some b =>
      rw [e] at hg
      rcases h.own k hk with ⟨h0, _⟩ | ⟨q, cap, cur, h0, hq, hb, _, _, _, _, hcb⟩
      · rw [h0] at e; cases e
      · rw [h0] at e
        injection e with e
        subst e
        exact hh.only hb (.inl hcb) (by show g ≠ q; omega) hg
  have hne : ∀ b, b ≤ b10 → some b ≠ (V k).ownBlock := by
    intro b hb e
    have := ((h.own k hk).lt b e.symm).1
    omega
  have hbel : Below w0.heap.size w0 w' := h.below.grown hg h.below.size (fun b hb => by have := ((h.own k hk).lt b hb).1; omega)
  refine later_of hh' (h.sure.block (hg.block _ (by omega) (hne _ (by omega)))) (h.late.block (hg.block _ hs (hne _ (Nat.le_refl _)))) k (fun j hj e => (h.own j hj).kept hg (h.apart j k hj hk e)) (fun i j hi hj _ _ hij => h.apart i j hi hj hij) hbel h.far v l ho ?_
  intro j hj hjk
  rcases hv with hv | hv
  · rw [hv]; exact h.apart k j hk hj (fun e => hjk e.symm)
  · rw [hv]
    refine .inr fun e => ?_
    have := ((h.own j hj).lt _ e.symm).2
    omega
/-- a store into sure -/
theorem Sure.put (h : Sure w0 g b9 b10 m S C f d V L Z w) (k : Nat) (z : Int) : Sure w0 g b9 b10 m S C f d V L (fun j => if j = k then z else Z j) (w.setCell ⟨b9, k, none⟩ (.int .u8 z)) := by
  obtain ⟨sa, sc, ca, cc, hh⟩ := h.has
  have h1 := h.far
  have hg : w.grownBy (w.setCell ⟨b9, k, none⟩ (.int .u8 z)) (some b9) := only_put _ _ _ _
  refine ⟨⟨sa, sc, ca, cc, hh.only h.sure (.inr (by simp)) (by omega) hg⟩, ?_, h.late.block (hg.block _ h.late.lt (by simp; omega)), ?_, h.apart, h.below.grown hg h.below.size (fun k hk => by injection hk with hk; omega), h.far⟩
  · refine (h.sure.set k (.int .u8 z)).congr fun j _ => ?_
    simp only [updV, u8V]; split <;> rfl
  · intro j hj
    exact (h.own j hj).kept hg (by
      cases e : (V j).ownBlock with
      | none => exact .inl rfl
      | some b => exact .inr (by have := ((h.own j hj).lt b e).1; simp; omega))
end
end Dk
end Go.Proofs.Ytlhncceajpdahaa
