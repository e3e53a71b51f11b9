/- disk: settle, with Flush's closure and with Crash's. -/
import Derived.Test.YtlhncceajpdahaaDkArm
import Derived.Deep.WholeRow
namespace Go.Proofs.Ytlhncceajpdahaa
namespace Dk
open Go.RowKit

theorem zv65 (w : World) : (zeroValue 55).run Try.prog w = .ok (.agg (wrV wr0).toArray) w := (zero_of_info (P := Try.prog) (t := 55) (v := .agg (wrV wr0).toArray) (n := 129) (by kernel_rfl)).1 w
theorem zv29 (w : World) : (zeroValue 41).run Try.prog w = .ok (.agg (bl fun _ => 0).toArray) w := (zero_of_info (P := Try.prog) (t := 41) (v := .agg (bl fun _ => 0).toArray) (n := 128) (by kernel_rfl)).1 w
attribute [local go_sem] zv65 zv29
theorem und29 : Try.prog.underlying 41 = some (.array 128 5) := by kernel_rfl

/-- worlds that are alike below B, but for block g -/
structure Near (B g : Nat) (w w' : World) : Prop where
  os : w'.os = w.os
  tape : w'.tape = w.tape
  output : w'.output = w.output
  size : w.heap.size ≤ w'.heap.size
  block : ∀ k, k < B → k ≠ g → w'.heap[k]? = w.heap[k]?
theorem Near.refl (B g : Nat) (w : World) : Near B g w w := ⟨rfl, rfl, rfl, Nat.le_refl _, fun _ _ _ => rfl⟩
theorem Near.trans {B g : Nat} {a b c : World} (h : Near B g a b) (k : Near B g b c) : Near B g a c :=
  ⟨k.os.trans h.os, k.tape.trans h.tape, k.output.trans h.output, Nat.le_trans h.size k.size, fun i hi hn => (k.block i hi hn).trans (h.block i hi hn)⟩
theorem Near.of_below {B g : Nat} {w w' : World} (h : Below w.heap.size w w') (hB : B ≤ w.heap.size) : Near B g w w' := ⟨h.os, h.tape, h.output, h.size, fun i hi _ => h.block i (by omega)⟩
theorem Near.only {g : Nat} {a w w' : World} (h : a.grownBy w (some g)) (k : Near a.heap.size g w w') : a.grownBy w' (some g) :=
  ⟨k.os.trans h.os, k.tape.trans h.tape, k.output.trans h.output, Nat.le_trans h.size k.size, fun i hi hr => (k.block i hi (by simpa using hr)).trans (h.block i hi hr)⟩
theorem size_setCells (b : Nat) : ∀ (vs : List Value) (o : Nat) (w : World), (w.setCells b o vs).heap.size = w.heap.size
  | [], _, _ => rfl
  | v :: r, o, w => by rw [World.setCells, size_setCells b r]; simp
theorem block_setCells (b k : Nat) (h : k ≠ b) : ∀ (vs : List Value) (o : Nat) (w : World), (w.setCells b o vs).heap[k]? = w.heap[k]?
  | [], _, _ => rfl
  | v :: r, o, w => by rw [World.setCells, block_setCells b k h r, Below.heap_setCell _ _ _ _ h]
theorem flags_setCells (b : Nat) : ∀ (vs : List Value) (o : Nat) (w : World), (w.setCells b o vs).os = w.os ∧ (w.setCells b o vs).tape = w.tape ∧ (w.setCells b o vs).output = w.output
  | [], _, _ => ⟨rfl, rfl, rfl⟩
  | v :: r, o, w => flags_setCells b r (o + 1) (w.setCell ⟨b, o, none⟩ v)
theorem Near.setCells {B g : Nat} {a w : World} (h : Near B g a w) {b : Nat} (hb : B ≤ b) (o : Nat) (vs : List Value) : Near B g a (w.setCells b o vs) := by
  obtain ⟨h1, h2, h3⟩ := flags_setCells b vs o w
  exact ⟨h1.trans h.os, h2.trans h.tape, h3.trans h.output, by rw [size_setCells]; exact h.size, fun k hk hn => (block_setCells b k (by omega) vs o w).trans (h.block k hk hn)⟩
theorem Near.setCell {B g : Nat} {a w : World} (h : Near B g a w) {b : Nat} (hb : B ≤ b) (o : Nat) (v : Value) : Near B g a (w.setCell ⟨b, o, none⟩ v) := h.setCells hb o [v]
theorem Near.put {B g : Nat} {a w : World} (h : Near B g a w) (o : Nat) (v : Value) : Near B g a (w.setCell ⟨g, o, none⟩ v) :=
  ⟨h.os, h.tape, h.output, by simpa using h.size, fun k hk hn => (Below.heap_setCell _ _ _ _ hn).trans (h.block k hk hn)⟩

/-- n sectors in block b, that may be written -/
structure Rw (w : World) (b n : Nat) (S : Nat → Sec) : Prop where
  rows : ∀ i, i < n → w.rangeAt b (i * 130) (secV (S i))
  free : ∀ j, w.frozen? ⟨b, j, none⟩ = false
theorem Rw.block {w w' : World} {b n : Nat} {S : Nat → Sec} (h : Rw w b n S) (hb : w'.heap[b]? = w.heap[b]?) : Rw w' b n S :=
  ⟨fun i hi j v hv => (World.cell?_of_block (w := w) hb).trans (h.rows i hi j v hv), fun j => (World.frozen?_of_block (w := w) hb).trans (h.free j)⟩
theorem Rw.lt {w : World} {b n : Nat} {S : Nat → Sec} (h : Rw w b n S) (hn : 0 < n) : b < w.heap.size := World.block_lt_of_cell? w _ (h.rows 0 hn 128 _ (secV_read _))
theorem Rw.there {w : World} {b n : Nat} {S : Nat → Sec} (h : Rw w b n S) {i o k : Nat} (hi : i < n) (hk : o + k ≤ 130) : w.there b (i * 130 + o) k := fun j hj => by
  refine ⟨?_, h.free _⟩
  have hl : o + j < (secV (S i)).length := by rw [secV_length]; omega
  rw [Nat.add_assoc, h.rows i hi (o + j) _ (List.getElem?_eq_getElem hl)]
  rfl
def upd (S : Nat → Sec) (p : Nat) (s : Sec) (i : Nat) : Sec := if i = p then s else S i
theorem range_setCell_same {w : World} {b o j : Nat} {cs : List Value} (h : w.rangeAt b o cs) (hj : j < cs.length) (v : Value) : (w.setCell ⟨b, o + j, none⟩ v).rangeAt b o (cs.set j v) := fun i u hu => by
  have hi : i < cs.length := by
    have := (List.getElem?_eq_some_iff.1 hu).1
    simpa using this
  by_cases e : i = j
  · subst e
    rw [World.cell?_setCell_same _ _ _ (h i _ (List.getElem?_eq_getElem hi)), ← hu]
    simp [hi]
  · rw [World.cell?_setCell_other _ _ _ _ (by intro h; injection h with _ h; omega)]
    rw [List.getElem?_set_ne (Ne.symm e)] at hu
    exact h i u hu
theorem range_setCell_out {w : World} {b o o' : Nat} {cs : List Value} (h : w.rangeAt b o cs) (ho : o' < o ∨ o + cs.length ≤ o') (v : Value) : (w.setCell ⟨b, o', none⟩ v).rangeAt b o cs := fun i u hu => by
  have hi := (List.getElem?_eq_some_iff.1 hu).1
  rw [World.cell?_setCell_other _ _ _ _ (by intro h; injection h with _ h; omega)]
  exact h i u hu
/-- a sector's data and its first mark are written -/
theorem Rw.write {w : World} {b n : Nat} {S : Nat → Sec} (h : Rw w b n S) {p : Nat} (hp : p < n) (F : Nat → Int) : Rw ((w.setCells b (p * 130) (bl F)).setCell ⟨b, p * 130 + 128, none⟩ (.bool false)) b n (upd S p ⟨F, false, (S p).noWrite⟩) := by
  refine ⟨fun i hi => ?_, fun j => by rw [World.frozen?_setCell, World.frozen?_setCells]; exact h.free j⟩
  unfold upd
  by_cases e : i = p
  · subst e
    rw [if_pos rfl]
    have h0 : (w.setCells b (i * 130) (bl F)).rangeAt b (i * 130) (secV ⟨F, (S i).noRead, (S i).noWrite⟩) := fun j v hv => by
      by_cases hj : j < 128
      · have hv1 : (bl F)[j]? = some v := (bl_get F hj).trans ((secV_data ⟨F, (S i).noRead, (S i).noWrite⟩ hj).symm.trans hv)
        have ht : w.there b (i * 130) (bl F).length := by
          have := h.there hi (o := 0) (k := 128) (by omega)
          rw [bl_length]
          rwa [Nat.add_zero] at this
        clear hv
        generalize bl F = L at hv1 ht ⊢
        exact World.rangeAt_setCells_same w b (i * 130) L ht j v hv1
      · have hl : j < 130 := by
          have := (List.getElem?_eq_some_iff.1 hv).1
          rwa [secV_length] at this
        rw [World.cell?_setCells_out b _ _ w _ (fun _ _ => .inr (by rw [bl_length]; show i * 130 + 128 ≤ i * 130 + j; omega))]
        refine h.rows i hi j v ?_
        rcases (show j = 128 ∨ j = 129 by omega) with rfl | rfl
        · rw [secV_read] at hv ⊢; exact hv
        · rw [secV_write] at hv ⊢; exact hv
    have h1 := range_setCell_same h0 (j := 128) (by rw [secV_length]; omega) (.bool false)
    have e1 : (secV ⟨F, (S i).noRead, (S i).noWrite⟩).set 128 (.bool false) = secV ⟨F, false, (S i).noWrite⟩ := by
      unfold secV
      rw [List.set_append_right _ _ (by rw [bl_length]; exact Nat.le_refl _), bl_length]
      rfl
    rwa [e1] at h1
  · rw [if_neg e]
    have hne : i * 130 + 130 ≤ p * 130 ∨ p * 130 + 130 ≤ i * 130 := by omega
    refine range_setCell_out (World.rangeAt_setCells_apart (h.rows i hi) b (p * 130) (bl F) ?_) ?_ _
    · rw [secV_length, bl_length]
      exact .inr (by omega)
    · rw [secV_length]
      omega

/-- the sectors behind the first j writes that are kept -/
def stS (S : Nat → Sec) (C : Nat → Wr) (kp : Nat → Bool) : Nat → Nat → Sec
  | 0 => S
  | j + 1 => if kp j then upd (stS S C kp j) (C j).place.toNat ⟨(C j).data, false, (stS S C kp j (C j).place.toNat).noWrite⟩ else stS S C kp j

theorem wr_range (x : Wr) {w : World} {q o : Nat} (h : w.rangeAt q o (wrV x)) : w.rangeAt q (o + 1) (bl x.data) := fun j v hv => by
  have := h (1 + j) v (by unfold wrV; rw [Nat.add_comm 1 j]; exact hv)
  rwa [← Nat.add_assoc] at this

/-- while settle goes round -/
structure Rd (B g b q qo n m : Nat) (v0 v1 v2 v3 : Value) (S : Nat → Sec) (C : Nat → Wr) (w wr : World) : Prop where
  bx : Bx wr g v0 v1 v2 v3
  rows : Rw wr b n S
  cache : ∀ i, i < m → wr.rangeAt q (qo + i * 129) (wrV (C i))
  near : Near B g w wr
theorem Rd.below {B g b q qo n m : Nat} {v0 v1 v2 v3 : Value} {S : Nat → Sec} {C : Nat → Wr} {w wr wr' : World} (h : Rd B g b q qo n m v0 v1 v2 v3 S C w wr) (hb : Below wr.heap.size wr wr') (hn : 0 < n) (hB : B ≤ w.heap.size) : Rd B g b q qo n m v0 v1 v2 v3 S C w wr' :=
  ⟨h.bx.below hb, h.rows.block (hb.block b (h.rows.lt hn)), fun i hi j v hv => (hb.cell (World.block_lt_of_cell? wr _ (h.cache i hi j v hv))).trans (h.cache i hi j v hv), h.near.trans (.of_below hb (by have := h.near.size; omega))⟩
theorem Rd.write {B g b q qo n m : Nat} {v0 v1 v2 v3 : Value} {S : Nat → Sec} {C : Nat → Wr} {w wr : World} (h : Rd B g b q qo n m v0 v1 v2 v3 S C w wr) {p : Nat} (hp : p < n) (F : Nat → Int) (hgb : g ≠ b) (hqb : q ≠ b) (hB : B ≤ b) :
    Rd B g b q qo n m v0 v1 v2 v3 (upd S p ⟨F, false, (S p).noWrite⟩) C w ((wr.setCells b (p * 130) (bl F)).setCell ⟨b, p * 130 + 128, none⟩ (.bool false)) :=
  ⟨h.bx.block (by rw [Below.heap_setCell _ _ _ _ hgb, block_setCells b g hgb]), h.rows.write hp F,
    fun i hi => World.rangeAt_setCells_apart (World.rangeAt_setCells_apart (h.cache i hi) b _ _ (.inl hqb)) b _ [.bool false] (.inl hqb), (h.near.setCells hB _ _).setCell hB _ _⟩

theorem flush1_any (i : Nat) (w : World) : Calls Try.prog 16 #[.int .i64 i] w fun e w' => e = .returned (.bool true) ∧ w = w' := by
  go_enter Try.func16, Try.ntmps16
  go_wp2_with fail
  go_ret
  exact ⟨rfl, rfl⟩

end Dk
end Go.Proofs.Ytlhncceajpdahaa
