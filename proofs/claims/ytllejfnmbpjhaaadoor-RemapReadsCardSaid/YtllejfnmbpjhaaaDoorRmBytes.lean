/- remap: a table's bytes are bytes. -/
import Derived.Test.YtllejfnmbpjhaaaDoorJRm
namespace Go.Proofs.YtllejfnmbpjhaaaDoor
set_option maxRecDepth 20000
namespace Rm
open Go.RowKit Byt

def Bytes (f : Nat → Int) : Prop := ∀ i, i < 128 → 0 ≤ f i ∧ f i < 256
theorem put_bytes {f : Nat → Int} (h : Bytes f) (j : Nat) {z : Int} (h0 : 0 ≤ z) (h1 : z < 256) : Bytes (put f j z) := by
  intro i hi
  unfold put
  split
  · exact ⟨h0, h1⟩
  · exact h i hi
theorem putF_bytes {f : Nat → Int} (h : Bytes f) (a k z : Int) : Bytes (Wd.putF 128 a k z f) := by
  unfold Wd.putF
  split
  · exact fun i hi => mix_byte h (fun i _ => Wd.byteAt_bd z i) i hi
  · exact h
theorem head_bytes (gen : Int) {n : Nat} (hn : n ≤ 20) : Bytes (head gen n) := by
  unfold head
  exact put_bytes (putF_bytes (put_bytes (fun _ _ => ⟨by omega, by omega⟩) 0 (by omega) (by omega)) _ _ _) 9 (by omega) (by omega)
theorem pairs_bytes (F T : Nat → Int) {D : Nat → Int} (hD : Bytes D) : ∀ j, Bytes (pairsD F T D j)
  | 0 => hD
  | j + 1 => putF_bytes (putF_bytes (pairs_bytes F T hD j) _ _ _) _ _ _
theorem tab_bytes (gen : Int) {n : Nat} (F T : Nat → Int) (hn : n ≤ 20) : Bytes (tabD gen n F T) := pairs_bytes F T (head_bytes gen hn) n
/-- a row of 128 bytes, as a row that is owned -/
theorem own_block {w : World} {g B : Nat} {f : Nat → Int} (hr : Row w g 0 128 f) (hB : B ≤ g) : Wd.Own w B (some ⟨g, 0, none⟩) 128 128 f := ⟨Nat.le_refl _, (fun e => by cases e), .inr ⟨g, rfl, hB, hr⟩⟩
theorem own_row {w : World} {g B : Nat} {f : Nat → Int} (h : Wd.Own w B (some ⟨g, 0, none⟩) 128 128 f) : Row w g 0 128 f := by
  rcases h.row with ⟨e, _⟩ | ⟨g', e, _, hr⟩
  · cases e
  · injection e with e
    injection e with e
    subst e
    exact hr
theorem row_new {w : World} {f : Nat → Int} {t : TypeId} : Row (w.alloc (.cells (Dk.bl f).toArray t)) w.heap.size 0 128 f :=
  ⟨⟨_, ⟨_, heap_alloc_new _ _⟩, fun j hj => by
    rw [Nat.zero_add]
    have := Dk.bl_get f hj
    simpa using this⟩⟩
theorem row_range {w : World} {g : Nat} {f : Nat → Int} (h : Row w g 0 128 f) : w.rangeAt g 0 (Dk.bl f) := fun j v hv => by
  have hj : j < 128 := by
    have := (List.getElem?_eq_some_iff.1 hv).1
    rwa [Dk.bl_length] at this
  rw [h.cell hj]
  rw [Dk.bl_get f hj] at hv
  exact hv
end Rm
end Go.Proofs.YtllejfnmbpjhaaaDoor
