/- ptr: a block's sum by either side; blocks as rows. -/
import Derived.Test.YtnmljjehkdbbjaaPtRight
import Derived.Test.YtnmljjehkdbbjaaJSh
namespace Go.Proofs.Ytnmljjehkdbbjaa
set_option maxRecDepth 20000
namespace Pt
open Go.RowKit Dk Eqb Byt

/-- the step numbers stand where they stand -/
def Kp (w : World) : Prop := (∀ k, k < 64 → w.cell? ⟨0, k, none⟩ = some (.int .u32 (Sha.kT k))) ∧ 0 < w.heap.size
theorem Kp.below {w w' : World} (h : Kp w) (hb : Below w.heap.size w w') : Kp w' := ⟨fun k hk => (hb.cell (p := ⟨0, k, none⟩) h.2).trans (h.1 k hk), Nat.lt_of_lt_of_le h.2 hb.size⟩
theorem Kp.grown {w w' : World} {g : Nat} (h : Kp w) (hg : w.grownBy w' (some g)) (h0 : g ≠ 0) : Kp w' := ⟨fun k hk => (World.cell?_of_block (hg.block 0 h.2 (by simpa using fun e => h0 e.symm))).trans (h.1 k hk), Nat.lt_of_lt_of_le h.2 hg.size⟩
def Bytes (f : Nat → Int) : Prop := ∀ i, i < 128 → 0 ≤ f i ∧ f i < 256
theorem row_of {w : World} {g : Nat} {f : Nat → Int} {t : TypeId} (h : w.heap[g]? = some (.cells (bl f).toArray t (0, 0))) : Row w g 0 128 f :=
  ⟨⟨_, ⟨_, h⟩, fun j hj => by
    rw [Nat.zero_add]
    have := bl_get f hj
    simpa using this⟩⟩
theorem row_range {w : World} {g : Nat} {f : Nat → Int} (h : Row w g 0 128 f) : w.rangeAt g 0 (bl f) := fun j v hv => by
  have hj : j < 128 := by
    have := (List.getElem?_eq_some_iff.1 hv).1
    rwa [bl_length] at this
  rw [h.cell hj]
  rw [bl_get f hj] at hv
  exact hv
theorem sha_lies {w : World} {g B : Nat} {f : Nat → Int} (hr : Row w g 0 128 f) (hB : g < B) : Sha.Lies w B (some ⟨g, 0, none⟩) 128 (tab 128 f) :=
  ⟨by simp, (fun e => by cases e), fun _ => ⟨g, 0, rfl, hB, fun i hi => by
    have hi' : i < 128 := by simpa using hi
    rw [hr.cell hi', tab_getD 128 f hi']⟩⟩
/-- a block's sum -/
def sumD (D : Nat → Int) : Nat → Int := Sha.sumB (Sha.sumS (tab 128 D))
theorem right_neg {c : Int} {q : Nat → Int} {a : Int} (h : a = -1) (hr : rightB ⟨a, c, q⟩ = true) : isHole ⟨a, c, q⟩ = true := by
  subst h
  simpa [rightB, secB] using hr
theorem hole_neg {c : Int} {q : Nat → Int} {a : Int} (h : isHole ⟨a, c, q⟩ = true) : a = -1 := (eqP_iff.1 h).1
def ofV (D : Nat → Int) (a c : Int) : Pn := if isHole ⟨a, c, sumD D⟩ = false ∧ rightB ⟨a, c, sumD D⟩ = true then ⟨a, c, sumD D⟩ else pz
def ofE (D : Nat → Int) (a c : Int) : Int := if isHole ⟨a, c, sumD D⟩ = false ∧ rightB ⟨a, c, sumD D⟩ = true then 0 else 1

theorem zrow : (#[.int .i64 0, .int .i64 0, .int .u8 0, .int .u8 0, .int .u8 0, .int .u8 0, .int .u8 0, .int .u8 0, .int .u8 0, .int .u8 0, .int .u8 0, .int .u8 0, .int .u8 0, .int .u8 0, .int .u8 0, .int .u8 0, .int .u8 0, .int .u8 0, .int .u8 0, .int .u8 0, .int .u8 0, .int .u8 0, .int .u8 0, .int .u8 0, .int .u8 0, .int .u8 0, .int .u8 0, .int .u8 0, .int .u8 0, .int .u8 0, .int .u8 0, .int .u8 0, .int .u8 0, .int .u8 0] : Array Value) = (pV pz).toArray := rfl
end Pt
end Go.Proofs.Ytnmljjehkdbbjaa
