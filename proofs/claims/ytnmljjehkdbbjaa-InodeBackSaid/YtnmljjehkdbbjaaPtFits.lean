/- ptr: Fits, and the reference's (made by tools/gen_pfits.py). -/
import Derived.Test.YtnmljjehkdbbjaaPtSum
namespace Go.Proofs.Ytnmljjehkdbbjaa
set_option maxRecDepth 20000
namespace Pt
open Go.RowKit Dk Eqb Byt

attribute [local irreducible] wpQuiet
def fitsB (p : Pn) (D : Nat → Int) : Bool := if isHole p then Wd.zeroB D 128 else eqB 32 p.S (sumD D)
theorem rowS {w : World} {g : Nat} {p : Pn} {t : TypeId} (h : w.heap[g]? = some (.cells (pV p).toArray t (0, 0))) : w.rangeAt g 2 (Sha.arr 32 (Sha.vu8 p.S)).toList := fun j v hv => by
  have hj : j < 32 := by
    have := (List.getElem?_eq_some_iff.1 hv).1
    simpa [Sha.arr_size] using this
  rw [cS_pt h hj]
  have h1 : (Sha.arr 32 (Sha.vu8 p.S)).toList[j]? = some (.int .u8 (p.S j)) := by
    have := Sha.arr_get (Sha.vu8 p.S) hj
    simpa [Sha.vu8] using this
  rw [h1] at hv
  exact hv
theorem undS : Try.prog.underlying 22 = some (.array 32 5) := by kernel_rfl
theorem sizeS (S : Nat → Int) : (Try.prog.info? 22).map (·.size) = some (Sha.arr 32 (Sha.vu8 S)).toList.length := by rw [Array.length_toList, Sha.arr_size]; kernel_rfl
theorem guardS : Try.prog.eqGuardType Try.prog.depth 22 = false := by kernel_rfl
theorem zero_eqB (D : Nat → Int) : eqB 128 D (fun _ => 0) = Wd.zeroB D 128 := by
  rw [Bool.eq_iff_iff, eqB_iff, Wd.zeroB_true]
theorem reads_row {w : World} {g : Nat} {f : Nat → Int} (h : Row w g 0 128 f) : Wd.Reads w (some ⟨g, 0, none⟩) 128 128 f := ⟨Nat.le_refl _, (fun e => by cases e), .inr ⟨g, 0, rfl, fun _ hj => h.cell hj⟩⟩
end Pt
end Go.Proofs.Ytnmljjehkdbbjaa
