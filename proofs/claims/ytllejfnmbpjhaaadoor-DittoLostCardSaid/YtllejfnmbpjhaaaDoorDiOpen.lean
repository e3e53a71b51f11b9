/- ditto: blows, bools, two bytes, opened. -/
import Derived.Test.YtllejfnmbpjhaaaDoorPtOpen
import Derived.Lib.SmallJoins
namespace Go.Proofs.YtllejfnmbpjhaaaDoor
set_option maxRecDepth 20000
namespace DiLw
open Go.ChangeShapes Go.WideShapes Go.ChangeAt Go.RowKit Go.ChangeMaps Law PLaw Dk

theorem under_bl : Tryd.prog.underlying 4 = some .bool := by kernel_rfl
/-- any blow, opened -/
theorem open_blow6 {H : Type} {enc : TypeId × Value → H} {W : World} {r : Reach} {b0 base : Nat} {sp : Nat → Bool} {held : Bool} {v : Value} {d : DataW H} {ps : List MemPlace}
    (hval : Value.okWide Tryd.prog W r b0 77 v) (h : DataW.Trod enc Tryd.prog W base sp held 77 v d ps) :
    ∃ (s : Bool) (k p y : Int), v = .agg #[.bool s, .int .u8 k, .int .u8 p, .int .u8 y] ∧ (0 ≤ k ∧ k < 256) ∧ (0 ≤ p ∧ p < 256) := by
  obtain ⟨v0, v1, v2, v3, y0, y1, y2, y3, fu, rfl, rfl, rfl, t0, t1, t2, t3⟩ := Joins.open_agg4 Tryd.underlying77 (by kernel_rfl) (by kernel_rfl) hval h
  obtain ⟨s, hs, _⟩ := DataW.trod_bool under_bl t0
  obtain ⟨k, hk, _, wk⟩ := DataW.trod_int under_u8 t1
  obtain ⟨p, hp, _, wp⟩ := DataW.trod_int under_u8 t2
  obtain ⟨y, hy, _, _⟩ := DataW.trod_int under_u8 t3
  simp only [List.cons.injEq, and_true] at hs hk hp hy
  exact ⟨s, k, p, y, by rw [hs, hk, hp, hy], wf_u8 wk, wf_u8 wp⟩
/-- any bool, opened -/
theorem open_bool6 {H : Type} {enc : TypeId × Value → H} {W : World} {r : Reach} {b0 base : Nat} {sp : Nat → Bool} {held : Bool} {v : Value} {d : DataW H} {ps : List MemPlace}
    (hval : Value.okWide Tryd.prog W r b0 4 v) (h : DataW.Trod enc Tryd.prog W base sp held 4 v d ps) : ∃ b : Bool, v = .bool b := by
  obtain ⟨b, e, _⟩ := Go.RowKit.open_bool under_bl hval h
  exact ⟨b, e⟩
/-- any two bytes, opened -/
theorem open_pair6 {H : Type} {enc : TypeId × Value → H} {W : World} {r : Reach} {b0 base : Nat} {sp : Nat → Bool} {held : Bool} {v : Value} {d : DataW H} {ps : List MemPlace}
    (hval : Value.okWide Tryd.prog W r b0 92 v) (h : DataW.Trod enc Tryd.prog W base sp held 92 v d ps) : ∃ y z : Int, v = .agg #[.int .u8 y, .int .u8 z] ∧ (0 ≤ y ∧ y < 256) ∧ (0 ≤ z ∧ z < 256) := by
  have hu : Tryd.prog.underlying 92 = some (.array 2 5) := by kernel_rfl
  simp only [Value.okWide, hu] at hval
  obtain ⟨cs, rfl, _, _⟩ := hval
  obtain ⟨fuel, hf⟩ := h
  obtain ⟨D, hD, hb⟩ := bytes_read hu (by kernel_rfl) hf
  refine ⟨D 0, D 1, ?_, hb 0 (by omega), hb 1 (by omega)⟩
  have hD' : cs.toList = [.int .u8 (D 0), .int .u8 (D 1)] := hD
  rw [← Array.toArray_toList (xs := cs), hD']
end DiLw
end Go.Proofs.YtllejfnmbpjhaaaDoor
