/- remap: what is written where, opened. -/
import Derived.Test.YtllejfnmbpjhaaaDoorJDo
import Derived.Test.YtllejfnmbpjhaaaDoorRmOpen
namespace Go.Proofs.YtllejfnmbpjhaaaDoor
set_option maxRecDepth 20000
namespace DLaw
open Go.ChangeShapes Go.WideShapes Go.ChangeAt Go.RowKit Go.ChangeMaps Dk

theorem cells_layty : Tryd.prog.cellsOf 44 = 129 := by kernel_rfl
theorem lay_read {H : Type} {enc : TypeId × Value → H} {w : World} {base : Nat} {sp : Nat → Bool} {held : Bool} {fuel : Nat} {cs : List Value} {x : DataW H × List MemPlace} (h : DataW.trod enc Tryd.prog w base sp held fuel 44 cs = some x) : ∃ s : Wr, cs = wrV s ∧ Rm.i64 s.place := by
  obtain ⟨y0, y1, n, _, hl, h0, h1⟩ := trod_struct2 Tryd.underlying44 h
  rw [cells_layty] at hl
  obtain ⟨F, hF⟩ := bl_read h1
  obtain ⟨z, e0, _, w0⟩ := DataW.trod_int under_int h0
  refine ⟨⟨z, F⟩, ?_, wf_i64 w0⟩
  rw [cells_arr] at hF
  rw [cells_int] at e0
  rw [List.take_of_length_le (by simp; omega)] at hF
  show cs = .int .i64 z :: bl F
  rw [← List.take_append_drop 1 cs, ← hF]
  rw [List.drop_zero] at e0
  rw [e0]; rfl
theorem open_lay {H : Type} {enc : TypeId × Value → H} {W : World} {r : Reach} {b0 base : Nat} {sp : Nat → Bool} {held : Bool} {v : Value} {d : DataW H} {ps : List MemPlace}
    (hval : Value.okWide Tryd.prog W r b0 44 v) (h : DataW.Trod enc Tryd.prog W base sp held 44 v d ps) : ∃ (x : Int) (D : Nat → Int), v = .agg (wrV ⟨x, D⟩).toArray ∧ -9223372036854775808 ≤ x ∧ x ≤ 9223372036854775807 := by
  simp only [Value.okWide, Tryd.underlying44] at hval
  obtain ⟨cs, rfl, _, _⟩ := hval
  obtain ⟨fuel, hf⟩ := h
  obtain ⟨⟨x, D⟩, hD, hx⟩ := lay_read hf
  exact ⟨x, D, by rw [← hD]; simp [Value.cells], hx⟩
end DLaw
end Go.Proofs.YtllejfnmbpjhaaaDoor
