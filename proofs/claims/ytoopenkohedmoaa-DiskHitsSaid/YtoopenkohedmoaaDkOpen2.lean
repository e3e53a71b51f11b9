/- disk: a blow, opened. -/
import Derived.Test.YtoopenkohedmoaaDkOpen
namespace Go.Proofs.Ytoopenkohedmoaa
namespace DLaw
open Go.ChangeShapes Go.WideShapes Go.ChangeAt Go.RowKit Go.ChangeMaps Dk

/-- any blow, opened -/
theorem open_blow {H : Type} {enc : TypeId × Value → H} {W : World} {r : Reach} {b0 base : Nat} {sp : Nat → Bool} {held : Bool} {v : Value} {d : DataW H} {ps : List MemPlace}
    (hval : Value.okWide Try.prog W r b0 49 v) (h : DataW.Trod enc Try.prog W base sp held 49 v d ps) :
    ∃ a k p y : Int, v = .agg #[.int .i64 a, .int .i64 k, .int .i64 p, .int .u8 y] := by
  obtain ⟨v0, v1, v2, v3, y0, y1, y2, y3, fu, rfl, rfl, rfl, t0, t1, t2, t3⟩ := Joins.open_agg4 Try.underlying49 (by kernel_rfl) (by kernel_rfl) hval h
  obtain ⟨a, ha, _, _⟩ := DataW.trod_int under_int t0
  obtain ⟨k, hk, _, _⟩ := DataW.trod_int under_int t1
  obtain ⟨p, hp, _, _⟩ := DataW.trod_int under_int t2
  obtain ⟨y, hy, _, _⟩ := DataW.trod_int under_u8 t3
  simp only [List.cons.injEq, and_true] at ha hk hp hy
  exact ⟨a, k, p, y, by rw [ha, hk, hp, hy]⟩
end DLaw
end Go.Proofs.Ytoopenkohedmoaa
