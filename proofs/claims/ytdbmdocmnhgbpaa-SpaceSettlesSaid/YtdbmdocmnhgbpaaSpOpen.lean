/- space: any space, opened. -/
import Derived.Test.YtdbmdocmnhgbpaaSpFf
import Derived.Test.YtdbmdocmnhgbpaaJLp
namespace Go.Proofs.Ytdbmdocmnhgbpaa
set_option maxRecDepth 20000
namespace SLaw
open Go.ChangeShapes Go.WideShapes Go.ChangeAt Go.RowKit Go.ChangeMaps Law Dk Byt Sp

theorem cells_two : Try.prog.cellsOf 23 = 2 := by kernel_rfl
theorem under_two : Try.prog.underlying 23 = some (.array 2 3) := by kernel_rfl
theorem cells_bs : Try.prog.cellsOf 24 = 1 := by kernel_rfl
theorem cells_space : Try.prog.cellsOf 26 = 4 := by kernel_rfl
section
variable {H : Type} {enc : TypeId × Value → H} {w : World} {base : Nat} {sp : Nat → Bool} {held : Bool} {fuel : Nat} {cs : List Value} {x : DataW H × List MemPlace}
theorem two_read (h : DataW.trod enc Try.prog w base sp held fuel 23 cs = some x) : ∃ a b : Int, cs = [.int .i64 a, .int .i64 b] ∧ i64 a ∧ i64 b := by
  obtain ⟨xs, m, _, _, hl, hxl, hall⟩ := DataW.trod_array under_two h
  rw [cells_two] at hl
  have key : ∀ i, i < 2 → ∃ z, cs[i]? = some (.int .i64 z) ∧ i64 z := by
    intro i hi
    have h1 := hall i hi
    rw [cells_int, Nat.mul_one] at h1
    obtain ⟨y, hy⟩ : ∃ y, xs[i]? = some y := ⟨xs[i]'(by omega), by simp⟩
    rw [hy] at h1
    obtain ⟨z, hz, _, hw⟩ := DataW.trod_int under_int h1
    refine ⟨z, ?_, wf_i64 hw⟩
    have := congrArg (·[0]?) hz
    simpa [List.getElem?_take, List.getElem?_drop] using this
  obtain ⟨a, ha, ba⟩ := key 0 (by omega)
  obtain ⟨b, hb, bb⟩ := key 1 (by omega)
  refine ⟨a, b, ?_, ba, bb⟩
  match cs, hl, ha, hb with
  | [c0, c1], _, ha, hb =>
    simp at ha hb
    rw [ha, hb]
end
/-- any space, opened -/
theorem open_space {H : Type} {enc : TypeId × Value → H} {W : World} {r : Reach} {base : Nat} {v : Value} {d : DataW H} {ps : List MemPlace} {ts : List TypeId} {ds : List (DataW H)} {j : Nat}
    (hsz : (DataW.weightsEach Try.prog ts ds).all (· ≤ reachBytes) = true) (ht : ts[j]? = some 26) (hd : ds[j]? = some d)
    (hval : Value.okWide Try.prog W r base 26 v) (h0 : DataW.Trod enc Try.prog W 0 (fun _ => true) true 26 v d ps) (hlt : ∀ x ∈ ps, x.block < W.heap.size) :
    ∃ (A B Z : Int) (ao : Option Addr) (n cap : Nat) (f : Nat → Int), v = .agg #[.int .i64 A, .int .i64 B, .int .i64 Z, .slice ao n cap] ∧ (i64 A ∧ i64 B ∧ i64 Z) ∧ St W W.heap.size ao n cap f := by
  obtain ⟨cs, rfl, hcs⟩ := okWide_struct Try.underlying26 hval
  obtain ⟨fuel, hf⟩ := h0
  obtain ⟨y0, y1, y2, fu, hx, hl, t0, t1, t2⟩ := Go.Deep.trod_struct3 Try.underlying26 hf
  simp only [Prod.mk.injEq] at hx
  obtain ⟨hxd, hxp⟩ := hx
  rw [cells_space] at hl
  obtain ⟨A, B, e0, bA, bB⟩ := two_read t0
  obtain ⟨Z, e1, _, wZ⟩ := DataW.trod_int under_int t1
  have hl' : cs.toList.length = 4 := by simpa [Value.cells] using hl
  rw [cells_two] at e0
  rw [cells_int] at e1
  rw [cells_bs] at t2
  have hc4 : ∃ c0 c1 c2 c3, cs.toList = [c0, c1, c2, c3] := by
    match cs.toList, hl' with
    | [c0, c1, c2, c3], _ => exact ⟨c0, c1, c2, c3, rfl⟩
  obtain ⟨c0, c1, c2, c3, hc⟩ := hc4
  have hcs' : cs = #[c0, c1, c2, c3] := by rw [← Array.toArray_toList (xs := cs), hc]
  subst hcs'
  simp [Value.cells] at e0 e1 t2
  obtain ⟨rfl, rfl⟩ := e0
  subst e1
  have hlt2 : ∀ x ∈ y2.2, x.block < W.heap.size := fun x hx => hlt x (by rw [hxp]; simp [hx])
  rcases open_ints bytes_slice under_u8 cells_u8 t2 with ⟨hs, hx⟩ | ⟨a, len, cap, zs, hs, _, hlc, hm, hz, hx, hcell, hwz⟩
  · simp at hs
    subst hs
    exact ⟨A, B, Z, none, 0, 0, fun _ => 0, rfl, ⟨bA, bB, wf_i64 wZ⟩, ⟨Nat.le_refl _, fun _ => rfl, fun h => absurd rfl h⟩, fun i hi => by omega, by omega⟩
  · simp at hs
    subst hs
    simp only [if_true] at hz
    have hreach : len ≤ 140737488351232 := by
      have hmem : ((lits IntKind.u8 (zs.take len) : List (DataW H)).length + (lits IntKind.u8 (zs.drop len) : List (DataW H)).length) * 1 ∈ DataW.weights Try.prog 26 (.agg [y0.1, y1.1, y2.1]) := by
        rw [hx]
        simp [DataW.weights, DataW.weightsEach, Try.underlying26, Try.underlying24, bytes_u8]
      rw [← hxd] at hmem
      have h9 := List.all_eq_true.1 hsz _ (DataW.weights_mem_each ht hd _ hmem)
      simp [lits, reachBytes] at h9
      omega
    refine ⟨A, B, Z, some a, len, cap, fun i => zs.getD i 0, rfl, ⟨bA, bB, wf_i64 wZ⟩, ⟨by simp [tab]; omega, by simp, fun hne => ?_⟩, fun i hi => ?_, by omega⟩
    · have hpos : 0 < len := by
        rcases Nat.eq_zero_or_pos len with h | h
        · subst h; exact absurd rfl hne
        · exact h
      obtain ⟨b, off, spot⟩ := a
      have hspot : spot = none := by simpa [Addr.add] using World.cell?_spot (hcell 0 (by omega))
      subst hspot
      rw [hx] at hlt2
      refine ⟨b, off, rfl, hlt2 (.cell b off) (MemPlace.mem_row.2 ⟨0, by omega, by simp⟩), fun i hi => ?_⟩
      have hi' : i < len := by simpa [tab] using hi
      rw [tab_getD len _ hi', ← add_plain, hcell i (by omega)]
    · have h1 : zs.getD i 0 ∈ zs := by
        rw [List.getD_eq_getElem?_getD, List.getElem?_eq_getElem (by omega : i < zs.length)]
        exact List.getElem_mem _
      have := hwz _ h1
      have h1 : IntKind.u8.min = 0 := rfl
      have h2 : IntKind.u8.max = 255 := rfl
      simp only [Lit.wf, Bool.and_eq_true, decide_eq_true_eq] at this
      omega
end SLaw
end Go.Proofs.Ytdbmdocmnhgbpaa
