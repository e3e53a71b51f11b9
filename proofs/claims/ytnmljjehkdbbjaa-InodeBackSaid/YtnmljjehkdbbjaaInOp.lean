/- inode: any node, any 64 bytes, opened. -/
import Derived.Test.YtnmljjehkdbbjaaJLp
import Derived.Test.YtnmljjehkdbbjaaInM
namespace Go.Proofs.Ytnmljjehkdbbjaa
set_option maxRecDepth 20000
namespace ILaw
open Go.ChangeShapes Go.WideShapes Go.ChangeAt Go.RowKit Go.ChangeMaps Law Dk Byt PLaw

theorem cells_stem : Try.prog.cellsOf 26 = 36 := by kernel_rfl
theorem cells_node : Try.prog.cellsOf 28 = 39 := by kernel_rfl
theorem cells_64 : Try.prog.cellsOf 30 = 64 := by kernel_rfl
theorem under_64 : Try.prog.underlying 30 = some (.array 64 5) := by kernel_rfl
section
variable {H : Type} {enc : TypeId × Value → H} {w : World} {base : Nat} {sp : Nat → Bool} {held : Bool} {fuel : Nat} {cs : List Value} {x : DataW H × List MemPlace}
/-- the cells of a stem -/
theorem stem_read (h : DataW.trod enc Try.prog w base sp held fuel 26 cs = some x) : ∃ (p : Pt.Pn) (z c : Int), cs = In.sV p z c ∧ PtOk p := by
  obtain ⟨y0, y1, y2, n, _, hl, h0, h1, h2⟩ := Go.Deep.trod_struct3 Try.underlying26 h
  rw [cells_stem] at hl
  obtain ⟨p, hp⟩ := ptr_read h0
  obtain ⟨z1, e1, _, _⟩ := DataW.trod_int under_int h1
  obtain ⟨z2, e2, _, _⟩ := DataW.trod_int under_int h2
  rw [cells_int] at e1 e2
  rw [cells_ptr] at hp
  refine ⟨p.1, z1, z2, ?_, p.2⟩
  show cs = Pt.pV p.1 ++ [Value.int .i64 z1, Value.int .i64 z2]
  have e3 : cs.drop 35 = [.int .i64 z2] := by
    rwa [List.take_of_length_le (by rw [List.length_drop]; show cs.length - 35 ≤ 1; omega)] at e2
  have e4 : cs.drop 34 = [.int .i64 z1, .int .i64 z2] := by
    rw [← List.take_append_drop 1 (cs.drop 34), e1, List.drop_drop, e3]
    rfl
  rw [List.drop_zero] at hp
  rw [← hp, ← e4, List.take_append_drop]
/-- the cells of a node -/
theorem node_read (h : DataW.trod enc Try.prog w base sp held fuel 28 cs = some x) : ∃ n : In.Nd, cs = In.nV n ∧ PtOk n.p := by
  obtain ⟨f0, f1, f2, f3, ht, t0, o0, t1, o1, t2, o2, t3, o3⟩ : ∃ f0 f1 f2 f3 : Field, Try.prog.underlying 28 = some (.struct #[f0, f1, f2, f3]) ∧ f0.type = 3 ∧ f0.offset = 0 ∧ f1.type = 3 ∧ f1.offset = 1 ∧ f2.type = 3 ∧ f2.offset = 2 ∧ f3.type = 26 ∧ f3.offset = 3 := ⟨_, _, _, _, Try.underlying28, rfl, rfl, rfl, rfl, rfl, rfl, rfl, rfl⟩
  obtain ⟨xs, m, _, _, hl, hlen, hf⟩ := DataW.trod_struct ht h
  rw [cells_node] at hl
  match xs, hlen with
  | [y0, y1, y2, y3], _ =>
    have h0 := hf 0 f0 rfl
    have h1 := hf 1 f1 rfl
    have h2 := hf 2 f2 rfl
    have h3 := hf 3 f3 rfl
    rw [t0, o0] at h0
    rw [t1, o1] at h1
    rw [t2, o2] at h2
    rw [t3, o3] at h3
    obtain ⟨z0, e0, _, _⟩ := DataW.trod_int under_int h0
    obtain ⟨z1, e1, _, _⟩ := DataW.trod_int under_int h1
    obtain ⟨z2, e2, _, _⟩ := DataW.trod_int under_int h2
    obtain ⟨p, z, c, e3, hp⟩ := stem_read h3
    rw [cells_int] at e0 e1 e2
    rw [cells_stem, List.take_of_length_le (by simp; omega)] at e3
    refine ⟨⟨z0, z1, z2, p, z, c⟩, ?_, hp⟩
    show cs = .int .i64 z0 :: .int .i64 z1 :: .int .i64 z2 :: In.sV p z c
    rw [← e3]
    have d2 : cs.drop 2 = .int .i64 z2 :: cs.drop 3 := by
      rw [← List.take_append_drop 1 (cs.drop 2), e2, List.drop_drop]
      rfl
    have d1 : cs.drop 1 = .int .i64 z1 :: cs.drop 2 := by
      rw [← List.take_append_drop 1 (cs.drop 1), e1, List.drop_drop]
      rfl
    rw [← d2, ← d1, ← List.take_append_drop 1 cs]
    rw [List.drop_zero] at e0
    rw [e0]
    rfl
end
/-- any node, opened -/
theorem open_node {H : Type} {enc : TypeId × Value → H} {W : World} {r : Reach} {b0 base : Nat} {sp : Nat → Bool} {held : Bool} {v : Value} {d : DataW H} {ps : List MemPlace}
    (hval : Value.okWide Try.prog W r b0 28 v) (h : DataW.Trod enc Try.prog W base sp held 28 v d ps) : ∃ n : In.Nd, v = .agg (In.nV n).toArray ∧ In.SB n.p := by
  obtain ⟨cs, rfl, _⟩ := okWide_struct Try.underlying28 hval
  obtain ⟨fuel, hf⟩ := h
  obtain ⟨n, hn, hp⟩ := node_read hf
  refine ⟨n, ?_, hp.2.2⟩
  have hn' : cs.toList = In.nV n := by simpa [Value.cells] using hn
  rw [← hn']
/-- any 64 bytes, opened -/
theorem open_64 {H : Type} {enc : TypeId × Value → H} {W : World} {r : Reach} {b0 base : Nat} {sp : Nat → Bool} {held : Bool} {v : Value} {d : DataW H} {ps : List MemPlace}
    (hval : Value.okWide Try.prog W r b0 30 v) (h : DataW.Trod enc Try.prog W base sp held 30 v d ps) : ∃ F : Nat → Int, v = .agg (In.b64 F) ∧ ∀ i, i < 64 → 0 ≤ F i ∧ F i < 256 := by
  simp only [Value.okWide, under_64] at hval
  obtain ⟨cs, rfl, _, _⟩ := hval
  obtain ⟨fuel, hf⟩ := h
  obtain ⟨D, hD, hb⟩ := bytes_read under_64 cells_64 hf
  refine ⟨D, ?_, hb⟩
  have hD' : cs.toList = (List.range 64).map (fun j => .int .u8 (D j)) := by simpa [Value.cells] using hD
  have e : cs = In.b64 D := by
    apply Array.ext_getElem?
    intro i
    rw [← Array.getElem?_toList, hD']
    by_cases hi : i < 64
    · rw [In.b64_get D hi, List.getElem?_map, List.getElem?_range hi]
      rfl
    · rw [Array.getElem?_eq_none (by rw [In.b64_size]; omega), List.getElem?_eq_none (by rw [List.length_map, List.length_range]; omega)]
  rw [e]
end ILaw
end Go.Proofs.Ytnmljjehkdbbjaa
