/- geom: == of layouts; Quota and the reference's. -/
import Derived.Test.YtaocglbibnjjoaaGmSec
import Derived.Great.BuildSlice
import Derived.DeepKeys
import Derived.ChangeKeysEq
import Derived.Outline
namespace Go.Proofs.Ytaocglbibnjjoaa
set_option maxRecDepth 20000
namespace Gm
open Go.RowKit

theorem part_g (X : Array Value) (o : Nat) (z : Int) (h : X[o]? = some (.int .i64 z)) (w : World) : (part 3 X o).run Try.prog w = .ok (.int .i64 z) w := run_part_plain w (by kernel_rfl) h
theorem eq_g (g h : Gg) (w : World) : (Op.equalIn 10000 24 (.agg (gA g)) (.agg (gA h))).run Try.prog w = .ok (eqG g h) w := by
  rw [run_equalIn_struct w 9999 24 _ _ (by kernel_rfl) (by kernel_rfl)]
  obtain ⟨f0, f1, f2, f3, f4, f5, hf, t0, o0, n0, t1, o1, n1, t2, o2, n2, t3, o3, n3, t4, o4, n4, t5, o5, n5⟩ : ∃ f0 f1 f2 f3 f4 f5 : Field, (Try.prog.fieldsOf 24).toList = [f0, f1, f2, f3, f4, f5] ∧ f0.type = 3 ∧ f0.offset = 0 ∧ (f0.name ≠ "_") ∧ f1.type = 3 ∧ f1.offset = 1 ∧ (f1.name ≠ "_") ∧ f2.type = 3 ∧ f2.offset = 2 ∧ (f2.name ≠ "_") ∧ f3.type = 3 ∧ f3.offset = 3 ∧ (f3.name ≠ "_") ∧ f4.type = 3 ∧ f4.offset = 4 ∧ (f4.name ≠ "_") ∧ f5.type = 3 ∧ f5.offset = 5 ∧ (f5.name ≠ "_") :=
    ⟨_, _, _, _, _, _, rfl, rfl, rfl, by decide, rfl, rfl, by decide, rfl, rfl, by decide, rfl, rfl, by decide, rfl, rfl, by decide, rfl, rfl, by decide⟩
  rw [hf]
  unfold eqG
  simp only [Op.eqFields, Sem.run_bind, Sem.run_ite, if_pos n0, if_pos n1, if_pos n2, if_pos n3, if_pos n4, if_pos n5, t0, o0, t1, o1, t2, o2, t3, o3, t4, o4, t5, o5]
  rw [part_g (gA g) 0 g.S rfl w, Result.andThen_ok, part_g (gA h) 0 h.S rfl w, Result.andThen_ok, run_equalIn_int w 9998 _ .i64 .i64 _ _ (by kernel_rfl), Result.andThen_ok]
  cases h0 : g.S == h.S with
  | false => simp
  | true =>
  simp only [Bool.not_true, Bool.false_eq_true, if_false, Bool.true_and]
  rw [part_g (gA g) 1 g.H rfl w, Result.andThen_ok, part_g (gA h) 1 h.H rfl w, Result.andThen_ok, run_equalIn_int w 9998 _ .i64 .i64 _ _ (by kernel_rfl), Result.andThen_ok]
  cases h1 : g.H == h.H with
  | false => simp
  | true =>
  simp only [Bool.not_true, Bool.false_eq_true, if_false, Bool.true_and]
  rw [part_g (gA g) 2 g.R rfl w, Result.andThen_ok, part_g (gA h) 2 h.R rfl w, Result.andThen_ok, run_equalIn_int w 9998 _ .i64 .i64 _ _ (by kernel_rfl), Result.andThen_ok]
  cases h2 : g.R == h.R with
  | false => simp
  | true =>
  simp only [Bool.not_true, Bool.false_eq_true, if_false, Bool.true_and]
  rw [part_g (gA g) 3 g.L rfl w, Result.andThen_ok, part_g (gA h) 3 h.L rfl w, Result.andThen_ok, run_equalIn_int w 9998 _ .i64 .i64 _ _ (by kernel_rfl), Result.andThen_ok]
  cases h3 : g.L == h.L with
  | false => simp
  | true =>
  simp only [Bool.not_true, Bool.false_eq_true, if_false, Bool.true_and]
  rw [part_g (gA g) 4 g.J rfl w, Result.andThen_ok, part_g (gA h) 4 h.J rfl w, Result.andThen_ok, run_equalIn_int w 9998 _ .i64 .i64 _ _ (by kernel_rfl), Result.andThen_ok]
  cases h4 : g.J == h.J with
  | false => simp
  | true =>
  simp only [Bool.not_true, Bool.false_eq_true, if_false, Bool.true_and]
  rw [part_g (gA g) 5 g.Z rfl w, Result.andThen_ok, part_g (gA h) 5 h.Z rfl w, Result.andThen_ok, run_equalIn_int w 9998 _ .i64 .i64 _ _ (by kernel_rfl), Result.andThen_ok]
  cases h5 : g.Z == h.Z with
  | false => simp
  | true => simp
theorem guardG : Try.prog.eqGuardType Try.prog.depth 24 = false := by kernel_rfl

/-- plain regions: an operation, guarded or not, that yields v; == of layouts. The caller writes '@' ahead of these: else the elaborator unfolds the goal -/
theorem wpList_val {P : Program} {ops : Array Oper} {rest : List Oper} {o : Oper} {a : Act} {w : World} {Q : Exit → Act → World → Prop} (v : Value) (hw : Region.wanted o (yielded ops a.tmps) = true) (ho : (execOp a.eval o).run P w = .ok (.value v) w)
    (h : wpList P ops Q rest (a.put o.dst v) w) : wpList P ops Q (o :: rest) a w :=
  BigFrame.wpList_want hw fun _ hK => by
    unfold Oper.wp
    rw [ho]
    exact hK _ _ h
theorem wpList_eqlG {ops : Array Oper} {rest : List Oper} {o : Oper} {a : Act} {w : World} {Q : Exit → Act → World → Prop} (x y : Operand) (ho : o.op = .binOp .eql 24 x y 24) (hw : Region.wanted o (yielded ops a.tmps) = true) (g h : Gg) (hx : a.eval x = .agg (gA g)) (hy : a.eval y = .agg (gA h))
    (k : wpList Try.prog ops Q rest (a.put o.dst (.bool (eqG g h))) w) : wpList Try.prog ops Q (o :: rest) a w :=
  wpList_val (.bool (eqG g h)) hw (by
    unfold execOp
    simp only [ho, hx, hy, Sem.run_bind, run_eqGuard_agg w _ _ _ _ _ _ guardG, run_eql_struct, eq_g, Result.andThen_ok]
    rfl) k
theorem wpList_neqG {ops : Array Oper} {rest : List Oper} {o : Oper} {a : Act} {w : World} {Q : Exit → Act → World → Prop} (x y : Operand) (ho : o.op = .binOp .neq 24 x y 24) (hw : Region.wanted o (yielded ops a.tmps) = true) (g h : Gg) (hx : a.eval x = .agg (gA g)) (hy : a.eval y = .agg (gA h))
    (k : wpList Try.prog ops Q rest (a.put o.dst (.bool (!eqG g h))) w) : wpList Try.prog ops Q (o :: rest) a w :=
  wpList_val (.bool (!eqG g h)) hw (by
    unfold execOp
    simp only [ho, hx, hy, Sem.run_bind, run_eqGuard_agg w _ _ _ _ _ _ guardG, run_neq_struct, eq_g, Result.andThen_ok]
    rfl) k

/-- a layout that is boxed -/
structure Bg (w : World) (b : Nat) (g : Gg) : Prop where
  row : w.heap[b]? = some (.cells (gA g) 24 (0, 0))
section
variable {w w' : World} {b : Nat} {g : Gg}
theorem Bg.c0 (h : Bg w b g) : w.cell? ⟨b, 0, none⟩ = some (.int .i64 g.S) := by rw [cell_of_row w b 0 _ _ _ h.row]; rfl
theorem Bg.c1 (h : Bg w b g) : w.cell? ⟨b, 1, none⟩ = some (.int .i64 g.H) := by rw [cell_of_row w b 1 _ _ _ h.row]; rfl
theorem Bg.c2 (h : Bg w b g) : w.cell? ⟨b, 2, none⟩ = some (.int .i64 g.R) := by rw [cell_of_row w b 2 _ _ _ h.row]; rfl
theorem Bg.c3 (h : Bg w b g) : w.cell? ⟨b, 3, none⟩ = some (.int .i64 g.L) := by rw [cell_of_row w b 3 _ _ _ h.row]; rfl
theorem Bg.c4 (h : Bg w b g) : w.cell? ⟨b, 4, none⟩ = some (.int .i64 g.J) := by rw [cell_of_row w b 4 _ _ _ h.row]; rfl
theorem Bg.c5 (h : Bg w b g) : w.cell? ⟨b, 5, none⟩ = some (.int .i64 g.Z) := by rw [cell_of_row w b 5 _ _ _ h.row]; rfl
theorem Bg.lt (h : Bg w b g) : b < w.heap.size := (Array.getElem?_eq_some_iff.1 h.row).1
theorem Bg.below (h : Bg w b g) {K : Nat} (hb : Below K w w') (hg : b < K) : Bg w' b g := ⟨(hb.block b hg).trans h.row⟩
theorem box_g (w : World) (g : Gg) : ∃ W, W = w.alloc (.cells (gA g) 24) ∧ Hid (Bg W w.heap.size g ∧ W.heap.size = w.heap.size + 1 ∧ Below w.heap.size w W) :=
  ⟨_, rfl, Lib.hid ⟨⟨heap_alloc_new _ _⟩, by simp, (Below.refl _ _).alloc (Nat.le_refl _) _⟩⟩
end

theorem tdiv_two (q : Int) : (2 * q).tdiv 2 = q := Int.mul_tdiv_cancel_left _ (by decide)
theorem and_two (q : Int) : 2 * q + 120 - 120 = 2 * q := by omega
set_option maxHeartbeats 1000000 in
theorem quota_any (g : Gg) (w : World) (hS : i64 g.S) : Calls Try.prog 14 #[.agg (gA g)] w fun e w' => e = .returned (.int .i64 (qn g)) ∧ Below w.heap.size w w' := by
  have HF := Lib.hid (fun w => fors_any g.S w hS)
  obtain ⟨W, hW, HX⟩ := box_g w g
  have c0 := HX.out.1.c0
  have hws := HX.out.2.1
  rcases qn_cases g with ⟨q, hq, hg, hn⟩ | ⟨hn, hno⟩
  · subst hg
    rw [hn]
    have e1 : fsq (lay q).S = q := fsq_of hq
    rw [e1, geo_in hq, er_in hq] at HF
    have e8 := and_two q
    have e9 := tdiv_two q
    unfold inQ at hq
    obtain ⟨hq1, hq2⟩ := hq
    clear hn e1 hS
    dsimp only [gA, lay] at c0 HF hW ⊢
    go_enter Try.func14, Try.ntmps14
    go_wp2_with (rw [← hW])
    clear hW
    refine (HF.out _).mono ?_
    rintro _ w1 ⟨rfl, hb1⟩
    dsimp only
    obtain ⟨W2, hW2, HY⟩ := box_g w1 (lay q)
    have hx1 := HX.out.1.below hb1 (by omega)
    have hs1 := hb1.size
    have x := hx1.below HY.out.2.2 (by omega)
    have y := HY.out.1
    have x0 := x.c0; have x1 := x.c1; have x2 := x.c2; have x3 := x.c3; have x4 := x.c4; have x5 := x.c5
    have y0 := y.c0; have y1 := y.c1; have y2 := y.c2; have y3 := y.c3; have y4 := y.c4; have y5 := y.c5
    have HB := Lib.hid (HX.out.2.2.trans ((hb1.trans (HY.out.2.2.mono (by omega))).mono (by omega)))
    clear hx1 hb1 x y
    dsimp only [gA, lay] at x0 x1 x2 x3 x4 x5 y0 y1 y2 y3 y4 y5 hW2
    subst hW2
    go_wp2_with fail
    go_ret
    exact ⟨rfl, HB.out⟩
  · by_cases hi : inQ (fsq g.S)
    · have HN := Lib.hid (eqG_no (hno _ hi))
      rw [geo_in hi, er_in hi] at HF
      rw [hn]
      clear hi hn hno hS
      generalize fsq g.S = p at *
      obtain ⟨S, H, R, L, J, Z⟩ := g
      dsimp only [gA, lay] at c0 HF hW ⊢
      go_enter Try.func14, Try.ntmps14
      go_wp2_with (rw [← hW])
      clear hW
      refine (HF.out _).mono ?_
      rintro _ w1 ⟨rfl, hb1⟩
      dsimp only
      obtain ⟨W2, hW2, HY⟩ := box_g w1 (lay p)
      have hx1 := HX.out.1.below hb1 (by omega)
      have hs1 := hb1.size
      have x := hx1.below HY.out.2.2 (by omega)
      have y := HY.out.1
      have x0 := x.c0; have x1 := x.c1; have x2 := x.c2; have x3 := x.c3; have x4 := x.c4; have x5 := x.c5
      have y0 := y.c0; have y1 := y.c1; have y2 := y.c2; have y3 := y.c3; have y4 := y.c4; have y5 := y.c5
      have HB := Lib.hid (HX.out.2.2.trans ((hb1.trans (HY.out.2.2.mono (by omega))).mono (by omega)))
      clear hx1 hb1 x y
      dsimp only [gA, lay] at x0 x1 x2 x3 x4 x5 y0 y1 y2 y3 y4 y5 hW2
      subst hW2
      go_wp2_with ((refine @wpList_neqG _ _ _ _ _ _ (.tmp 14) (.tmp 15) rfl rfl (lay p) ⟨S, H, R, L, J, Z⟩ rfl rfl ?_; rw [HN.out]; simp only [Act.put]))
      go_ret
      exact ⟨rfl, HB.out⟩
    · rw [geo_out hi, er_out hi] at HF
      rw [hn]
      clear hi hn hno hS
      obtain ⟨S, H, R, L, J, Z⟩ := g
      dsimp only [gA, zG] at c0 HF hW ⊢
      go_enter Try.func14, Try.ntmps14
      go_wp2_with (rw [← hW])
      clear hW
      refine (HF.out _).mono ?_
      rintro _ w1 ⟨rfl, hb1⟩
      dsimp only
      have hs1 := hb1.size
      go_wp2_with fail
      go_ret
      exact ⟨rfl, HX.out.2.2.trans ((hb1.mono (by omega)).alloc (by omega) _)⟩
end Gm
end Go.Proofs.Ytaocglbibnjjoaa
