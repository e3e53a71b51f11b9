import Derived.Test.YtonhedefjmkpcaaGreatDoorPGmSec
import Derived.Great.BuildSlice
import Derived.DeepKeys
import Derived.ChangeKeysEq
import Derived.Outline
import Derived.OwnWalk
/- geom: == of layouts; Quota and the reference's. -/
namespace Go.Proofs.YtonhedefjmkpcaaGreatDoor
set_option maxRecDepth 20000
namespace Gm
open Go.RowKit

theorem part_g (X : Array Value) (o : Nat) (z : Int) (h : X[o]? = some (.int .i64 z)) (w : World) : (part 3 X o).run Tryz.prog w = .ok (.int .i64 z) w := run_part_plain w (by kernel_rfl) h
theorem eq_g (g h : Gg) (w : World) : (Op.equalIn 10000 107 (.agg (gA g)) (.agg (gA h))).run Tryz.prog w = .ok (eqG g h) w := by
 rw [run_equalIn_struct w 9999 107 _ _ (by kernel_rfl) (by kernel_rfl)]
 obtain ⟨f0, f1, f2, f3, f4, f5, hf, t0, o0, n0, t1, o1, n1, t2, o2, n2, t3, o3, n3, t4, o4, n4, t5, o5, n5⟩ : ∃ f0 f1 f2 f3 f4 f5 : Field, (Tryz.prog.fieldsOf 107).toList = [f0, f1, f2, f3, f4, f5] ∧ f0.type = 3 ∧ f0.offset = 0 ∧ (f0.name ≠ "_") ∧ f1.type = 3 ∧ f1.offset = 1 ∧ (f1.name ≠ "_") ∧ f2.type = 3 ∧ f2.offset = 2 ∧ (f2.name ≠ "_") ∧ f3.type = 3 ∧ f3.offset = 3 ∧ (f3.name ≠ "_") ∧ f4.type = 3 ∧ f4.offset = 4 ∧ (f4.name ≠ "_") ∧ f5.type = 3 ∧ f5.offset = 5 ∧ (f5.name ≠ "_") :=
  ⟨_, _, _, _, _, _, rfl, rfl, rfl, by decide, rfl, rfl, by decide, rfl, rfl, by decide, rfl, rfl, by decide, rfl, rfl, by decide, rfl, rfl, by decide⟩
 rw [hf]
 unfold eqG
 simp only [Op.eqFields, Sem.run_bind, Sem.run_ite, if_pos n0, if_pos n1, if_pos n2, if_pos n3, if_pos n4, if_pos n5, t0, o0, t1, o1, t2, o2, t3, o3, t4, o4, t5, o5]
 rw [part_g (gA g) 0 g.S rfl w, Result.andThen_ok, part_g (gA h) 0 h.S rfl w, Result.andThen_ok, run_equalIn_int w 9998 _ .i64 .i64 _ _ (by kernel_rfl), Result.andThen_ok]
 cases h0 : g.S == h.S with
 | false => simp
 | true =>
 simp only [Bool.not_true, Bool.false_eq_true, if_false, Bool.true_and]
 rw [part_g (gA g) 1 g.H rfl w, Result.andThen_ok, part_g (gA h) 1 h.H rfl w, Result.andThen_ok, run_equalIn_int w 9998 _ .i64 .i64 _ _ (by kernel_rfl), Result.andThen_ok]
 cases h1 : g.H == h.H with
 | false => simp
 | true =>
 simp only [Bool.not_true, Bool.false_eq_true, if_false, Bool.true_and]
 rw [part_g (gA g) 2 g.R rfl w, Result.andThen_ok, part_g (gA h) 2 h.R rfl w, Result.andThen_ok, run_equalIn_int w 9998 _ .i64 .i64 _ _ (by kernel_rfl), Result.andThen_ok]
 cases h2 : g.R == h.R with
 | false => simp
 | true =>
 simp only [Bool.not_true, Bool.false_eq_true, if_false, Bool.true_and]
 rw [part_g (gA g) 3 g.L rfl w, Result.andThen_ok, part_g (gA h) 3 h.L rfl w, Result.andThen_ok, run_equalIn_int w 9998 _ .i64 .i64 _ _ (by kernel_rfl), Result.andThen_ok]
 cases h3 : g.L == h.L with
 | false => simp
 | true =>
 simp only [Bool.not_true, Bool.false_eq_true, if_false, Bool.true_and]
 rw [part_g (gA g) 4 g.J rfl w, Result.andThen_ok, part_g (gA h) 4 h.J rfl w, Result.andThen_ok, run_equalIn_int w 9998 _ .i64 .i64 _ _ (by kernel_rfl), Result.andThen_ok]
 cases h4 : g.J == h.J with
 | false => simp
 | true =>
 simp only [Bool.not_true, Bool.false_eq_true, if_false, Bool.true_and]
 rw [part_g (gA g) 5 g.Z rfl w, Result.andThen_ok, part_g (gA h) 5 h.Z rfl w, Result.andThen_ok, run_equalIn_int w 9998 _ .i64 .i64 _ _ (by kernel_rfl), Result.andThen_ok]
 cases h5 : g.Z == h.Z with
 | false => simp
 | true => simp
theorem guardG : Tryz.prog.eqGuardType Tryz.prog.depth 107 = false := by kernel_rfl

/-- plain regions: an operation, guarded or not, that yields v; == of layouts. The caller writes '@' ahead of these: else the elaborator unfolds the goal -/
theorem wpList_val {P : Program} {ops : Array Oper} {rest : List Oper} {o : Oper} {a : Act} {w : World} {Q : Exit → Act → World → Prop} (v : Value) (hw : Region.wanted o (yielded ops a.tmps) = true) (ho : (execOp a.eval o).run P w = .ok (.value v) w)
  (h : wpList P ops Q rest (a.put o.dst v) w) : wpList P ops Q (o :: rest) a w :=
 BigFrame.wpList_want hw fun _ hK => by
  unfold Oper.wp
  rw [ho]
  exact hK _ _ h
theorem wpList_neqG {ops : Array Oper} {rest : List Oper} {o : Oper} {a : Act} {w : World} {Q : Exit → Act → World → Prop} (x y : Operand) (ho : o.op = .binOp .neq 107 x y 107) (hw : Region.wanted o (yielded ops a.tmps) = true) (g h : Gg) (hx : a.eval x = .agg (gA g)) (hy : a.eval y = .agg (gA h))
  (k : wpList Tryz.prog ops Q rest (a.put o.dst (.bool (!eqG g h))) w) : wpList Tryz.prog ops Q (o :: rest) a w :=
 wpList_val (.bool (!eqG g h)) hw (by
  unfold execOp
  simp only [ho, hx, hy, Sem.run_bind, run_eqGuard_agg w _ _ _ _ _ _ guardG, run_neq_struct, eq_g, Result.andThen_ok]
  rfl) k

/-- a layout that is boxed -/
structure Bg (w : World) (b : Nat) (g : Gg) : Prop where
 row : w.heap[b]? = some (.cells (gA g) 107 (0, 0))
section
variable {w w' : World} {b : Nat} {g : Gg}
theorem Bg.c0 (h : Bg w b g) : w.cell? ⟨b, 0, none⟩ = some (.int .i64 g.S) := by rw [cell_of_row w b 0 _ _ _ h.row]; rfl
theorem Bg.c1 (h : Bg w b g) : w.cell? ⟨b, 1, none⟩ = some (.int .i64 g.H) := by rw [cell_of_row w b 1 _ _ _ h.row]; rfl
theorem Bg.c2 (h : Bg w b g) : w.cell? ⟨b, 2, none⟩ = some (.int .i64 g.R) := by rw [cell_of_row w b 2 _ _ _ h.row]; rfl
theorem Bg.c3 (h : Bg w b g) : w.cell? ⟨b, 3, none⟩ = some (.int .i64 g.L) := by rw [cell_of_row w b 3 _ _ _ h.row]; rfl
theorem Bg.c4 (h : Bg w b g) : w.cell? ⟨b, 4, none⟩ = some (.int .i64 g.J) := by rw [cell_of_row w b 4 _ _ _ h.row]; rfl
theorem Bg.c5 (h : Bg w b g) : w.cell? ⟨b, 5, none⟩ = some (.int .i64 g.Z) := by rw [cell_of_row w b 5 _ _ _ h.row]; rfl
theorem Bg.below (h : Bg w b g) {K : Nat} (hb : Below K w w') (hg : b < K) : Bg w' b g := ⟨(hb.block b hg).trans h.row⟩
theorem box_g (w : World) (g : Gg) : ∃ W, W = w.alloc (.cells (gA g) 107) ∧ Hid (Bg W w.heap.size g ∧ W.heap.size = w.heap.size + 1 ∧ Below w.heap.size w W) :=
 ⟨_, rfl, Lib.hid ⟨⟨heap_alloc_new _ _⟩, by simp, (Below.refl _ _).alloc (Nat.le_refl _) _⟩⟩
end

theorem tdiv_two (q : Int) : (2 * q).tdiv 2 = q := Int.mul_tdiv_cancel_left _ (by decide)
theorem and_two (q : Int) : 2 * q + 120 - 120 = 2 * q := by omega
set_option maxHeartbeats 1000000 in
theorem quota_any (g : Gg) (w : World) (hS : i64 g.S) : Calls Tryz.prog 195 #[.agg (gA g)] w fun e w' => e = .returned (.int .i64 (qn g)) ∧ Below w.heap.size w w' := by
 have HF := Lib.hid (fun w => fors_any g.S w hS)
 obtain ⟨W, hW, HX⟩ := box_g w g
 have c0 := HX.out.1.c0
 have hws := HX.out.2.1
 rcases qn_cases g with ⟨q, hq, hg, hn⟩ | ⟨hn, hno⟩
 ·subst hg
  rw [hn]
  have e1 : fsq (lay q).S = q := fsq_of hq
  rw [e1, geo_in hq, er_in hq] at HF
  have e8 := and_two q
  have e9 := tdiv_two q
  unfold inQ at hq
  obtain ⟨hq1, hq2⟩ := hq
  clear hn e1 hS
  dsimp only [gA, lay] at c0 HF hW ⊢
  go_enter Tryz.func195, Tryz.ntmps195
  go_wp2_with (rw [← hW])
  clear hW
  refine (HF.out _).mono ?_
  rintro _ w1 ⟨rfl, hb1⟩
  dsimp only
  obtain ⟨W2, hW2, HY⟩ := box_g w1 (lay q)
  have hx1 := HX.out.1.below hb1 (by omega)
  have hs1 := hb1.size
  have x := hx1.below HY.out.2.2 (by omega)
  have y := HY.out.1
  have x0 := x.c0; have x1 := x.c1; have x2 := x.c2; have x3 := x.c3; have x4 := x.c4; have x5 := x.c5
  have y0 := y.c0; have y1 := y.c1; have y2 := y.c2; have y3 := y.c3; have y4 := y.c4; have y5 := y.c5
  have HB := Lib.hid (HX.out.2.2.trans ((hb1.trans (HY.out.2.2.mono (by omega))).mono (by omega)))
  clear hx1 hb1 x y
  dsimp only [gA, lay] at x0 x1 x2 x3 x4 x5 y0 y1 y2 y3 y4 y5 hW2
  subst hW2
  go_wp2_with fail
  go_ret
  exact ⟨rfl, HB.out⟩
 ·by_cases hi : inQ (fsq g.S)
  ·have HN := Lib.hid (eqG_no (hno _ hi))
   rw [geo_in hi, er_in hi] at HF
   rw [hn]
   clear hi hn hno hS
   generalize fsq g.S = p at *
   obtain ⟨S, H, R, L, J, Z⟩ := g
   dsimp only [gA, lay] at c0 HF hW ⊢
   go_enter Tryz.func195, Tryz.ntmps195
   go_wp2_with (rw [← hW])
   clear hW
   refine (HF.out _).mono ?_
   rintro _ w1 ⟨rfl, hb1⟩
   dsimp only
   obtain ⟨W2, hW2, HY⟩ := box_g w1 (lay p)
   have hx1 := HX.out.1.below hb1 (by omega)
   have hs1 := hb1.size
   have x := hx1.below HY.out.2.2 (by omega)
   have y := HY.out.1
   have x0 := x.c0; have x1 := x.c1; have x2 := x.c2; have x3 := x.c3; have x4 := x.c4; have x5 := x.c5
   have y0 := y.c0; have y1 := y.c1; have y2 := y.c2; have y3 := y.c3; have y4 := y.c4; have y5 := y.c5
   have HB := Lib.hid (HX.out.2.2.trans ((hb1.trans (HY.out.2.2.mono (by omega))).mono (by omega)))
   clear hx1 hb1 x y
   dsimp only [gA, lay] at x0 x1 x2 x3 x4 x5 y0 y1 y2 y3 y4 y5 hW2
   subst hW2
   go_wp2_with ((refine @wpList_neqG _ _ _ _ _ _ (.tmp 14) (.tmp 15) rfl rfl (lay p) ⟨S, H, R, L, J, Z⟩ rfl rfl ?_; rw [HN.out]; simp only [Act.put]))
   go_ret
   exact ⟨rfl, HB.out⟩
  ·rw [geo_out hi, er_out hi] at HF
   rw [hn]
   clear hi hn hno hS
   obtain ⟨S, H, R, L, J, Z⟩ := g
   dsimp only [gA, zG] at c0 HF hW ⊢
   go_enter Tryz.func195, Tryz.ntmps195
   go_wp2_with (rw [← hW])
   clear hW
   refine (HF.out _).mono ?_
   rintro _ w1 ⟨rfl, hb1⟩
   dsimp only
   have hs1 := hb1.size
   go_wp2_with fail
   go_ret
   exact ⟨rfl, HX.out.2.2.trans ((hb1.mono (by omega)).alloc (by omega) _)⟩
end Gm
end Go.Proofs.YtonhedefjmkpcaaGreatDoor
/- geom: What. -/
namespace Go.Proofs.YtonhedefjmkpcaaGreatDoor
set_option maxRecDepth 20000
namespace Gm
open Go.RowKit

/-- the cells of a box -/
theorem cells_lay {w : World} {b : Nat} {q : Int} (h : Bg w b (lay q)) : w.cell? ⟨b, 0, none⟩ = some (.int .i64 (4 * q + 316)) ∧ w.cell? ⟨b, 1, none⟩ = some (.int .i64 (2 * q + 148)) ∧ w.cell? ⟨b, 2, none⟩ = some (.int .i64 2) ∧ w.cell? ⟨b, 3, none⟩ = some (.int .i64 4) ∧ w.cell? ⟨b, 4, none⟩ = some (.int .i64 28) ∧ w.cell? ⟨b, 5, none⟩ = some (.int .i64 (2 * q + 120)) :=
 ⟨h.c0, h.c1, h.c2, h.c3, h.c4, h.c5⟩
end Gm
end Go.Proofs.YtonhedefjmkpcaaGreatDoor
/- geom: inHalf, RootAt, LogAt, RegionAt. -/
namespace Go.Proofs.YtonhedefjmkpcaaGreatDoor
set_option maxRecDepth 20000
namespace Gm
open Go.RowKit

def ihI (g : Gg) (h i : Int) : Int := if qn g = 0 ∨ h < 0 ∨ 2 ≤ h then 0 else h * g.H + i
def ihE (g : Gg) (h : Int) : Int := if qn g = 0 ∨ h < 0 ∨ 2 ≤ h then 1 else 0
theorem ih_no {g : Gg} {h : Int} (c : qn g = 0 ∨ h < 0 ∨ 2 ≤ h) (i : Int) : ihI g h i = 0 ∧ ihE g h = 1 := ⟨if_pos c, if_pos c⟩
theorem ih_yes {q h : Int} (hq : inQ q) (h0 : 0 ≤ h) (h1 : h < 2) (i : Int) : ihI (lay q) h i = h * (2 * q + 148) + i ∧ ihE (lay q) h = 0 := by
 have c : ¬ (qn (lay q) = 0 ∨ h < 0 ∨ 2 ≤ h) := by
  rw [qn_of hq]
  unfold inQ at hq
  omega
 exact ⟨if_neg c, if_neg c⟩
/-- as the document says it -/
theorem ih_pl {g : Gg} {k h i j : Int} (_hk : k = 2 ∨ k = 3 ∨ k = 4) (hi : ∀ q, inQ q → g = lay q → 0 ≤ i ∧ i < cnt q k ∧ j = off k + i) : ihI g h j = pl g k h i ∧ ihE g h = plE g k h i := by
 rcases qn_cases g with ⟨q, hq, hg, hn⟩ | ⟨hn, _⟩
 ·obtain ⟨i0, i1, rfl⟩ := hi q hq hg
  subst hg
  by_cases hh : h = 0 ∨ h = 1
  ·have hb : atB q k h i := ⟨hh, i0, i1⟩
   rw [(pl_in hq hb).1, (pl_in hq hb).2, (ih_yes hq (by omega) (by omega) _).1, (ih_yes hq (by omega) (by omega) (off k + i)).2]
   exact ⟨rfl, rfl⟩
  ·have hb : ¬ atB q k h i := fun c => hh c.1
   rw [(pl_out hq hb).1, (pl_out hq hb).2]
   exact ih_no (by omega) _
 ·rw [(pl_none hn k h i).1, (pl_none hn k h i).2]
  exact ih_no (.inl hn) _

set_option maxRecDepth 100000 in
set_option maxHeartbeats 2000000 in
theorem inhalf_any (g : Gg) (h i : Int) (w : World) (hS : i64 g.S) (hi : qn g = 0 ∨ 0 ≤ i ∧ i ≤ 4096) : Calls Tryz.prog 173 #[.agg (gA g), .int .i64 h, .int .i64 i] w fun e w' => e = .returned (.tuple #[.int .i64 (ihI g h i), .int .i64 (ihE g h)]) ∧ Below w.heap.size w w' := by
 have HQ := Lib.hid (fun w => quota_any g w hS)
 obtain ⟨W, hW, HX⟩ := box_g w g
 have hws := HX.out.2.1
 have c0 := HX.out.1.c0
 have c1 := HX.out.1.c1
 have c2 := HX.out.1.c2
 have c3 := HX.out.1.c3
 have c4 := HX.out.1.c4
 have c5 := HX.out.1.c5
 rcases qn_cases g with ⟨q, hq, hg, hn⟩ | ⟨hn, _⟩
 ·subst hg
  have HC := Lib.hid (fun w' (h : Below W.heap.size W w') => cells_lay (HX.out.1.below h (by omega)))
  rw [hn] at HQ hi
  have HQQ := Lib.hid hq
  unfold inQ at hq
  obtain ⟨hq1, hq2⟩ := hq
  have b0 : (q == 0) = false := by simp; omega
  obtain ⟨hi0, hi1⟩ := hi.resolve_left (by omega)
  clear hn hi
  by_cases h0 : h < 0
  ·rw [(ih_no (.inr (.inl h0)) _).1, (ih_no (.inr (.inl h0)) i).2]
   have b1 : decide (h < 0) = true := decide_eq_true h0
   dsimp only [gA, lay] at hW HQ c0 c1 c2 c3 c4 c5 ⊢
   go_enter Tryz.func173, Tryz.ntmps173
   go_wp2_with (rw [← hW])
   clear hW
   refine (HQ.out _).mono ?_
   rintro _ w1 ⟨rfl, hb1⟩
   dsimp only
   go_wp2_with fail
   go_ret2
   exact ⟨rfl, HX.out.2.2.trans (hb1.mono (by omega))⟩
  have b1 : decide (h < 0) = false := decide_eq_false h0
  by_cases h2 : 2 ≤ h
  ·rw [(ih_no (.inr (.inr h2)) _).1, (ih_no (.inr (.inr h2)) i).2]
   have b2 : decide (2 ≤ h) = true := decide_eq_true h2
   dsimp only [gA, lay] at hW HQ c0 c1 c2 c3 c4 c5 ⊢
   go_enter Tryz.func173, Tryz.ntmps173
   go_wp2_with (rw [← hW])
   clear hW
   refine (HQ.out _).mono ?_
   rintro _ w1 ⟨rfl, hb1⟩
   dsimp only
   go_wp2_with fail
   go_ret2
   exact ⟨rfl, HX.out.2.2.trans (hb1.mono (by omega))⟩
  rw [(ih_yes HQQ.out (by omega) (by omega) i).1, (ih_yes HQQ.out (by omega : 0 ≤ h) (by omega) i).2]
  obtain rfl | rfl : h = 0 ∨ h = 1 := by omega
  ·clear h0 b1 h2
   dsimp only [gA, lay] at hW HQ c0 c1 c2 c3 c4 c5 ⊢
   go_enter Tryz.func173, Tryz.ntmps173
   go_wp2_with (rw [← hW])
   clear hW
   refine (HQ.out _).mono ?_
   rintro _ w1 ⟨rfl, hb1⟩
   obtain ⟨d0, d1, d2, d3, d4, d5⟩ := HC.out w1 hb1
   have HB := Lib.hid hb1
   clear hb1
   dsimp only
   go_wp2_with fail
   go_ret2
   exact ⟨by simp, HX.out.2.2.trans (HB.out.mono (by omega))⟩
  ·clear h0 b1 h2
   dsimp only [gA, lay] at hW HQ c0 c1 c2 c3 c4 c5 ⊢
   go_enter Tryz.func173, Tryz.ntmps173
   go_wp2_with (rw [← hW])
   clear hW
   refine (HQ.out _).mono ?_
   rintro _ w1 ⟨rfl, hb1⟩
   obtain ⟨d0, d1, d2, d3, d4, d5⟩ := HC.out w1 hb1
   have HB := Lib.hid hb1
   clear hb1
   dsimp only
   go_wp2_with fail
   go_ret2
   exact ⟨by simp, HX.out.2.2.trans (HB.out.mono (by omega))⟩
 ·rw [(ih_no (.inl hn) _).1, (ih_no (.inl hn) i).2]
  rw [hn] at HQ
  clear hn hi hS
  obtain ⟨S, H, R, L, J, Z⟩ := g
  dsimp only [gA] at hW HQ c0 c1 c2 c3 c4 c5 ⊢
  go_enter Tryz.func173, Tryz.ntmps173
  go_wp2_with (rw [← hW])
  clear hW
  refine (HQ.out _).mono ?_
  rintro _ w1 ⟨rfl, hb1⟩
  dsimp only
  go_wp2_with fail
  go_ret2
  exact ⟨rfl, HX.out.2.2.trans (hb1.mono (by omega))⟩
end Gm
end Go.Proofs.YtonhedefjmkpcaaGreatDoor
/- geom: RootAt, LogAt, RegionAt. -/
namespace Go.Proofs.YtonhedefjmkpcaaGreatDoor
set_option maxRecDepth 20000
namespace Gm
open Go.RowKit

theorem inhalf_pl (g : Gg) (k h i j : Int) (w : World) (hS : i64 g.S) (hk : k = 2 ∨ k = 3 ∨ k = 4) (hi : ∀ q, inQ q → g = lay q → 0 ≤ i ∧ i < cnt q k ∧ j = off k + i) : Calls Tryz.prog 173 #[.agg (gA g), .int .i64 h, .int .i64 j] w fun e w' => e = .returned (.tuple #[.int .i64 (pl g k h i), .int .i64 (plE g k h i)]) ∧ Below w.heap.size w w' := by
 obtain ⟨e1, e2⟩ := ih_pl (h := h) hk hi
 rw [← e1, ← e2]
 refine inhalf_any g h j w hS ?_
 rcases qn_cases g with ⟨q, hq, hg, _⟩ | ⟨hn, _⟩
 ·obtain ⟨i0, i1, rfl⟩ := hi q hq hg
  unfold inQ at hq
  unfold cnt at i1
  unfold off
  rcases hk with rfl | rfl | rfl <;> simp at i1 ⊢ <;> omega
 ·exact .inl hn

set_option maxRecDepth 100000 in
set_option maxHeartbeats 2000000 in
theorem region_any (g : Gg) (h : Int) (w : World) (hS : i64 g.S) : Calls Tryz.prog 130 #[.agg (gA g), .int .i64 h] w fun e w' => e = .returned (.tuple #[.int .i64 (pl g 4 h 0), .int .i64 (plE g 4 h 0)]) ∧ Below w.heap.size w w' := by
 have HI := Lib.hid (fun j hj w => inhalf_pl g 4 h 0 j w hS (by simp) hj)
 obtain ⟨W, hW, HX⟩ := box_g w g
 have hws := HX.out.2.1
 have c0 := HX.out.1.c0
 have c1 := HX.out.1.c1
 have c2 := HX.out.1.c2
 have c3 := HX.out.1.c3
 have c4 := HX.out.1.c4
 have c5 := HX.out.1.c5
 rcases qn_cases g with ⟨q, hq, hg, _⟩ | ⟨hn, hno⟩
 ·subst hg
  have HJ := Lib.hid (HI.out 28 (fun p hp e => by
   have hpq := lay_inj e
   subst hpq
   simp [cnt, off]
   unfold inQ at hp
   omega))
  clear HI
  unfold inQ at hq
  obtain ⟨hq1, hq2⟩ := hq
  generalize pl (lay q) 4 h 0 = P at *
  generalize plE (lay q) 4 h 0 = E at *
  dsimp only [gA, lay] at HJ
  dsimp only [gA, lay] at hW c0 c1 c2 c3 c4 c5 ⊢
  go_enter Tryz.func130, Tryz.ntmps130
  go_wp2_with (rw [← hW])
  clear hW
  refine (HJ.out _).mono ?_
  rintro _ w1 ⟨rfl, hb1⟩
  dsimp only
  go_wp2_with fail
  go_ret2
  exact ⟨rfl, HX.out.2.2.trans (hb1.mono (by omega))⟩
 ·have HJ := Lib.hid (HI.out g.J (fun p hp e => absurd e.symm (hno p hp)))
  clear HI hn hno hS
  generalize pl g 4 h 0 = P at *
  generalize plE g 4 h 0 = E at *
  obtain ⟨S, H, R, L, J, Z⟩ := g
  dsimp only [gA] at HJ
  dsimp only [gA] at hW c0 c1 c2 c3 c4 c5 ⊢
  go_enter Tryz.func130, Tryz.ntmps130
  go_wp2_with (rw [← hW])
  clear hW
  refine (HJ.out _).mono ?_
  rintro _ w1 ⟨rfl, hb1⟩
  dsimp only
  go_wp2_with fail
  go_ret2
  exact ⟨rfl, HX.out.2.2.trans (hb1.mono (by omega))⟩
end Gm
end Go.Proofs.YtonhedefjmkpcaaGreatDoor
