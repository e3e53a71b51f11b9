import Derived.Test.YtebgaafaokiigaaGreatDoorPGmQuo
import Derived.OwnWalk
import Derived.Test.YtebgaafaokiigaaGreatDoorPDkBase
import Derived.Test.YtebgaafaokiigaaGreatDoorPJSpA
import Derived.Great.BuildSlice
import Derived.DeepKeys
import Derived.ChangeKeysEq
/- geom: What. -/
namespace Go.Proofs.YtebgaafaokiigaaGreatDoor
set_option maxRecDepth 20000
namespace Gm
open Go.RowKit

/-- the cells of a box -/
theorem cells_lay {w : World} {b : Nat} {q : Int} (h : Bg w b (lay q)) : w.cell? ⟨b, 0, none⟩ = some (.int .i64 (4 * q + 316)) ∧ w.cell? ⟨b, 1, none⟩ = some (.int .i64 (2 * q + 148)) ∧ w.cell? ⟨b, 2, none⟩ = some (.int .i64 2) ∧ w.cell? ⟨b, 3, none⟩ = some (.int .i64 4) ∧ w.cell? ⟨b, 4, none⟩ = some (.int .i64 28) ∧ w.cell? ⟨b, 5, none⟩ = some (.int .i64 (2 * q + 120)) :=
  ⟨h.c0, h.c1, h.c2, h.c3, h.c4, h.c5⟩
end Gm
end Go.Proofs.YtebgaafaokiigaaGreatDoor
/- geom: inHalf, RootAt, LogAt, RegionAt. -/
namespace Go.Proofs.YtebgaafaokiigaaGreatDoor
set_option maxRecDepth 20000
namespace Gm
open Go.RowKit

def ihI (g : Gg) (h i : Int) : Int := if qn g = 0 ∨ h < 0 ∨ 2 ≤ h then 0 else h * g.H + i
def ihE (g : Gg) (h : Int) : Int := if qn g = 0 ∨ h < 0 ∨ 2 ≤ h then 1 else 0
theorem ih_no {g : Gg} {h : Int} (c : qn g = 0 ∨ h < 0 ∨ 2 ≤ h) (i : Int) : ihI g h i = 0 ∧ ihE g h = 1 := ⟨if_pos c, if_pos c⟩
theorem ih_yes {q h : Int} (hq : inQ q) (h0 : 0 ≤ h) (h1 : h < 2) (i : Int) : ihI (lay q) h i = h * (2 * q + 148) + i ∧ ihE (lay q) h = 0 := by
  have c : ¬ (qn (lay q) = 0 ∨ h < 0 ∨ 2 ≤ h) := by
    rw [qn_of hq]
    unfold inQ at hq
    omega
  exact ⟨if_neg c, if_neg c⟩
/-- as the document says it -/
theorem ih_pl {g : Gg} {k h i j : Int} (_hk : k = 2 ∨ k = 3 ∨ k = 4) (hi : ∀ q, inQ q → g = lay q → 0 ≤ i ∧ i < cnt q k ∧ j = off k + i) : ihI g h j = pl g k h i ∧ ihE g h = plE g k h i := by
  rcases qn_cases g with ⟨q, hq, hg, hn⟩ | ⟨hn, _⟩
  · obtain ⟨i0, i1, rfl⟩ := hi q hq hg
    subst hg
    by_cases hh : h = 0 ∨ h = 1
    · have hb : atB q k h i := ⟨hh, i0, i1⟩
      rw [(pl_in hq hb).1, (pl_in hq hb).2, (ih_yes hq (by omega) (by omega) _).1, (ih_yes hq (by omega) (by omega) (off k + i)).2]
      exact ⟨rfl, rfl⟩
    · have hb : ¬ atB q k h i := fun c => hh c.1
      rw [(pl_out hq hb).1, (pl_out hq hb).2]
      exact ih_no (by omega) _
  · rw [(pl_none hn k h i).1, (pl_none hn k h i).2]
    exact ih_no (.inl hn) _

set_option maxRecDepth 100000 in
set_option maxHeartbeats 2000000 in
theorem inhalf_any (g : Gg) (h i : Int) (w : World) (hS : i64 g.S) (hi : qn g = 0 ∨ 0 ≤ i ∧ i ≤ 4096) : Calls Tryz.prog 111 #[.agg (gA g), .int .i64 h, .int .i64 i] w fun e w' => e = .returned (.tuple #[.int .i64 (ihI g h i), .int .i64 (ihE g h)]) ∧ Below w.heap.size w w' := by
  have HQ := Lib.hid (fun w => quota_any g w hS)
  obtain ⟨W, hW, HX⟩ := box_g w g
  have hws := HX.out.2.1
  have c0 := HX.out.1.c0
  have c1 := HX.out.1.c1
  have c2 := HX.out.1.c2
  have c3 := HX.out.1.c3
  have c4 := HX.out.1.c4
  have c5 := HX.out.1.c5
  rcases qn_cases g with ⟨q, hq, hg, hn⟩ | ⟨hn, _⟩
  · subst hg
    have HC := Lib.hid (fun w' (h : Below W.heap.size W w') => cells_lay (HX.out.1.below h (by omega)))
    rw [hn] at HQ hi
    have HQQ := Lib.hid hq
    unfold inQ at hq
    obtain ⟨hq1, hq2⟩ := hq
    have b0 : (q == 0) = false := by simp; omega
    obtain ⟨hi0, hi1⟩ := hi.resolve_left (by omega)
    clear hn hi
    by_cases h0 : h < 0
    · rw [(ih_no (.inr (.inl h0)) _).1, (ih_no (.inr (.inl h0)) i).2]
      have b1 : decide (h < 0) = true := decide_eq_true h0
      dsimp only [gA, lay] at hW HQ c0 c1 c2 c3 c4 c5 ⊢
      go_enter Tryz.func111, Tryz.ntmps111
      go_wp2_with (rw [← hW])
      clear hW
      refine (HQ.out _).mono ?_
      rintro _ w1 ⟨rfl, hb1⟩
      dsimp only
      go_wp2_with fail
      go_ret2
      exact ⟨rfl, HX.out.2.2.trans (hb1.mono (by omega))⟩
    have b1 : decide (h < 0) = false := decide_eq_false h0
    by_cases h2 : 2 ≤ h
    · rw [(ih_no (.inr (.inr h2)) _).1, (ih_no (.inr (.inr h2)) i).2]
      have b2 : decide (2 ≤ h) = true := decide_eq_true h2
      dsimp only [gA, lay] at hW HQ c0 c1 c2 c3 c4 c5 ⊢
      go_enter Tryz.func111, Tryz.ntmps111
      go_wp2_with (rw [← hW])
      clear hW
      refine (HQ.out _).mono ?_
      rintro _ w1 ⟨rfl, hb1⟩
      dsimp only
      go_wp2_with fail
      go_ret2
      exact ⟨rfl, HX.out.2.2.trans (hb1.mono (by omega))⟩
    rw [(ih_yes HQQ.out (by omega) (by omega) i).1, (ih_yes HQQ.out (by omega : 0 ≤ h) (by omega) i).2]
    obtain rfl | rfl : h = 0 ∨ h = 1 := by omega
    · clear h0 b1 h2
      dsimp only [gA, lay] at hW HQ c0 c1 c2 c3 c4 c5 ⊢
      go_enter Tryz.func111, Tryz.ntmps111
      go_wp2_with (rw [← hW])
      clear hW
      refine (HQ.out _).mono ?_
      rintro _ w1 ⟨rfl, hb1⟩
      obtain ⟨d0, d1, d2, d3, d4, d5⟩ := HC.out w1 hb1
      have HB := Lib.hid hb1
      clear hb1
      dsimp only
      go_wp2_with fail
      go_ret2
      exact ⟨by simp, HX.out.2.2.trans (HB.out.mono (by omega))⟩
    · clear h0 b1 h2
      dsimp only [gA, lay] at hW HQ c0 c1 c2 c3 c4 c5 ⊢
      go_enter Tryz.func111, Tryz.ntmps111
      go_wp2_with (rw [← hW])
      clear hW
      refine (HQ.out _).mono ?_
      rintro _ w1 ⟨rfl, hb1⟩
      obtain ⟨d0, d1, d2, d3, d4, d5⟩ := HC.out w1 hb1
      have HB := Lib.hid hb1
      clear hb1
      dsimp only
      go_wp2_with fail
      go_ret2
      exact ⟨by simp, HX.out.2.2.trans (HB.out.mono (by omega))⟩
  · rw [(ih_no (.inl hn) _).1, (ih_no (.inl hn) i).2]
    rw [hn] at HQ
    clear hn hi hS
    obtain ⟨S, H, R, L, J, Z⟩ := g
    dsimp only [gA] at hW HQ c0 c1 c2 c3 c4 c5 ⊢
    go_enter Tryz.func111, Tryz.ntmps111
    go_wp2_with (rw [← hW])
    clear hW
    refine (HQ.out _).mono ?_
    rintro _ w1 ⟨rfl, hb1⟩
    dsimp only
    go_wp2_with fail
    go_ret2
    exact ⟨rfl, HX.out.2.2.trans (hb1.mono (by omega))⟩
end Gm
end Go.Proofs.YtebgaafaokiigaaGreatDoor
/- geom: RootAt, LogAt, RegionAt. -/
namespace Go.Proofs.YtebgaafaokiigaaGreatDoor
set_option maxRecDepth 20000
namespace Gm
open Go.RowKit

theorem inhalf_pl (g : Gg) (k h i j : Int) (w : World) (hS : i64 g.S) (hk : k = 2 ∨ k = 3 ∨ k = 4) (hi : ∀ q, inQ q → g = lay q → 0 ≤ i ∧ i < cnt q k ∧ j = off k + i) : Calls Tryz.prog 111 #[.agg (gA g), .int .i64 h, .int .i64 j] w fun e w' => e = .returned (.tuple #[.int .i64 (pl g k h i), .int .i64 (plE g k h i)]) ∧ Below w.heap.size w w' := by
  obtain ⟨e1, e2⟩ := ih_pl (h := h) hk hi
  rw [← e1, ← e2]
  refine inhalf_any g h j w hS ?_
  rcases qn_cases g with ⟨q, hq, hg, _⟩ | ⟨hn, _⟩
  · obtain ⟨i0, i1, rfl⟩ := hi q hq hg
    unfold inQ at hq
    unfold cnt at i1
    unfold off
    rcases hk with rfl | rfl | rfl <;> simp at i1 ⊢ <;> omega
  · exact .inl hn

set_option maxRecDepth 100000 in
set_option maxHeartbeats 2000000 in
theorem region_any (g : Gg) (h : Int) (w : World) (hS : i64 g.S) : Calls Tryz.prog 77 #[.agg (gA g), .int .i64 h] w fun e w' => e = .returned (.tuple #[.int .i64 (pl g 4 h 0), .int .i64 (plE g 4 h 0)]) ∧ Below w.heap.size w w' := by
  have HI := Lib.hid (fun j hj w => inhalf_pl g 4 h 0 j w hS (by simp) hj)
  obtain ⟨W, hW, HX⟩ := box_g w g
  have hws := HX.out.2.1
  have c0 := HX.out.1.c0
  have c1 := HX.out.1.c1
  have c2 := HX.out.1.c2
  have c3 := HX.out.1.c3
  have c4 := HX.out.1.c4
  have c5 := HX.out.1.c5
  rcases qn_cases g with ⟨q, hq, hg, _⟩ | ⟨hn, hno⟩
  · subst hg
    have HJ := Lib.hid (HI.out 28 (fun p hp e => by
      have hpq := lay_inj e
      subst hpq
      simp [cnt, off]
      unfold inQ at hp
      omega))
    clear HI
    unfold inQ at hq
    obtain ⟨hq1, hq2⟩ := hq
    generalize pl (lay q) 4 h 0 = P at *
    generalize plE (lay q) 4 h 0 = E at *
    dsimp only [gA, lay] at HJ
    dsimp only [gA, lay] at hW c0 c1 c2 c3 c4 c5 ⊢
    go_enter Tryz.func77, Tryz.ntmps77
    go_wp2_with (rw [← hW])
    clear hW
    refine (HJ.out _).mono ?_
    rintro _ w1 ⟨rfl, hb1⟩
    dsimp only
    go_wp2_with fail
    go_ret2
    exact ⟨rfl, HX.out.2.2.trans (hb1.mono (by omega))⟩
  · have HJ := Lib.hid (HI.out g.J (fun p hp e => absurd e.symm (hno p hp)))
    clear HI hn hno hS
    generalize pl g 4 h 0 = P at *
    generalize plE g 4 h 0 = E at *
    obtain ⟨S, H, R, L, J, Z⟩ := g
    dsimp only [gA] at HJ
    dsimp only [gA] at hW c0 c1 c2 c3 c4 c5 ⊢
    go_enter Tryz.func77, Tryz.ntmps77
    go_wp2_with (rw [← hW])
    clear hW
    refine (HJ.out _).mono ?_
    rintro _ w1 ⟨rfl, hb1⟩
    dsimp only
    go_wp2_with fail
    go_ret2
    exact ⟨rfl, HX.out.2.2.trans (hb1.mono (by omega))⟩
end Gm
end Go.Proofs.YtebgaafaokiigaaGreatDoor
/- vol: allowed, count, layout, firsts. -/
namespace Go.Proofs.YtebgaafaokiigaaGreatDoor
set_option maxRecDepth 20000
namespace Vl
open Go.RowKit Dk Gm

def alB (c : Int) : Bool := decide (1 ≤ c) && decide (c ≤ 2)
theorem allowed_any (c : Int) (w : World) : Calls Tryz.prog 43 #[.int .i64 c] w fun e w' => e = .returned (.bool (alB c)) ∧ w = w' := by
  unfold alB
  by_cases h1 : 1 ≤ c
  · rw [decide_eq_true h1]
    go_enter Tryz.func43, Tryz.ntmps43
    go_wp2_with fail
    go_ret
    exact ⟨rfl, rfl⟩
  · rw [decide_eq_false h1]
    go_enter Tryz.func43, Tryz.ntmps43
    go_wp2_with fail
    go_ret
    exact ⟨rfl, rfl⟩
/-- is there a layout of so many sectors? -/
def okQ (n : Nat) : Bool := decide (inQ (fsq n))
theorem geo_no {n : Nat} (h : okQ n = false) : geo (fsq n) = zG ∧ er (fsq n) = 1 := by
  have : ¬ inQ (fsq n) := of_decide_eq_false h
  exact ⟨geo_out this, er_out this⟩
theorem geo_yes {n : Nat} (h : okQ n = true) : geo (fsq n) = lay (fsq n) ∧ er (fsq n) = 0 := by
  have : inQ (fsq n) := of_decide_eq_true h
  exact ⟨geo_in this, er_in this⟩
def lyB (n m : Nat) (C : Nat → Wr) : Bool := formedB n m C && okQ n
def lyG (n m : Nat) (C : Nat → Wr) : Gg := if formedB n m C then geo (fsq n) else zG
theorem results_2b {tmps : Array Value} {w : World} {B : Nat} {g : Gg} {e : Bool} {fn : Func} {s r : Nat} (hf : fn.results = #[.cell s 82, .tmp r]) (h4 : tmps.getD s undef = .pointer (some ⟨B, 0, none⟩)) (h5 : tmps.getD r undef = .bool e)
    (kV : w.heap[B]? = some (.cells (gA g) 82 (0, 0))) : (results fn tmps).run Tryz.prog w = .ok (.tuple #[.agg (gA g), .bool e]) w := by
  have h4' : tmps[s]?.getD undef = .pointer (some ⟨B, 0, none⟩) := by simpa using h4
  have h5' : tmps[r]?.getD undef = .bool e := by simpa using h5
  have hv := run_loadVar_row (P := Tryz.prog) w B 82 82 (gA g) (0, 0) _ kV undG rfl (sizeG g)
  simp [results, hf, h4', h5', asAddr, hv]
theorem box_dg (w : World) (l : Array Value) : ∃ W, W = (w.alloc (.cells l 25)).alloc (.cells (gA zG) 82) ∧ Below w.heap.size w W ∧ W.heap.size = w.heap.size + 2 ∧
    W.heap[w.heap.size]? = some (.cells l 25 (0, 0)) ∧ W.heap[w.heap.size + 1]? = some (.cells (gA zG) 82 (0, 0)) := by
  refine ⟨_, rfl, ((Below.refl _ _).alloc (Nat.le_refl _) _).alloc (by simp) _, by simp, (Below.heap_alloc _ _ _ (by simp)).trans (heap_alloc_new w _), ?_⟩
  have := heap_alloc_new (w.alloc (.cells l 25)) (.cells (gA zG) 82)
  rwa [World.size_alloc] at this

set_option maxRecDepth 100000 in
set_option maxHeartbeats 2000000 in
theorem layout_any (sa ca : Option Addr) (n sc m cc g : Nat) (C : Nat → Wr) (f : Int) (d : Bool) (w : World) (hn : n ≤ 140737488355328) (hm : m ≤ 140737488355328) (hc : Lay w w.heap.size g ca m cc 129 (fun i => wrV (C i))) :
    Calls Tryz.prog 28 #[.agg #[.slice sa n sc, .slice ca m cc, .int .i64 f, .bool d]] w fun e w' => e = .returned (.tuple #[.agg (gA (lyG n m C)), .bool (lyB n m C)]) ∧ Below w.heap.size w w' := by
  obtain ⟨W, hW, hB0, hs0, hd0, hg0⟩ := box_dg w #[.slice sa n sc, .slice ca m cc, .int .i64 f, .bool d]
  have HF := Lib.hid (Formed_any sa ca n sc m cc g C f d W hn hm ((hc.below hB0).more hB0.size))
  have HS := Lib.hid (fun w' => fors_any (n : Int) w' (by constructor <;> omega))
  clear hc
  unfold lyG lyB
  generalize formedB n m C = z at *
  cases z with
  | false =>
    dsimp only [gA, zG] at hW
    go_enter Tryz.func28, Tryz.ntmps28
    go_wp2_with (rw [← hW])
    clear hW HS
    refine HF.out.mono ?_
    rintro _ w1 ⟨rfl, hb1⟩
    have hg1 := (hb1.block (w.heap.size + 1) (by omega)).trans hg0
    dsimp only
    go_wp2_with (refine wpList_store_row rfl 82 (.tmp 2) (.tmp 9) rfl (w.heap.size + 1) (gA zG) rfl rfl 82 _ hg1 (sizeG _) rfl (allG _) ?_; simp only [Act.put])
    refine bodyPost_ret (results_2b (B := w.heap.size + 1) (g := zG) rfl rfl rfl (setRow_heap _ _ _ _ _ _ hg1)) rfl ?_
    exact ⟨rfl, below_row (hB0.trans (hb1.mono hB0.size)) (Nat.le_succ _) _⟩
  | true =>
    obtain ⟨G, hG⟩ : ∃ G, G = geo (fsq n) := ⟨_, rfl⟩
    have hZ : (er (fsq (n : Int)) == 0) = okQ n := by
      unfold okQ er
      by_cases h : inQ (fsq n)
      · rw [if_pos h, decide_eq_true h]; rfl
      · rw [if_neg h, decide_eq_false h]; rfl
    rw [← hG] at HS
    simp only [if_true, Bool.true_and]
    rw [← hG, ← hZ]
    clear hG hZ
    generalize er (fsq (n : Int)) = E at HS ⊢
    obtain ⟨g1, g2, g3, g4, g5, g6⟩ := G
    have c0 := fun w' (hb : Below W.heap.size W w') => cell_of_row w' w.heap.size 0 _ _ _ ((hb.block w.heap.size (by omega)).trans hd0)
    have C0 := Lib.hid c0
    clear c0
    dsimp only [gA, zG] at hW HS
    go_enter Tryz.func28, Tryz.ntmps28
    go_wp2_with (rw [← hW])
    clear hW
    refine HF.out.mono ?_
    rintro _ w1 ⟨rfl, hb1⟩
    have c1 := C0.out w1 hb1
    have c2 : w1.cell? ⟨w.heap.size, 0, none⟩ = some (.slice sa n sc) := by rw [c1]; rfl
    clear c1
    dsimp only
    go_wp2_with fail
    refine (HS.out w1).mono ?_
    rintro _ w2 ⟨rfl, hb2⟩
    have hB2 := hB0.trans ((hb1.trans (hb2.mono hb1.size)).mono hB0.size)
    have hg2 := (hb2.block (w.heap.size + 1) (by have := hb1.size; omega)).trans ((hb1.block (w.heap.size + 1) (by omega)).trans hg0)
    have hs2 : w.heap.size + 1 < w2.heap.size := by have := hb1.size; have := hb2.size; omega
    have HR := Lib.hid ((((Below.refl (w.heap.size + 2) w2).alloc hs2 (.cells (gA ⟨g1, g2, g3, g4, g5, g6⟩) 82)).block (w.heap.size + 1) (by omega)).trans hg2)
    have HB := Lib.hid (hB2.alloc (by omega) (.cells (gA ⟨g1, g2, g3, g4, g5, g6⟩) 82))
    clear hb1 hb2 hB2 hg2 hg0 hd0 C0 HF HS c2
    dsimp only
    go_wp2_with (refine wpList_store_row rfl 82 (.tmp 2) (.tmp 17) rfl (w.heap.size + 1) (gA ⟨g1, g2, g3, g4, g5, g6⟩) rfl rfl 82 _ HR.out (sizeG _) rfl (allG _) ?_; simp only [Act.put])
    refine bodyPost_ret (results_2b (B := w.heap.size + 1) (g := ⟨g1, g2, g3, g4, g5, g6⟩) rfl rfl rfl (setRow_heap _ _ _ _ _ _ HR.out)) rfl ?_
    exact ⟨rfl, below_row HB.out (Nat.le_succ _) _⟩
end Vl
end Go.Proofs.YtebgaafaokiigaaGreatDoor
/- vol: firsts; == of arrays of two. -/
namespace Go.Proofs.YtebgaafaokiigaaGreatDoor
set_option maxRecDepth 20000
namespace Vl
open Go.RowKit Dk Gm Eqb

def two (x y : Int) : Array Value := #[.int .i64 x, .int .i64 y]
theorem eq_two (x y u v : Int) (w : World) : (Op.equalIn 10000 29 (.agg #[.int .i64 x, .int .i64 y]) (.agg #[.int .i64 u, .int .i64 v])).run Tryz.prog w = .ok ((x == u) && (y == v)) w := by
  obtain ⟨i, hi⟩ : ∃ i, Tryz.prog.info? 3 = some i := ⟨_, rfl⟩
  rw [run_equalIn_array w 9999 (n := 2) (e := 3) _ _ (by kernel_rfl) hi, show Tryz.prog.cellsOf 3 = 1 by kernel_rfl]
  rw [eqItems_any (k := .i64) (by kernel_rfl) (by kernel_rfl) 9998 _ _ (fun i => if i = 0 then x else y) (fun i => if i = 0 then u else v) w _ fun i hi => by
    have hi' : i < 2 := by simpa using hi
    obtain rfl | rfl : i = 0 ∨ i = 1 := by omega
    · exact ⟨rfl, rfl⟩
    · exact ⟨rfl, rfl⟩]
  show Result.ok ((List.range 2).all fun i => (if i = 0 then x else y) == (if i = 0 then u else v)) w = _
  rw [show List.range 2 = [0, 1] from rfl]
  simp
theorem run_eql_two (x y u v : Int) (w : World) : (binOp .eql 29 (.agg #[.int .i64 x, .int .i64 y]) (.agg #[.int .i64 u, .int .i64 v])).run Tryz.prog w = .ok (.bool ((x == u) && (y == v))) w := by
  rw [run_eql_struct, eq_two]; rfl

/-- the loop of firsts: its blocks -/
structure Fi (w : World) (g : Gg) (x y : Int) (wr : World) : Prop where
  be : Below w.heap.size w wr
  gg : wr.heap[w.heap.size]? = some (.cells (gA g) 82 (0, 0))
  re : Sp.R2 wr (w.heap.size + 1) 0 0
  at' : Sp.R2 wr (w.heap.size + 1 + 1) x y
theorem Fi.later {w wr w' : World} {g : Gg} {x y : Int} (h : Fi w g x y wr) (hb : Below wr.heap.size wr w') : Fi w g x y w' :=
  ⟨h.be.trans (hb.mono h.be.size), (hb.block _ (Array.getElem?_eq_some_iff.1 h.gg).1).trans h.gg, h.re.block (hb.block _ h.re.lt), h.at'.block (hb.block _ h.at'.lt)⟩
theorem Fi.p0 {w wr : World} {g : Gg} {x y : Int} (h : Fi w g x y wr) (z : Int) : Fi w g z y (wr.setCell ⟨w.heap.size + 1 + 1, 0, none⟩ (.int .i64 z)) :=
  ⟨h.be.setCell (show w.heap.size ≤ w.heap.size + 1 + 1 by omega) _, (heap_setCell_other _ _ _ _ (show w.heap.size ≠ w.heap.size + 1 + 1 by omega)).trans h.gg, h.re.block (heap_setCell_other _ _ _ _ (show w.heap.size + 1 ≠ w.heap.size + 1 + 1 by omega)), h.at'.s0 z⟩
theorem Fi.p1 {w wr : World} {g : Gg} {x y : Int} (h : Fi w g x y wr) (z : Int) : Fi w g x z (wr.setCell ⟨w.heap.size + 1 + 1, 1, none⟩ (.int .i64 z)) :=
  ⟨h.be.setCell (show w.heap.size ≤ w.heap.size + 1 + 1 by omega) _, (heap_setCell_other _ _ _ _ (show w.heap.size ≠ w.heap.size + 1 + 1 by omega)).trans h.gg, h.re.block (heap_setCell_other _ _ _ _ (show w.heap.size + 1 ≠ w.heap.size + 1 + 1 by omega)), h.at'.s1 z⟩
theorem fi_start (w : World) (g : Gg) : ∃ W, W = ((w.alloc (.cells (gA g) 82)).alloc (.cells #[.int .i64 0, .int .i64 0] 29)).alloc (.cells #[.int .i64 0, .int .i64 0] 29) ∧ Fi w g 0 0 W ∧ W.heap.size = w.heap.size + 3 := by
  refine ⟨_, rfl, ⟨(((Below.refl _ _).alloc (Nat.le_refl _) _).alloc (by simp) _).alloc (by simp; omega) _, ?_, ?_, ?_⟩, by simp⟩
  · rw [Below.heap_alloc _ _ _ (by simp; omega), Below.heap_alloc _ _ _ (by simp), heap_alloc_new]
  · unfold Sp.R2
    rw [Below.heap_alloc _ _ _ (by simp), ← World.size_alloc w (.cells (gA g) 82), heap_alloc_new]
  · unfold Sp.R2
    have := heap_alloc_new ((w.alloc (.cells (gA g) 82)).alloc (.cells #[.int .i64 0, .int .i64 0] 29)) (.cells #[.int .i64 0, .int .i64 0] 29)
    rwa [World.size_alloc, World.size_alloc] at this

section
attribute [local go_sem] Sp.zvS2
set_option maxRecDepth 100000 in
set_option maxHeartbeats 4000000 in
theorem firsts_any (g : Gg) (w : World) (hS : i64 g.S) : Calls Tryz.prog 31 #[.agg (gA g)] w fun e w' => e = .returned (.agg #[.int .i64 (pl g 4 0 0), .int .i64 (pl g 4 1 0)]) ∧ Below w.heap.size w w' := by
  have HR := Lib.hid (fun h w' => region_any g h w' hS)
  obtain ⟨W, hW, hF, hs⟩ := fi_start w g
  have HF := Lib.hid hF
  generalize h0 : pl g 4 0 0 = p0
  generalize h1 : pl g 4 1 0 = p1
  have HR0 := Lib.hid (HR.out 0)
  have HR1 := Lib.hid (HR.out 1)
  rw [h0] at HR0
  rw [h1] at HR1
  clear HR hF hS h0 h1
  generalize plE g 4 0 0 = e0 at HR0
  generalize plE g 4 1 0 = e1 at HR1
  obtain ⟨g1, g2, g3, g4, g5, g6⟩ := g
  dsimp only [gA] at hW HR0 HR1 ⊢
  go_enter Tryz.func31, Tryz.ntmps31
  go_wp2_with (rw [← hW])
  clear hW
  go_loopw [5] (fun i wr => ∃ j : Nat, j ≤ 2 ∧ i = .int .i64 j ∧ Hid (Fi w ⟨g1, g2, g3, g4, g5, g6⟩ (if 0 < j then p0 else 0) (if 1 < j then p1 else 0) wr)) (fun i _ => 2 - (intOf i).toNat)
  case atStart => exact ⟨0, by omega, rfl, Lib.hid HF.out⟩
  case round =>
    obtain ⟨j, hj, rfl, hR⟩ := hrel
    clear HF
    match j, hj with
    | 0, _ =>
      have hF := hR.out
      rw [if_neg (by omega), if_neg (by omega)] at hF
      have G := hF.gg
      have c0 := cell_of_row wr w.heap.size 0 _ _ _ G
      have c1 := cell_of_row wr w.heap.size 1 _ _ _ G
      have c2 := cell_of_row wr w.heap.size 2 _ _ _ G
      have c3 := cell_of_row wr w.heap.size 3 _ _ _ G
      have c4 := cell_of_row wr w.heap.size 4 _ _ _ G
      have c5 := cell_of_row wr w.heap.size 5 _ _ _ G
      have HF := Lib.hid hF
      clear hR HR1 hF G
      dsimp only [gA] at c0 c1 c2 c3 c4 c5
      simp at c0 c1 c2 c3 c4 c5
      go_wp2_with fail
      refine (HR0.out wr).mono ?_
      rintro _ w1 ⟨rfl, hb1⟩
      have hF1 := HF.out.later hb1
      have k0 := hF1.at'.c0
      have k1 := hF1.at'.fr 0
      have HF1 := Lib.hid hF1
      clear hF1 hb1 HF c0 c1 c2 c3 c4 c5 HR0
      dsimp only
      go_wp2_with fail
      go_roundw
      case rel => exact ⟨1, by omega, rfl, Lib.hid (HF1.out.p0 p0)⟩
      case measure => simp [intOf]
    | 1, _ =>
      have hF := hR.out
      rw [if_pos (by omega), if_neg (by omega)] at hF
      have G := hF.gg
      have c0 := cell_of_row wr w.heap.size 0 _ _ _ G
      have c1 := cell_of_row wr w.heap.size 1 _ _ _ G
      have c2 := cell_of_row wr w.heap.size 2 _ _ _ G
      have c3 := cell_of_row wr w.heap.size 3 _ _ _ G
      have c4 := cell_of_row wr w.heap.size 4 _ _ _ G
      have c5 := cell_of_row wr w.heap.size 5 _ _ _ G
      have HF := Lib.hid hF
      clear hR HR0 hF G
      dsimp only [gA] at c0 c1 c2 c3 c4 c5
      simp at c0 c1 c2 c3 c4 c5
      go_wp2_with fail
      refine (HR1.out wr).mono ?_
      rintro _ w1 ⟨rfl, hb1⟩
      have hF1 := HF.out.later hb1
      have k0 := hF1.at'.c1
      have k1 := hF1.at'.fr 1
      have HF1 := Lib.hid hF1
      clear hF1 hb1 HF c0 c1 c2 c3 c4 c5 HR1
      dsimp only
      go_wp2_with fail
      go_roundw
      case rel => exact ⟨2, by omega, rfl, Lib.hid (HF1.out.p1 p1)⟩
      case measure => simp [intOf]
    | 2, _ =>
      have hF := hR.out
      rw [if_pos (by omega), if_pos (by omega)] at hF
      have k0 := hF.at'.c0
      have k1 := hF.at'.c1
      have r0 := hF.re.c0
      have r1 := hF.re.c1
      have r2 := hF.re.fr 0
      have r3 := hF.re.fr 1
      have HF := Lib.hid hF
      clear hR HR0 HR1 hF
      go_wp2_with fail
      refine bodyPost_ret (Sp.R2.results rfl rfl ((HF.out.re.s0 p0).s1 p1)) rfl ?_
      exact ⟨rfl, ((HF.out.be.setCell (show w.heap.size ≤ w.heap.size + 1 by omega) _).setCell (show w.heap.size ≤ w.heap.size + 1 by omega) _)⟩
    | j + 3, h => omega
end
end Vl
end Go.Proofs.YtebgaafaokiigaaGreatDoor
