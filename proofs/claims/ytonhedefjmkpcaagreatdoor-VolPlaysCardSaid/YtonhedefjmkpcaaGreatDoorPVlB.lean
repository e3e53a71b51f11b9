import Derived.Test.YtonhedefjmkpcaaGreatDoorPDkBase
import Derived.Test.YtonhedefjmkpcaaGreatDoorPGmQuo
import Derived.Test.YtonhedefjmkpcaaGreatDoorPJSpA
import Derived.Great.BuildSlice
import Derived.DeepKeys
import Derived.ChangeKeysEq
/- vol: allowed, count, layout, firsts. -/
namespace Go.Proofs.YtonhedefjmkpcaaGreatDoor
set_option maxRecDepth 20000
namespace Vl
open Go.RowKit Dk Gm

def alB (c : Int) : Bool := decide (1 ≤ c) && decide (c ≤ 2)
theorem allowed_any (c : Int) (w : World) : Calls Tryz.prog 108 #[.int .i64 c] w fun e w' => e = .returned (.bool (alB c)) ∧ w = w' := by
 unfold alB
 by_cases h1 : 1 ≤ c
 ·rw [decide_eq_true h1]
  go_enter Tryz.func108, Tryz.ntmps108
  go_wp2_with fail
  go_ret
  exact ⟨rfl, rfl⟩
 ·rw [decide_eq_false h1]
  go_enter Tryz.func108, Tryz.ntmps108
  go_wp2_with fail
  go_ret
  exact ⟨rfl, rfl⟩
/-- is there a layout of so many sectors? -/
def okQ (n : Nat) : Bool := decide (inQ (fsq n))
theorem geo_yes {n : Nat} (h : okQ n = true) : geo (fsq n) = lay (fsq n) ∧ er (fsq n) = 0 := by
 have : inQ (fsq n) := of_decide_eq_true h
 exact ⟨geo_in this, er_in this⟩
def lyB (n m : Nat) (C : Nat → Wr) : Bool := formedB n m C && okQ n
def lyG (n m : Nat) (C : Nat → Wr) : Gg := if formedB n m C then geo (fsq n) else zG
theorem results_2b {tmps : Array Value} {w : World} {B : Nat} {g : Gg} {e : Bool} {fn : Func} {s r : Nat} (hf : fn.results = #[.cell s 107, .tmp r]) (h4 : tmps.getD s undef = .pointer (some ⟨B, 0, none⟩)) (h5 : tmps.getD r undef = .bool e)
  (kV : w.heap[B]? = some (.cells (gA g) 107 (0, 0))) : (results fn tmps).run Tryz.prog w = .ok (.tuple #[.agg (gA g), .bool e]) w := by
 have h4' : tmps[s]?.getD undef = .pointer (some ⟨B, 0, none⟩) := by simpa using h4
 have h5' : tmps[r]?.getD undef = .bool e := by simpa using h5
 have hv := run_loadVar_row (P := Tryz.prog) w B 107 107 (gA g) (0, 0) _ kV undG rfl (sizeG g)
 simp [results, hf, h4', h5', asAddr, hv]
theorem box_dg (w : World) (l : Array Value) : ∃ W, W = (w.alloc (.cells l 27)).alloc (.cells (gA zG) 107) ∧ Below w.heap.size w W ∧ W.heap.size = w.heap.size + 2 ∧
  W.heap[w.heap.size]? = some (.cells l 27 (0, 0)) ∧ W.heap[w.heap.size + 1]? = some (.cells (gA zG) 107 (0, 0)) := by
 refine ⟨_, rfl, ((Below.refl _ _).alloc (Nat.le_refl _) _).alloc (by simp) _, by simp, (Below.heap_alloc _ _ _ (by simp)).trans (heap_alloc_new w _), ?_⟩
 have := heap_alloc_new (w.alloc (.cells l 27)) (.cells (gA zG) 107)
 rwa [World.size_alloc] at this

set_option maxRecDepth 100000 in
set_option maxHeartbeats 2000000 in
theorem layout_any (sa ca : Option Addr) (n sc m cc g : Nat) (C : Nat → Wr) (f : Int) (d : Bool) (w : World) (hn : n ≤ 140737488355328) (hm : m ≤ 140737488355328) (hc : Lay w w.heap.size g ca m cc 129 (fun i => wrV (C i))) :
  Calls Tryz.prog 58 #[.agg #[.slice sa n sc, .slice ca m cc, .int .i64 f, .bool d]] w fun e w' => e = .returned (.tuple #[.agg (gA (lyG n m C)), .bool (lyB n m C)]) ∧ Below w.heap.size w w' := by
 obtain ⟨W, hW, hB0, hs0, hd0, hg0⟩ := box_dg w #[.slice sa n sc, .slice ca m cc, .int .i64 f, .bool d]
 have HF := Lib.hid (Formed_any sa ca n sc m cc g C f d W hn hm ((hc.below hB0).more hB0.size))
 have HS := Lib.hid (fun w' => fors_any (n : Int) w' (by constructor <;> omega))
 clear hc
 unfold lyG lyB
 generalize formedB n m C = z at *
 cases z with
 | false =>
  dsimp only [gA, zG] at hW
  go_enter Tryz.func58, Tryz.ntmps58
  go_wp2_with (rw [← hW])
  clear hW HS
  refine HF.out.mono ?_
  rintro _ w1 ⟨rfl, hb1⟩
  have hg1 := (hb1.block (w.heap.size + 1) (by omega)).trans hg0
  dsimp only
  go_wp2_with (refine wpList_store_row rfl 107 (.tmp 2) (.tmp 9) rfl (w.heap.size + 1) (gA zG) rfl rfl 107 _ hg1 (sizeG _) rfl (allG _) ?_; simp only [Act.put])
  refine bodyPost_ret (results_2b (B := w.heap.size + 1) (g := zG) rfl rfl rfl (setRow_heap _ _ _ _ _ _ hg1)) rfl ?_
  exact ⟨rfl, below_row (hB0.trans (hb1.mono hB0.size)) (Nat.le_succ _) _⟩
 | true =>
  obtain ⟨G, hG⟩ : ∃ G, G = geo (fsq n) := ⟨_, rfl⟩
  have hZ : (er (fsq (n : Int)) == 0) = okQ n := by
   unfold okQ er
   by_cases h : inQ (fsq n)
   ·rw [if_pos h, decide_eq_true h]; rfl
   ·rw [if_neg h, decide_eq_false h]; rfl
  rw [← hG] at HS
  simp only [if_true, Bool.true_and]
  rw [← hG, ← hZ]
  clear hG hZ
  generalize er (fsq (n : Int)) = E at HS ⊢
  obtain ⟨g1, g2, g3, g4, g5, g6⟩ := G
  have c0 := fun w' (hb : Below W.heap.size W w') => cell_of_row w' w.heap.size 0 _ _ _ ((hb.block w.heap.size (by omega)).trans hd0)
  have C0 := Lib.hid c0
  clear c0
  dsimp only [gA, zG] at hW HS
  go_enter Tryz.func58, Tryz.ntmps58
  go_wp2_with (rw [← hW])
  clear hW
  refine HF.out.mono ?_
  rintro _ w1 ⟨rfl, hb1⟩
  have c1 := C0.out w1 hb1
  have c2 : w1.cell? ⟨w.heap.size, 0, none⟩ = some (.slice sa n sc) := by rw [c1]; rfl
  clear c1
  dsimp only
  go_wp2_with fail
  refine (HS.out w1).mono ?_
  rintro _ w2 ⟨rfl, hb2⟩
  have hB2 := hB0.trans ((hb1.trans (hb2.mono hb1.size)).mono hB0.size)
  have hg2 := (hb2.block (w.heap.size + 1) (by have := hb1.size; omega)).trans ((hb1.block (w.heap.size + 1) (by omega)).trans hg0)
  have hs2 : w.heap.size + 1 < w2.heap.size := by have := hb1.size; have := hb2.size; omega
  have HR := Lib.hid ((((Below.refl (w.heap.size + 2) w2).alloc hs2 (.cells (gA ⟨g1, g2, g3, g4, g5, g6⟩) 107)).block (w.heap.size + 1) (by omega)).trans hg2)
  have HB := Lib.hid (hB2.alloc (by omega) (.cells (gA ⟨g1, g2, g3, g4, g5, g6⟩) 107))
  clear hb1 hb2 hB2 hg2 hg0 hd0 C0 HF HS c2
  dsimp only
  go_wp2_with (refine wpList_store_row rfl 107 (.tmp 2) (.tmp 17) rfl (w.heap.size + 1) (gA ⟨g1, g2, g3, g4, g5, g6⟩) rfl rfl 107 _ HR.out (sizeG _) rfl (allG _) ?_; simp only [Act.put])
  refine bodyPost_ret (results_2b (B := w.heap.size + 1) (g := ⟨g1, g2, g3, g4, g5, g6⟩) rfl rfl rfl (setRow_heap _ _ _ _ _ _ HR.out)) rfl ?_
  exact ⟨rfl, below_row HB.out (Nat.le_succ _) _⟩
end Vl
end Go.Proofs.YtonhedefjmkpcaaGreatDoor
/- vol: firsts; == of arrays of two. -/
namespace Go.Proofs.YtonhedefjmkpcaaGreatDoor
set_option maxRecDepth 20000
namespace Vl
open Go.RowKit Dk Gm Eqb

def two (x y : Int) : Array Value := #[.int .i64 x, .int .i64 y]
theorem eq_two (x y u v : Int) (w : World) : (Op.equalIn 10000 31 (.agg #[.int .i64 x, .int .i64 y]) (.agg #[.int .i64 u, .int .i64 v])).run Tryz.prog w = .ok ((x == u) && (y == v)) w := by
 obtain ⟨i, hi⟩ : ∃ i, Tryz.prog.info? 3 = some i := ⟨_, rfl⟩
 rw [run_equalIn_array w 9999 (n := 2) (e := 3) _ _ (by kernel_rfl) hi, show Tryz.prog.cellsOf 3 = 1 by kernel_rfl]
 rw [eqItems_any (k := .i64) (by kernel_rfl) (by kernel_rfl) 9998 _ _ (fun i => if i = 0 then x else y) (fun i => if i = 0 then u else v) w _ fun i hi => by
  have hi' : i < 2 := by simpa using hi
  obtain rfl | rfl : i = 0 ∨ i = 1 := by omega
  ·exact ⟨rfl, rfl⟩
  ·exact ⟨rfl, rfl⟩]
 show Result.ok ((List.range 2).all fun i => (if i = 0 then x else y) == (if i = 0 then u else v)) w = _
 rw [show List.range 2 = [0, 1] from rfl]
 simp
/-- the loop of firsts: its blocks -/
structure Fi (w : World) (g : Gg) (x y : Int) (wr : World) : Prop where
 be : Below w.heap.size w wr
 gg : wr.heap[w.heap.size]? = some (.cells (gA g) 107 (0, 0))
 re : Sp.R2 wr (w.heap.size + 1) 0 0
 at' : Sp.R2 wr (w.heap.size + 1 + 1) x y
theorem Fi.later {w wr w' : World} {g : Gg} {x y : Int} (h : Fi w g x y wr) (hb : Below wr.heap.size wr w') : Fi w g x y w' :=
 ⟨h.be.trans (hb.mono h.be.size), (hb.block _ (Array.getElem?_eq_some_iff.1 h.gg).1).trans h.gg, h.re.block (hb.block _ h.re.lt), h.at'.block (hb.block _ h.at'.lt)⟩
theorem Fi.p0 {w wr : World} {g : Gg} {x y : Int} (h : Fi w g x y wr) (z : Int) : Fi w g z y (wr.setCell ⟨w.heap.size + 1 + 1, 0, none⟩ (.int .i64 z)) :=
 ⟨h.be.setCell (show w.heap.size ≤ w.heap.size + 1 + 1 by omega) _, (heap_setCell_other _ _ _ _ (show w.heap.size ≠ w.heap.size + 1 + 1 by omega)).trans h.gg, h.re.block (heap_setCell_other _ _ _ _ (show w.heap.size + 1 ≠ w.heap.size + 1 + 1 by omega)), h.at'.s0 z⟩
theorem Fi.p1 {w wr : World} {g : Gg} {x y : Int} (h : Fi w g x y wr) (z : Int) : Fi w g x z (wr.setCell ⟨w.heap.size + 1 + 1, 1, none⟩ (.int .i64 z)) :=
 ⟨h.be.setCell (show w.heap.size ≤ w.heap.size + 1 + 1 by omega) _, (heap_setCell_other _ _ _ _ (show w.heap.size ≠ w.heap.size + 1 + 1 by omega)).trans h.gg, h.re.block (heap_setCell_other _ _ _ _ (show w.heap.size + 1 ≠ w.heap.size + 1 + 1 by omega)), h.at'.s1 z⟩
theorem fi_start (w : World) (g : Gg) : ∃ W, W = ((w.alloc (.cells (gA g) 107)).alloc (.cells #[.int .i64 0, .int .i64 0] 31)).alloc (.cells #[.int .i64 0, .int .i64 0] 31) ∧ Fi w g 0 0 W ∧ W.heap.size = w.heap.size + 3 := by
 refine ⟨_, rfl, ⟨(((Below.refl _ _).alloc (Nat.le_refl _) _).alloc (by simp) _).alloc (by simp; omega) _, ?_, ?_, ?_⟩, by simp⟩
 ·rw [Below.heap_alloc _ _ _ (by simp; omega), Below.heap_alloc _ _ _ (by simp), heap_alloc_new]
 ·unfold Sp.R2
  rw [Below.heap_alloc _ _ _ (by simp), ← World.size_alloc w (.cells (gA g) 107), heap_alloc_new]
 ·unfold Sp.R2
  have := heap_alloc_new ((w.alloc (.cells (gA g) 107)).alloc (.cells #[.int .i64 0, .int .i64 0] 31)) (.cells #[.int .i64 0, .int .i64 0] 31)
  rwa [World.size_alloc, World.size_alloc] at this

section
attribute [local go_sem] Sp.zvS2
set_option maxRecDepth 100000 in
set_option maxHeartbeats 4000000 in
theorem firsts_any (g : Gg) (w : World) (hS : i64 g.S) : Calls Tryz.prog 61 #[.agg (gA g)] w fun e w' => e = .returned (.agg #[.int .i64 (pl g 4 0 0), .int .i64 (pl g 4 1 0)]) ∧ Below w.heap.size w w' := by
 have HR := Lib.hid (fun h w' => region_any g h w' hS)
 obtain ⟨W, hW, hF, hs⟩ := fi_start w g
 have HF := Lib.hid hF
 generalize h0 : pl g 4 0 0 = p0
 generalize h1 : pl g 4 1 0 = p1
 have HR0 := Lib.hid (HR.out 0)
 have HR1 := Lib.hid (HR.out 1)
 rw [h0] at HR0
 rw [h1] at HR1
 clear HR hF hS h0 h1
 generalize plE g 4 0 0 = e0 at HR0
 generalize plE g 4 1 0 = e1 at HR1
 obtain ⟨g1, g2, g3, g4, g5, g6⟩ := g
 dsimp only [gA] at hW HR0 HR1 ⊢
 go_enter Tryz.func61, Tryz.ntmps61
 go_wp2_with (rw [← hW])
 clear hW
 go_loopw [5] (fun i wr => ∃ j : Nat, j ≤ 2 ∧ i = .int .i64 j ∧ Hid (Fi w ⟨g1, g2, g3, g4, g5, g6⟩ (if 0 < j then p0 else 0) (if 1 < j then p1 else 0) wr)) (fun i _ => 2 - (intOf i).toNat)
 case atStart => exact ⟨0, by omega, rfl, Lib.hid HF.out⟩
 case round =>
  obtain ⟨j, hj, rfl, hR⟩ := hrel
  clear HF
  match j, hj with
  | 0, _ =>
   have hF := hR.out
   rw [if_neg (by omega), if_neg (by omega)] at hF
   have G := hF.gg
   have c0 := cell_of_row wr w.heap.size 0 _ _ _ G
   have c1 := cell_of_row wr w.heap.size 1 _ _ _ G
   have c2 := cell_of_row wr w.heap.size 2 _ _ _ G
   have c3 := cell_of_row wr w.heap.size 3 _ _ _ G
   have c4 := cell_of_row wr w.heap.size 4 _ _ _ G
   have c5 := cell_of_row wr w.heap.size 5 _ _ _ G
   have HF := Lib.hid hF
   clear hR HR1 hF G
   dsimp only [gA] at c0 c1 c2 c3 c4 c5
   simp at c0 c1 c2 c3 c4 c5
   go_wp2_with fail
   refine (HR0.out wr).mono ?_
   rintro _ w1 ⟨rfl, hb1⟩
   have hF1 := HF.out.later hb1
   have k0 := hF1.at'.c0
   have k1 := hF1.at'.fr 0
   have HF1 := Lib.hid hF1
   clear hF1 hb1 HF c0 c1 c2 c3 c4 c5 HR0
   dsimp only
   go_wp2_with fail
   go_roundw
   case rel => exact ⟨1, by omega, rfl, Lib.hid (HF1.out.p0 p0)⟩
   case measure => simp [intOf]
  | 1, _ =>
   have hF := hR.out
   rw [if_pos (by omega), if_neg (by omega)] at hF
   have G := hF.gg
   have c0 := cell_of_row wr w.heap.size 0 _ _ _ G
   have c1 := cell_of_row wr w.heap.size 1 _ _ _ G
   have c2 := cell_of_row wr w.heap.size 2 _ _ _ G
   have c3 := cell_of_row wr w.heap.size 3 _ _ _ G
   have c4 := cell_of_row wr w.heap.size 4 _ _ _ G
   have c5 := cell_of_row wr w.heap.size 5 _ _ _ G
   have HF := Lib.hid hF
   clear hR HR0 hF G
   dsimp only [gA] at c0 c1 c2 c3 c4 c5
   simp at c0 c1 c2 c3 c4 c5
   go_wp2_with fail
   refine (HR1.out wr).mono ?_
   rintro _ w1 ⟨rfl, hb1⟩
   have hF1 := HF.out.later hb1
   have k0 := hF1.at'.c1
   have k1 := hF1.at'.fr 1
   have HF1 := Lib.hid hF1
   clear hF1 hb1 HF c0 c1 c2 c3 c4 c5 HR1
   dsimp only
   go_wp2_with fail
   go_roundw
   case rel => exact ⟨2, by omega, rfl, Lib.hid (HF1.out.p1 p1)⟩
   case measure => simp [intOf]
  | 2, _ =>
   have hF := hR.out
   rw [if_pos (by omega), if_pos (by omega)] at hF
   have k0 := hF.at'.c0
   have k1 := hF.at'.c1
   have r0 := hF.re.c0
   have r1 := hF.re.c1
   have r2 := hF.re.fr 0
   have r3 := hF.re.fr 1
   have HF := Lib.hid hF
   clear hR HR0 HR1 hF
   go_wp2_with fail
   refine bodyPost_ret (Sp.R2.results rfl rfl ((HF.out.re.s0 p0).s1 p1)) rfl ?_
   exact ⟨rfl, ((HF.out.be.setCell (show w.heap.size ≤ w.heap.size + 1 by omega) _).setCell (show w.heap.size ≤ w.heap.size + 1 by omega) _)⟩
  | j + 3, h => omega
end
end Vl
end Go.Proofs.YtonhedefjmkpcaaGreatDoor
