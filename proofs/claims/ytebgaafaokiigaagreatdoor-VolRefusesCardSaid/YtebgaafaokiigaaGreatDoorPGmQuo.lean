import Derived.Test.YtebgaafaokiigaaGreatDoorRows
import Derived.WalkKit
import Derived.WalkSmall
import Derived.Handy
import Derived.Lib.Hide
import Derived.Laws.Small
import Derived.Deep.MidRow
import Derived.BigQuiet
import Derived.Deep.QuietTactic
import Derived.Great.BuildSlice
import Derived.DeepKeys
import Derived.ChangeKeysEq
import Derived.Outline
/- geom: the chapter as functions of numbers. -/
namespace Go.Proofs.YtebgaafaokiigaaGreatDoor
set_option maxRecDepth 20000
namespace Gm
open Go.RowKit

/-- a layout: Sectors, Half, Root, Log, Region, Size -/
structure Gg where
  S : Int
  H : Int
  R : Int
  L : Int
  J : Int
  Z : Int
def eqG (g h : Gg) : Bool := (g.S == h.S) && ((g.H == h.H) && ((g.R == h.R) && ((g.L == h.L) && ((g.J == h.J) && (g.Z == h.Z)))))
theorem eqG_iff {g h : Gg} : eqG g h = true ↔ g = h := by
  obtain ⟨a, b, c, d, e, f⟩ := g
  obtain ⟨a', b', c', d', e', f'⟩ := h
  simp [eqG]
theorem eqG_same (g : Gg) : eqG g g = true := eqG_iff.2 rfl
theorem eqG_no {g h : Gg} (hn : g ≠ h) : eqG g h = false := by
  cases h1 : eqG g h with
  | false => rfl
  | true => exact absurd (eqG_iff.1 h1) hn
def i64 (z : Int) : Prop := -9223372036854775808 ≤ z ∧ z ≤ 9223372036854775807
def inQ (q : Int) : Prop := 4 ≤ q ∧ q ≤ 900
instance (q : Int) : Decidable (inQ q) := by unfold inQ; infer_instance
def zG : Gg := ⟨0, 0, 0, 0, 0, 0⟩
/-- the layout for q, and the error -/
def lay (q : Int) : Gg := ⟨4 * q + 316, 2 * q + 148, 2, 4, 28, 2 * q + 120⟩
def geo (q : Int) : Gg := if inQ q then lay q else zG
def er (q : Int) : Int := if inQ q then 0 else 1
theorem geo_in {q : Int} (h : inQ q) : geo q = lay q := if_pos h
theorem geo_out {q : Int} (h : ¬ inQ q) : geo q = zG := if_neg h
theorem er_in {q : Int} (h : inQ q) : er q = 0 := if_pos h
theorem er_out {q : Int} (h : ¬ inQ q) : er q = 1 := if_neg h
theorem lay_inj {p q : Int} (h : lay p = lay q) : p = q := by
  have := congrArg Gg.S h
  simp only [lay] at this
  omega
/-- which quota's layout has n sectors; 0: none's -/
def fsq (n : Int) : Int := if (n - 316) % 4 = 0 ∧ inQ ((n - 316) / 4) then (n - 316) / 4 else 0
theorem fsq_of {q : Int} (h : inQ q) : fsq (4 * q + 316) = q := by
  have e : (4 * q + 316 - 316) / 4 = q := by omega
  unfold fsq
  rw [if_pos ⟨by omega, by rw [e]; exact h⟩, e]
theorem fsq_no {n : Int} (h : ∀ q, inQ q → 4 * q + 316 ≠ n) : fsq n = 0 := by
  unfold fsq
  split
  · rename_i hq
    exact absurd (show 4 * ((n - 316) / 4) + 316 = n by omega) (h _ hq.2)
  · rfl
theorem fsq_cases (n : Int) : (∃ q, inQ q ∧ n = 4 * q + 316 ∧ fsq n = q) ∨ (fsq n = 0 ∧ ∀ q, inQ q → 4 * q + 316 ≠ n) := by
  by_cases h : ∃ q, inQ q ∧ n = 4 * q + 316
  · obtain ⟨q, hq, rfl⟩ := h
    exact .inl ⟨q, hq, rfl, fsq_of hq⟩
  · have h' : ∀ q, inQ q → 4 * q + 316 ≠ n := fun q hq e => h ⟨q, hq, e.symm⟩
    exact .inr ⟨fsq_no h', h'⟩

/-- the quota whose layout g is; 0: none's -/
def qn (g : Gg) : Int := if eqG (lay (fsq g.S)) g = true ∧ inQ (fsq g.S) then fsq g.S else 0
theorem qn_of {q : Int} (h : inQ q) : qn (lay q) = q := by
  have e : fsq (lay q).S = q := fsq_of h
  unfold qn
  rw [e, if_pos ⟨eqG_same _, h⟩]
theorem qn_no {g : Gg} (h : ∀ q, inQ q → lay q ≠ g) : qn g = 0 := by
  unfold qn
  split
  · rename_i hq
    exact absurd (eqG_iff.1 hq.1) (h _ hq.2)
  · rfl
theorem qn_cases (g : Gg) : (∃ q, inQ q ∧ g = lay q ∧ qn g = q) ∨ (qn g = 0 ∧ ∀ q, inQ q → lay q ≠ g) := by
  by_cases h : ∃ q, inQ q ∧ lay q = g
  · obtain ⟨q, hq, rfl⟩ := h
    exact .inl ⟨q, hq, rfl, qn_of hq⟩
  · have h' : ∀ q, inQ q → lay q ≠ g := fun q hq e => h ⟨q, hq, e⟩
    exact .inr ⟨qn_no h', h'⟩

/-- what stands in a sector: kind, half, number -/
structure Wh where
  k : Int
  h : Int
  i : Int
def inHalf (h i : Int) : Wh := if i < 2 then ⟨1, h, i⟩ else if i < 4 then ⟨2, h, i - 2⟩ else if i < 28 then ⟨3, h, i - 4⟩ else ⟨4, h, i - 28⟩
theorem ih2 {h i : Int} (h1 : 2 ≤ i) (h2 : i < 4) : inHalf h i = ⟨2, h, i - 2⟩ := by unfold inHalf; rw [if_neg (by omega), if_pos h2]
/-- where the i-th thing of a kind stands -/
def off (k : Int) : Int := if k = 2 then 2 else if k = 3 then 4 else 28
def cnt (q k : Int) : Int := if k = 2 then 2 else if k = 3 then 24 else 2 * q + 120
def atB (q k h i : Int) : Prop := (h = 0 ∨ h = 1) ∧ 0 ≤ i ∧ i < cnt q k
instance (q k h i : Int) : Decidable (atB q k h i) := by unfold atB; infer_instance
def atI (q k h i : Int) : Int := h * (2 * q + 148) + (off k + i)
/-- the document's place of a thing: its sector, the error -/
def pl (g : Gg) (k h i : Int) : Int := if qn g = 0 then 0 else if atB (qn g) k h i then atI (qn g) k h i else 0
def plE (g : Gg) (k h i : Int) : Int := if qn g = 0 then 1 else if atB (qn g) k h i then 0 else 1
theorem pl_none {g : Gg} (hg : qn g = 0) (k h i : Int) : pl g k h i = 0 ∧ plE g k h i = 1 := ⟨if_pos hg, if_pos hg⟩
theorem pl_out {q : Int} (hq : inQ q) {k h i : Int} (hb : ¬ atB q k h i) : pl (lay q) k h i = 0 ∧ plE (lay q) k h i = 1 := by
  unfold pl plE
  rw [qn_of hq]
  have : q ≠ 0 := by unfold inQ at hq; omega
  rw [if_neg this, if_neg this, if_neg hb, if_neg hb]
  exact ⟨rfl, rfl⟩
theorem pl_in {q : Int} (hq : inQ q) {k h i : Int} (hb : atB q k h i) : pl (lay q) k h i = atI q k h i ∧ plE (lay q) k h i = 0 := by
  unfold pl plE
  rw [qn_of hq]
  have : q ≠ 0 := by unfold inQ at hq; omega
  rw [if_neg this, if_neg this, if_pos hb, if_pos hb]
  exact ⟨rfl, rfl⟩
end Gm
end Go.Proofs.YtebgaafaokiigaaGreatDoor
/- geom: ForQuota, ForSectors and the reference's. -/
namespace Go.Proofs.YtebgaafaokiigaaGreatDoor
set_option maxRecDepth 20000
namespace Gm
open Go.RowKit

/-- a layout's cells -/
def gA (g : Gg) : Array Value := #[.int .i64 g.S, .int .i64 g.H, .int .i64 g.R, .int .i64 g.L, .int .i64 g.J, .int .i64 g.Z]

theorem undG : Tryz.prog.underlying 82 = some (.struct (Tryz.prog.fieldsOf 82)) := by kernel_rfl
theorem sizeG (g : Gg) : (Tryz.prog.info? 82).map (·.size) = some (gA g).size := by show _ = some 6; kernel_rfl
theorem results_2g {tmps : Array Value} {w : World} {B : Nat} {g : Gg} {e : Int} {fn : Func} {s r : Nat} (hf : fn.results = #[.cell s 82, .tmp r]) (h4 : tmps.getD s undef = .pointer (some ⟨B, 0, none⟩)) (h5 : tmps.getD r undef = .int .i64 e)
    (kV : w.heap[B]? = some (.cells (gA g) 82 (0, 0))) : (results fn tmps).run Tryz.prog w = .ok (.tuple #[.agg (gA g), .int .i64 e]) w := by
  have h4' : tmps[s]?.getD undef = .pointer (some ⟨B, 0, none⟩) := by simpa using h4
  have h5' : tmps[r]?.getD undef = .int .i64 e := by simpa using h5
  have hv := run_loadVar_row (P := Tryz.prog) w B 82 82 (gA g) (0, 0) _ kV undG rfl (sizeG g)
  simp [results, hf, h4', h5', asAddr, hv]

theorem allG (g : Gg) : (gA g).all (·.oneCell') = true := by simp [gA, Value.oneCell']
theorem w64_in (n : Int) (h : -9223372036854775808 ≤ n ∧ n ≤ 9223372036854775807) : wrap64 n = n := by unfold wrap64; omega
theorem below_row {K g : Nat} {w w' : World} (h : Below K w w') (hg : K ≤ g) (cs : Array Value) : Below K w (w'.setRow g cs) := h.trans ⟨rfl, rfl, rfl, by simp, fun k hk => setRow_other w' _ k _ (by omega)⟩
/-- a result's box, when a call has come back -/
theorem box_back {w w1 : World} {cs : Array Value} (hb : Below (w.alloc (.cells cs 82)).heap.size (w.alloc (.cells cs 82)) w1) : w1.heap[w.heap.size]? = some (.cells cs 82 (0, 0)) ∧ w.heap.size < w1.heap.size ∧ Below w.heap.size w w1 := by
  have hs := hb.size
  have e : (w.alloc (.cells cs 82)).heap.size = w.heap.size + 1 := by simp
  rw [e] at hb hs
  exact ⟨(hb.block _ (by omega)).trans (heap_alloc_new _ _), by omega, ((Below.refl _ _).alloc (Nat.le_refl _) _).trans (hb.mono (by omega))⟩

set_option maxHeartbeats 1000000 in
theorem forq_any (q : Int) (w : World) : Calls Tryz.prog 52 #[.int .i64 q] w fun e w' => e = .returned (.tuple #[.agg (gA (geo q)), .int .i64 (er q)]) ∧ Below w.heap.size w w' := by
  by_cases h1 : q < 4
  · have hn : ¬ inQ q := by unfold inQ; omega
    rw [geo_out hn, er_out hn]
    go_enter Tryz.func52, Tryz.ntmps52
    go_wp2_with fail
    refine bodyPost_ret (results_2g (g := zG) rfl rfl rfl (heap_alloc_new w _)) rfl ?_
    exact ⟨rfl, (Below.refl _ _).alloc (Nat.le_refl _) _⟩
  by_cases h2 : 900 < q
  · have hn : ¬ inQ q := by unfold inQ; omega
    rw [geo_out hn, er_out hn]
    go_enter Tryz.func52, Tryz.ntmps52
    go_wp2_with fail
    refine bodyPost_ret (results_2g (g := zG) rfl rfl rfl (heap_alloc_new w _)) rfl ?_
    exact ⟨rfl, (Below.refl _ _).alloc (Nat.le_refl _) _⟩
  · have hn : inQ q := by unfold inQ; omega
    rw [geo_in hn, er_in hn]
    clear hn
    go_enter Tryz.func52, Tryz.ntmps52
    go_wp2_with fail
    refine bodyPost_ret (results_2g (g := lay q) rfl rfl rfl (by rw [heap_alloc_new]; simp [gA, lay]; omega)) rfl ?_
    exact ⟨rfl, (Below.refl _ _).alloc (Nat.le_refl _) _⟩
set_option maxHeartbeats 1000000 in
theorem refforq_any (q : Int) (w : World) : Calls Tryz.prog 78 #[.int .i64 q] w fun e w' => e = .returned (.tuple #[.agg (gA (geo q)), .int .i64 (er q)]) ∧ Below w.heap.size w w' := by
  by_cases h1 : q < 4
  · have hn : ¬ inQ q := by unfold inQ; omega
    rw [geo_out hn, er_out hn]
    go_enter Tryz.func78, Tryz.ntmps78
    go_wp2_with fail
    refine bodyPost_ret (results_2g (g := zG) rfl rfl rfl (heap_alloc_new w _)) rfl ?_
    exact ⟨rfl, (Below.refl _ _).alloc (Nat.le_refl _) _⟩
  by_cases h2 : 900 < q
  · have hn : ¬ inQ q := by unfold inQ; omega
    rw [geo_out hn, er_out hn]
    go_enter Tryz.func78, Tryz.ntmps78
    go_wp2_with fail
    refine bodyPost_ret (results_2g (g := zG) rfl rfl rfl (heap_alloc_new w _)) rfl ?_
    exact ⟨rfl, (Below.refl _ _).alloc (Nat.le_refl _) _⟩
  · have hn : inQ q := by unfold inQ; omega
    rw [geo_in hn, er_in hn]
    clear hn
    go_enter Tryz.func78, Tryz.ntmps78
    go_wp2_with fail
    refine bodyPost_ret (results_2g (B := w.heap.size) (g := lay q) rfl rfl rfl ((((Below.refl (w.heap.size + 1) _).alloc (by simp) _).block w.heap.size (by omega)).trans (by rw [heap_alloc_new]; simp [gA, lay]; omega))) rfl ?_
    exact ⟨rfl, ((Below.refl _ _).alloc (Nat.le_refl _) _).alloc (by simp) _⟩
end Gm
end Go.Proofs.YtebgaafaokiigaaGreatDoor
/- geom: ForSectors and the reference's. -/
namespace Go.Proofs.YtebgaafaokiigaaGreatDoor
set_option maxRecDepth 20000
namespace Gm
open Go.RowKit

/-- the quota that the code tries -/
def qc (n : Int) : Int := wrap64 ((wrap64 (wrap64 (wrap64 ((wrap64 (n - 20)).tdiv 2) - 28) - 120)).tdiv 2)
theorem qc_of {q : Int} (h : inQ q) : qc (4 * q + 316) = q := by
  unfold inQ at h
  unfold qc
  have e1 : wrap64 (4 * q + 316 - 20) = 2 * (2 * q + 148) := by rw [w64_in _ (by omega)]; omega
  have e2 : (2 * (2 * q + 148)).tdiv 2 = 2 * q + 148 := Int.mul_tdiv_cancel_left _ (by decide)
  have e3 : wrap64 (2 * q + 148) = 2 * q + 148 := w64_in _ (by omega)
  have e4 : wrap64 (2 * q + 148 - 28) = 2 * q + 120 := by rw [w64_in _ (by omega)]; omega
  have e5 : wrap64 (2 * q + 120 - 120) = 2 * q := by rw [w64_in _ (by omega)]; omega
  have e6 : (2 * q).tdiv 2 = q := Int.mul_tdiv_cancel_left _ (by decide)
  have e7 : wrap64 q = q := w64_in _ (by omega)
  rw [e1, e2, e3, e4, e5, e6, e7]
theorem qc_no {n q : Int} (h : fsq n = 0) (_e : qc n = q) (hq : inQ q) : 4 * q + 316 ≠ n := fun e2 => by
  rw [← e2, fsq_of hq] at h
  unfold inQ at hq
  omega

set_option maxHeartbeats 1000000 in
theorem fors_any (n : Int) (w : World) (hn : i64 n) : Calls Tryz.prog 72 #[.int .i64 n] w fun e w' => e = .returned (.tuple #[.agg (gA (geo (fsq n))), .int .i64 (er (fsq n))]) ∧ Below w.heap.size w w' := by
  have HF := Lib.hid (forq_any (qc n))
  obtain ⟨hn1, hn2⟩ := hn
  rcases fsq_cases n with ⟨q, hq, hnq, hf⟩ | ⟨hf, hno⟩
  · have HQ : Hid (n = 4 * q + 316 ∧ qc n = q) := Lib.hid ⟨hnq, by rw [hnq]; exact qc_of hq⟩
    rw [hf, geo_in hq, er_in hq]
    rw [HQ.out.2, geo_in hq, er_in hq] at HF
    clear hnq hf
    unfold inQ at hq
    obtain ⟨hq1, hq2⟩ := hq
    go_enter Tryz.func72, Tryz.ntmps72
    go_wp2_with fail
    show Calls _ _ #[.int .i64 (qc n)] _ _
    rw [HQ.out.2]
    refine (HF.out _).mono ?_
    rintro _ w1 ⟨rfl, hb1⟩
    dsimp only [gA, lay]
    obtain ⟨hr, hs, hb⟩ := box_back hb1
    have HR := Lib.hid ((((Below.refl (w.heap.size + 1) w1).alloc hs (.cells (gA (lay q)) 82)).block w.heap.size (by omega)).trans hr)
    have HB := Lib.hid (hb.alloc (Nat.le_of_lt hs) (.cells (gA (lay q)) 82))
    have hnq := HQ.out.1
    clear HQ hr hb hb1 HF
    subst hnq
    go_wp2_with (refine wpList_store_row rfl 82 (.tmp 2) (.tmp 27) rfl w.heap.size (gA (lay q)) rfl rfl 82 _ HR.out (sizeG _) rfl (allG _) ?_; simp only [Act.put])
    refine bodyPost_ret (results_2g (B := w.heap.size) (g := lay q) rfl rfl rfl (setRow_heap _ _ _ _ _ _ HR.out)) rfl ?_
    exact ⟨rfl, below_row HB.out (Nat.le_refl _) _⟩
  · rw [hf]
    have HQ : Hid (inQ (qc n) → 4 * qc n + 316 ≠ n) := Lib.hid fun h => qc_no hf rfl h
    clear hno hf
    have e0 : ¬ inQ 0 := by unfold inQ; omega
    rw [geo_out e0, er_out e0]
    clear e0
    by_cases hq : inQ (qc n)
    · rw [geo_in hq, er_in hq] at HF
      have hne := HQ.out hq
      have HNE := Lib.hid hne
      unfold inQ at hq
      clear hne HQ
      go_enter Tryz.func72, Tryz.ntmps72
      go_wp2_with fail
      show Calls _ _ #[.int .i64 (qc n)] _ _
      refine (HF.out _).mono ?_
      rintro _ w1 ⟨rfl, hb1⟩
      dsimp only [gA, lay]
      have hne := HNE.out
      clear HF HNE
      generalize qc n = q at *
      obtain ⟨hq1, hq2⟩ := hq
      obtain ⟨hr, hs, hb⟩ := box_back hb1
      have HR := Lib.hid ((((Below.refl (w.heap.size + 1) w1).alloc hs (.cells (gA (lay q)) 82)).block w.heap.size (by omega)).trans hr)
      have HB := Lib.hid (hb.alloc (Nat.le_of_lt hs) (.cells (gA (lay q)) 82))
      clear hr hb hb1
      go_wp2_with (refine wpList_store_row rfl 82 (.tmp 2) (.tmp 26) rfl w.heap.size (gA zG) rfl rfl 82 _ HR.out (sizeG _) rfl (allG _) ?_; simp only [Act.put])
      refine bodyPost_ret (results_2g (B := w.heap.size) (g := zG) rfl rfl rfl (setRow_heap _ _ _ _ _ _ HR.out)) rfl ?_
      exact ⟨rfl, below_row HB.out (Nat.le_refl _) _⟩
    · rw [geo_out hq, er_out hq] at HF
      clear hq
      go_enter Tryz.func72, Tryz.ntmps72
      go_wp2_with fail
      show Calls _ _ #[.int .i64 (qc n)] _ _
      refine (HF.out _).mono ?_
      rintro _ w1 ⟨rfl, hb1⟩
      dsimp only [gA, zG]
      clear HF HQ
      obtain ⟨hr, hs, hb⟩ := box_back hb1
      have HR := Lib.hid ((((Below.refl (w.heap.size + 1) w1).alloc hs (.cells (gA zG) 82)).block w.heap.size (by omega)).trans hr)
      have HB := Lib.hid (hb.alloc (Nat.le_of_lt hs) (.cells (gA zG) 82))
      clear hr hb hb1
      go_wp2_with (refine wpList_store_row rfl 82 (.tmp 2) (.tmp 26) rfl w.heap.size (gA zG) rfl rfl 82 _ HR.out (sizeG _) rfl (allG _) ?_; simp only [Act.put])
      refine bodyPost_ret (results_2g (B := w.heap.size) (g := zG) rfl rfl rfl (setRow_heap _ _ _ _ _ _ HR.out)) rfl ?_
      exact ⟨rfl, below_row HB.out (Nat.le_refl _) _⟩
end Gm
end Go.Proofs.YtebgaafaokiigaaGreatDoor
/- geom: == of layouts; Quota and the reference's. -/
namespace Go.Proofs.YtebgaafaokiigaaGreatDoor
set_option maxRecDepth 20000
namespace Gm
open Go.RowKit

theorem part_g (X : Array Value) (o : Nat) (z : Int) (h : X[o]? = some (.int .i64 z)) (w : World) : (part 3 X o).run Tryz.prog w = .ok (.int .i64 z) w := run_part_plain w (by kernel_rfl) h
theorem eq_g (g h : Gg) (w : World) : (Op.equalIn 10000 82 (.agg (gA g)) (.agg (gA h))).run Tryz.prog w = .ok (eqG g h) w := by
  rw [run_equalIn_struct w 9999 82 _ _ (by kernel_rfl) (by kernel_rfl)]
  obtain ⟨f0, f1, f2, f3, f4, f5, hf, t0, o0, n0, t1, o1, n1, t2, o2, n2, t3, o3, n3, t4, o4, n4, t5, o5, n5⟩ : ∃ f0 f1 f2 f3 f4 f5 : Field, (Tryz.prog.fieldsOf 82).toList = [f0, f1, f2, f3, f4, f5] ∧ f0.type = 3 ∧ f0.offset = 0 ∧ (f0.name ≠ "_") ∧ f1.type = 3 ∧ f1.offset = 1 ∧ (f1.name ≠ "_") ∧ f2.type = 3 ∧ f2.offset = 2 ∧ (f2.name ≠ "_") ∧ f3.type = 3 ∧ f3.offset = 3 ∧ (f3.name ≠ "_") ∧ f4.type = 3 ∧ f4.offset = 4 ∧ (f4.name ≠ "_") ∧ f5.type = 3 ∧ f5.offset = 5 ∧ (f5.name ≠ "_") :=
    ⟨_, _, _, _, _, _, rfl, rfl, rfl, by decide, rfl, rfl, by decide, rfl, rfl, by decide, rfl, rfl, by decide, rfl, rfl, by decide, rfl, rfl, by decide⟩
  rw [hf]
  unfold eqG
  simp only [Op.eqFields, Sem.run_bind, Sem.run_ite, if_pos n0, if_pos n1, if_pos n2, if_pos n3, if_pos n4, if_pos n5, t0, o0, t1, o1, t2, o2, t3, o3, t4, o4, t5, o5]
  rw [part_g (gA g) 0 g.S rfl w, Result.andThen_ok, part_g (gA h) 0 h.S rfl w, Result.andThen_ok, run_equalIn_int w 9998 _ .i64 .i64 _ _ (by kernel_rfl), Result.andThen_ok]
  cases h0 : g.S == h.S with
  | false => simp
  | true =>
  simp only [Bool.not_true, Bool.false_eq_true, if_false, Bool.true_and]
  rw [part_g (gA g) 1 g.H rfl w, Result.andThen_ok, part_g (gA h) 1 h.H rfl w, Result.andThen_ok, run_equalIn_int w 9998 _ .i64 .i64 _ _ (by kernel_rfl), Result.andThen_ok]
  cases h1 : g.H == h.H with
  | false => simp
  | true =>
  simp only [Bool.not_true, Bool.false_eq_true, if_false, Bool.true_and]
  rw [part_g (gA g) 2 g.R rfl w, Result.andThen_ok, part_g (gA h) 2 h.R rfl w, Result.andThen_ok, run_equalIn_int w 9998 _ .i64 .i64 _ _ (by kernel_rfl), Result.andThen_ok]
  cases h2 : g.R == h.R with
  | false => simp
  | true =>
  simp only [Bool.not_true, Bool.false_eq_true, if_false, Bool.true_and]
  rw [part_g (gA g) 3 g.L rfl w, Result.andThen_ok, part_g (gA h) 3 h.L rfl w, Result.andThen_ok, run_equalIn_int w 9998 _ .i64 .i64 _ _ (by kernel_rfl), Result.andThen_ok]
  cases h3 : g.L == h.L with
  | false => simp
  | true =>
  simp only [Bool.not_true, Bool.false_eq_true, if_false, Bool.true_and]
  rw [part_g (gA g) 4 g.J rfl w, Result.andThen_ok, part_g (gA h) 4 h.J rfl w, Result.andThen_ok, run_equalIn_int w 9998 _ .i64 .i64 _ _ (by kernel_rfl), Result.andThen_ok]
  cases h4 : g.J == h.J with
  | false => simp
  | true =>
  simp only [Bool.not_true, Bool.false_eq_true, if_false, Bool.true_and]
  rw [part_g (gA g) 5 g.Z rfl w, Result.andThen_ok, part_g (gA h) 5 h.Z rfl w, Result.andThen_ok, run_equalIn_int w 9998 _ .i64 .i64 _ _ (by kernel_rfl), Result.andThen_ok]
  cases h5 : g.Z == h.Z with
  | false => simp
  | true => simp
theorem guardG : Tryz.prog.eqGuardType Tryz.prog.depth 82 = false := by kernel_rfl

/-- plain regions: an operation, guarded or not, that yields v; == of layouts. The caller writes '@' ahead of these: else the elaborator unfolds the goal -/
theorem wpList_val {P : Program} {ops : Array Oper} {rest : List Oper} {o : Oper} {a : Act} {w : World} {Q : Exit → Act → World → Prop} (v : Value) (hw : Region.wanted o (yielded ops a.tmps) = true) (ho : (execOp a.eval o).run P w = .ok (.value v) w)
    (h : wpList P ops Q rest (a.put o.dst v) w) : wpList P ops Q (o :: rest) a w :=
  BigFrame.wpList_want hw fun _ hK => by
    unfold Oper.wp
    rw [ho]
    exact hK _ _ h
theorem wpList_neqG {ops : Array Oper} {rest : List Oper} {o : Oper} {a : Act} {w : World} {Q : Exit → Act → World → Prop} (x y : Operand) (ho : o.op = .binOp .neq 82 x y 82) (hw : Region.wanted o (yielded ops a.tmps) = true) (g h : Gg) (hx : a.eval x = .agg (gA g)) (hy : a.eval y = .agg (gA h))
    (k : wpList Tryz.prog ops Q rest (a.put o.dst (.bool (!eqG g h))) w) : wpList Tryz.prog ops Q (o :: rest) a w :=
  wpList_val (.bool (!eqG g h)) hw (by
    unfold execOp
    simp only [ho, hx, hy, Sem.run_bind, run_eqGuard_agg w _ _ _ _ _ _ guardG, run_neq_struct, eq_g, Result.andThen_ok]
    rfl) k

/-- a layout that is boxed -/
structure Bg (w : World) (b : Nat) (g : Gg) : Prop where
  row : w.heap[b]? = some (.cells (gA g) 82 (0, 0))
section
variable {w w' : World} {b : Nat} {g : Gg}
theorem Bg.c0 (h : Bg w b g) : w.cell? ⟨b, 0, none⟩ = some (.int .i64 g.S) := by rw [cell_of_row w b 0 _ _ _ h.row]; rfl
theorem Bg.c1 (h : Bg w b g) : w.cell? ⟨b, 1, none⟩ = some (.int .i64 g.H) := by rw [cell_of_row w b 1 _ _ _ h.row]; rfl
theorem Bg.c2 (h : Bg w b g) : w.cell? ⟨b, 2, none⟩ = some (.int .i64 g.R) := by rw [cell_of_row w b 2 _ _ _ h.row]; rfl
theorem Bg.c3 (h : Bg w b g) : w.cell? ⟨b, 3, none⟩ = some (.int .i64 g.L) := by rw [cell_of_row w b 3 _ _ _ h.row]; rfl
theorem Bg.c4 (h : Bg w b g) : w.cell? ⟨b, 4, none⟩ = some (.int .i64 g.J) := by rw [cell_of_row w b 4 _ _ _ h.row]; rfl
theorem Bg.c5 (h : Bg w b g) : w.cell? ⟨b, 5, none⟩ = some (.int .i64 g.Z) := by rw [cell_of_row w b 5 _ _ _ h.row]; rfl
theorem Bg.lt (h : Bg w b g) : b < w.heap.size := (Array.getElem?_eq_some_iff.1 h.row).1
theorem Bg.below (h : Bg w b g) {K : Nat} (hb : Below K w w') (hg : b < K) : Bg w' b g := ⟨(hb.block b hg).trans h.row⟩
theorem box_g (w : World) (g : Gg) : ∃ W, W = w.alloc (.cells (gA g) 82) ∧ Hid (Bg W w.heap.size g ∧ W.heap.size = w.heap.size + 1 ∧ Below w.heap.size w W) :=
  ⟨_, rfl, Lib.hid ⟨⟨heap_alloc_new _ _⟩, by simp, (Below.refl _ _).alloc (Nat.le_refl _) _⟩⟩
end

theorem tdiv_two (q : Int) : (2 * q).tdiv 2 = q := Int.mul_tdiv_cancel_left _ (by decide)
theorem and_two (q : Int) : 2 * q + 120 - 120 = 2 * q := by omega
set_option maxHeartbeats 1000000 in
theorem quota_any (g : Gg) (w : World) (hS : i64 g.S) : Calls Tryz.prog 130 #[.agg (gA g)] w fun e w' => e = .returned (.int .i64 (qn g)) ∧ Below w.heap.size w w' := by
  have HF := Lib.hid (fun w => fors_any g.S w hS)
  obtain ⟨W, hW, HX⟩ := box_g w g
  have c0 := HX.out.1.c0
  have hws := HX.out.2.1
  rcases qn_cases g with ⟨q, hq, hg, hn⟩ | ⟨hn, hno⟩
  · subst hg
    rw [hn]
    have e1 : fsq (lay q).S = q := fsq_of hq
    rw [e1, geo_in hq, er_in hq] at HF
    have e8 := and_two q
    have e9 := tdiv_two q
    unfold inQ at hq
    obtain ⟨hq1, hq2⟩ := hq
    clear hn e1 hS
    dsimp only [gA, lay] at c0 HF hW ⊢
    go_enter Tryz.func130, Tryz.ntmps130
    go_wp2_with (rw [← hW])
    clear hW
    refine (HF.out _).mono ?_
    rintro _ w1 ⟨rfl, hb1⟩
    dsimp only
    obtain ⟨W2, hW2, HY⟩ := box_g w1 (lay q)
    have hx1 := HX.out.1.below hb1 (by omega)
    have hs1 := hb1.size
    have x := hx1.below HY.out.2.2 (by omega)
    have y := HY.out.1
    have x0 := x.c0; have x1 := x.c1; have x2 := x.c2; have x3 := x.c3; have x4 := x.c4; have x5 := x.c5
    have y0 := y.c0; have y1 := y.c1; have y2 := y.c2; have y3 := y.c3; have y4 := y.c4; have y5 := y.c5
    have HB := Lib.hid (HX.out.2.2.trans ((hb1.trans (HY.out.2.2.mono (by omega))).mono (by omega)))
    clear hx1 hb1 x y
    dsimp only [gA, lay] at x0 x1 x2 x3 x4 x5 y0 y1 y2 y3 y4 y5 hW2
    subst hW2
    go_wp2_with fail
    go_ret
    exact ⟨rfl, HB.out⟩
  · by_cases hi : inQ (fsq g.S)
    · have HN := Lib.hid (eqG_no (hno _ hi))
      rw [geo_in hi, er_in hi] at HF
      rw [hn]
      clear hi hn hno hS
      generalize fsq g.S = p at *
      obtain ⟨S, H, R, L, J, Z⟩ := g
      dsimp only [gA, lay] at c0 HF hW ⊢
      go_enter Tryz.func130, Tryz.ntmps130
      go_wp2_with (rw [← hW])
      clear hW
      refine (HF.out _).mono ?_
      rintro _ w1 ⟨rfl, hb1⟩
      dsimp only
      obtain ⟨W2, hW2, HY⟩ := box_g w1 (lay p)
      have hx1 := HX.out.1.below hb1 (by omega)
      have hs1 := hb1.size
      have x := hx1.below HY.out.2.2 (by omega)
      have y := HY.out.1
      have x0 := x.c0; have x1 := x.c1; have x2 := x.c2; have x3 := x.c3; have x4 := x.c4; have x5 := x.c5
      have y0 := y.c0; have y1 := y.c1; have y2 := y.c2; have y3 := y.c3; have y4 := y.c4; have y5 := y.c5
      have HB := Lib.hid (HX.out.2.2.trans ((hb1.trans (HY.out.2.2.mono (by omega))).mono (by omega)))
      clear hx1 hb1 x y
      dsimp only [gA, lay] at x0 x1 x2 x3 x4 x5 y0 y1 y2 y3 y4 y5 hW2
      subst hW2
      go_wp2_with ((refine @wpList_neqG _ _ _ _ _ _ (.tmp 14) (.tmp 15) rfl rfl (lay p) ⟨S, H, R, L, J, Z⟩ rfl rfl ?_; rw [HN.out]; simp only [Act.put]))
      go_ret
      exact ⟨rfl, HB.out⟩
    · rw [geo_out hi, er_out hi] at HF
      rw [hn]
      clear hi hn hno hS
      obtain ⟨S, H, R, L, J, Z⟩ := g
      dsimp only [gA, zG] at c0 HF hW ⊢
      go_enter Tryz.func130, Tryz.ntmps130
      go_wp2_with (rw [← hW])
      clear hW
      refine (HF.out _).mono ?_
      rintro _ w1 ⟨rfl, hb1⟩
      dsimp only
      have hs1 := hb1.size
      go_wp2_with fail
      go_ret
      exact ⟨rfl, HX.out.2.2.trans ((hb1.mono (by omega)).alloc (by omega) _)⟩
end Gm
end Go.Proofs.YtebgaafaokiigaaGreatDoor
/- geom: the reference's ForSectors. -/
namespace Go.Proofs.YtebgaafaokiigaaGreatDoor
set_option maxRecDepth 20000
namespace Gm
open Go.RowKit

set_option maxHeartbeats 1000000 in
theorem refors_any (n : Int) (w : World) : Calls Tryz.prog 32 #[.int .i64 n] w fun e w' => e = .returned (.tuple #[.agg (gA (geo (fsq n))), .int .i64 (er (fsq n))]) ∧ Below w.heap.size w w' := by
  have HF := Lib.hid refforq_any
  obtain ⟨W, hW⟩ : ∃ W, W = w.alloc (.cells (gA zG) 82) := ⟨_, rfl⟩
  have HX : Hid (W.heap[w.heap.size]? = some (.cells (gA zG) 82 (0, 0)) ∧ W.heap.size = w.heap.size + 1 ∧ Below w.heap.size w W) := Lib.hid (by
    rw [hW]
    exact ⟨heap_alloc_new _ _, by simp, (Below.refl _ _).alloc (Nat.le_refl _) _⟩)
  go_enter Tryz.func32, Tryz.ntmps32
  go_wp2_with (rw [show w.alloc (.cells #[.int .i64 0, .int .i64 0, .int .i64 0, .int .i64 0, .int .i64 0, .int .i64 0] 82) = W from hW.symm])
  clear hW
  have hws := HX.out.2.1
  go_loopw [4] (fun i wr => ∃ q : Int, 4 ≤ q ∧ q ≤ 901 ∧ i = .int .i64 q ∧ Hid (Below W.heap.size W wr ∧ ∀ p, 4 ≤ p → p < q → 4 * p + 316 ≠ n)) (fun i _ => (901 - intOf i).toNat)
  case atStart => exact ⟨4, by omega, by omega, rfl, Lib.hid ⟨Below.refl _ _, fun p _ _ => by omega⟩⟩
  case round =>
    obtain ⟨q, hq4, hq9, rfl, HB⟩ := hrel
    have hsz := HB.out.1.size
    by_cases hlt : q ≤ 900
    · have hq : inQ q := ⟨hq4, hlt⟩
      have HQ := HF.out q
      rw [geo_in hq, er_in hq] at HQ
      have HQ2 := Lib.hid HQ
      clear hq HQ
      go_wp2_with fail
      refine (HQ2.out _).mono ?_
      rintro _ w2 ⟨rfl, hb2⟩
      dsimp only [gA, lay]
      have hs2 := hb2.size
      have HB2 := Lib.hid (HB.out.1.trans ((hb2.alloc hs2 (.cells (gA (lay q)) 82)).mono hsz))
      clear hb2
      by_cases he : 4 * q + 316 = n
      · subst he
        have HR := Lib.hid ((HB2.out.block w.heap.size (by omega)).trans HX.out.1)
        go_wp2_with (refine wpList_store_row rfl 82 (.tmp 2) (.tmp 20) rfl w.heap.size (gA (lay q)) rfl rfl 82 _ HR.out (sizeG _) rfl (allG _) ?_; simp only [Act.put])
        refine bodyPost_ret (results_2g (B := w.heap.size) (g := lay q) rfl rfl rfl (setRow_heap _ _ _ _ _ _ HR.out)) rfl ?_
        have hq : inQ q := ⟨hq4, hlt⟩
        rw [fsq_of hq, geo_in hq, er_in hq]
        exact ⟨rfl, below_row (HX.out.2.2.trans (HB2.out.mono (by omega))) (Nat.le_refl _) _⟩
      · go_wp2_with fail
        go_roundw
        case rel => exact ⟨q + 1, by omega, by omega, by go_num, Lib.hid ⟨HB2.out, fun p h1 h2 => by
          rcases Int.lt_or_eq_of_le (show p ≤ q by omega) with h | h
          · exact HB.out.2 p h1 h
          · rw [h]; exact he⟩⟩
        case measure => simp [intOf]; omega
    · obtain rfl : q = 901 := by omega
      have HF0 := Lib.hid (show fsq n = 0 from fsq_no fun p hp => HB.out.2 p hp.1 (by have := hp.2; omega))
      have HR := Lib.hid ((HB.out.1.block w.heap.size (by omega)).trans HX.out.1)
      go_wp2_with (refine wpList_store_row rfl 82 (.tmp 2) (.tmp 21) rfl w.heap.size (gA zG) rfl rfl 82 _ HR.out (sizeG _) rfl (allG _) ?_; simp only [Act.put])
      refine bodyPost_ret (results_2g (B := w.heap.size) (g := zG) rfl rfl rfl (setRow_heap _ _ _ _ _ _ HR.out)) rfl ?_
      have e0 : ¬ inQ 0 := by unfold inQ; omega
      rw [HF0.out, geo_out e0, er_out e0]
      exact ⟨rfl, below_row (HX.out.2.2.trans (HB.out.1.mono (by omega))) (Nat.le_refl _) _⟩
end Gm
end Go.Proofs.YtebgaafaokiigaaGreatDoor
