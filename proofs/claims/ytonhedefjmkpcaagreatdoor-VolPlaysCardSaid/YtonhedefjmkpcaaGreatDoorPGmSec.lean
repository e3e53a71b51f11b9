import Derived.Test.YtonhedefjmkpcaaGreatDoorRows
import Derived.WalkKit
import Derived.WalkSmall
import Derived.Handy
import Derived.Lib.Hide
import Derived.Laws.Small
import Derived.Deep.MidRow
import Derived.BigQuiet
import Derived.Deep.QuietTactic
/- geom: the chapter as functions of numbers. -/
namespace Go.Proofs.YtonhedefjmkpcaaGreatDoor
set_option maxRecDepth 20000
namespace Gm
open Go.RowKit

/-- a layout: Sectors, Half, Root, Log, Region, Size -/
structure Gg where
 S : Int
 H : Int
 R : Int
 L : Int
 J : Int
 Z : Int
def eqG (g h : Gg) : Bool := (g.S == h.S) && ((g.H == h.H) && ((g.R == h.R) && ((g.L == h.L) && ((g.J == h.J) && (g.Z == h.Z)))))
theorem eqG_iff {g h : Gg} : eqG g h = true ↔ g = h := by
 obtain ⟨a, b, c, d, e, f⟩ := g
 obtain ⟨a', b', c', d', e', f'⟩ := h
 simp [eqG]
theorem eqG_same (g : Gg) : eqG g g = true := eqG_iff.2 rfl
theorem eqG_no {g h : Gg} (hn : g ≠ h) : eqG g h = false := by
 cases h1 : eqG g h with
 | false => rfl
 | true => exact absurd (eqG_iff.1 h1) hn
def i64 (z : Int) : Prop := -9223372036854775808 ≤ z ∧ z ≤ 9223372036854775807
def inQ (q : Int) : Prop := 4 ≤ q ∧ q ≤ 900
instance (q : Int) : Decidable (inQ q) := by unfold inQ; infer_instance
def zG : Gg := ⟨0, 0, 0, 0, 0, 0⟩
/-- the layout for q, and the error -/
def lay (q : Int) : Gg := ⟨4 * q + 316, 2 * q + 148, 2, 4, 28, 2 * q + 120⟩
def geo (q : Int) : Gg := if inQ q then lay q else zG
def er (q : Int) : Int := if inQ q then 0 else 1
theorem geo_in {q : Int} (h : inQ q) : geo q = lay q := if_pos h
theorem geo_out {q : Int} (h : ¬ inQ q) : geo q = zG := if_neg h
theorem er_in {q : Int} (h : inQ q) : er q = 0 := if_pos h
theorem er_out {q : Int} (h : ¬ inQ q) : er q = 1 := if_neg h
theorem lay_inj {p q : Int} (h : lay p = lay q) : p = q := by
 have := congrArg Gg.S h
 simp only [lay] at this
 omega
/-- which quota's layout has n sectors; 0: none's -/
def fsq (n : Int) : Int := if (n - 316) % 4 = 0 ∧ inQ ((n - 316) / 4) then (n - 316) / 4 else 0
theorem fsq_of {q : Int} (h : inQ q) : fsq (4 * q + 316) = q := by
 have e : (4 * q + 316 - 316) / 4 = q := by omega
 unfold fsq
 rw [if_pos ⟨by omega, by rw [e]; exact h⟩, e]
theorem fsq_no {n : Int} (h : ∀ q, inQ q → 4 * q + 316 ≠ n) : fsq n = 0 := by
 unfold fsq
 split
 ·rename_i hq
  exact absurd (show 4 * ((n - 316) / 4) + 316 = n by omega) (h _ hq.2)
 ·rfl
theorem fsq_cases (n : Int) : (∃ q, inQ q ∧ n = 4 * q + 316 ∧ fsq n = q) ∨ (fsq n = 0 ∧ ∀ q, inQ q → 4 * q + 316 ≠ n) := by
 by_cases h : ∃ q, inQ q ∧ n = 4 * q + 316
 ·obtain ⟨q, hq, rfl⟩ := h
  exact .inl ⟨q, hq, rfl, fsq_of hq⟩
 ·have h' : ∀ q, inQ q → 4 * q + 316 ≠ n := fun q hq e => h ⟨q, hq, e.symm⟩
  exact .inr ⟨fsq_no h', h'⟩

/-- the quota whose layout g is; 0: none's -/
def qn (g : Gg) : Int := if eqG (lay (fsq g.S)) g = true ∧ inQ (fsq g.S) then fsq g.S else 0
theorem qn_of {q : Int} (h : inQ q) : qn (lay q) = q := by
 have e : fsq (lay q).S = q := fsq_of h
 unfold qn
 rw [e, if_pos ⟨eqG_same _, h⟩]
theorem qn_no {g : Gg} (h : ∀ q, inQ q → lay q ≠ g) : qn g = 0 := by
 unfold qn
 split
 ·rename_i hq
  exact absurd (eqG_iff.1 hq.1) (h _ hq.2)
 ·rfl
theorem qn_cases (g : Gg) : (∃ q, inQ q ∧ g = lay q ∧ qn g = q) ∨ (qn g = 0 ∧ ∀ q, inQ q → lay q ≠ g) := by
 by_cases h : ∃ q, inQ q ∧ lay q = g
 ·obtain ⟨q, hq, rfl⟩ := h
  exact .inl ⟨q, hq, rfl, qn_of hq⟩
 ·have h' : ∀ q, inQ q → lay q ≠ g := fun q hq e => h ⟨q, hq, e⟩
  exact .inr ⟨qn_no h', h'⟩

/-- what stands in a sector: kind, half, number -/
structure Wh where
 k : Int
 h : Int
 i : Int
def inHalf (h i : Int) : Wh := if i < 2 then ⟨1, h, i⟩ else if i < 4 then ⟨2, h, i - 2⟩ else if i < 28 then ⟨3, h, i - 4⟩ else ⟨4, h, i - 28⟩
theorem ih2 {h i : Int} (h1 : 2 ≤ i) (h2 : i < 4) : inHalf h i = ⟨2, h, i - 2⟩ := by unfold inHalf; rw [if_neg (by omega), if_pos h2]
/-- where the i-th thing of a kind stands -/
def off (k : Int) : Int := if k = 2 then 2 else if k = 3 then 4 else 28
def cnt (q k : Int) : Int := if k = 2 then 2 else if k = 3 then 24 else 2 * q + 120
def atB (q k h i : Int) : Prop := (h = 0 ∨ h = 1) ∧ 0 ≤ i ∧ i < cnt q k
instance (q k h i : Int) : Decidable (atB q k h i) := by unfold atB; infer_instance
def atI (q k h i : Int) : Int := h * (2 * q + 148) + (off k + i)
/-- the document's place of a thing: its sector, the error -/
def pl (g : Gg) (k h i : Int) : Int := if qn g = 0 then 0 else if atB (qn g) k h i then atI (qn g) k h i else 0
def plE (g : Gg) (k h i : Int) : Int := if qn g = 0 then 1 else if atB (qn g) k h i then 0 else 1
theorem pl_none {g : Gg} (hg : qn g = 0) (k h i : Int) : pl g k h i = 0 ∧ plE g k h i = 1 := ⟨if_pos hg, if_pos hg⟩
theorem pl_out {q : Int} (hq : inQ q) {k h i : Int} (hb : ¬ atB q k h i) : pl (lay q) k h i = 0 ∧ plE (lay q) k h i = 1 := by
 unfold pl plE
 rw [qn_of hq]
 have : q ≠ 0 := by unfold inQ at hq; omega
 rw [if_neg this, if_neg this, if_neg hb, if_neg hb]
 exact ⟨rfl, rfl⟩
theorem pl_in {q : Int} (hq : inQ q) {k h i : Int} (hb : atB q k h i) : pl (lay q) k h i = atI q k h i ∧ plE (lay q) k h i = 0 := by
 unfold pl plE
 rw [qn_of hq]
 have : q ≠ 0 := by unfold inQ at hq; omega
 rw [if_neg this, if_neg this, if_pos hb, if_pos hb]
 exact ⟨rfl, rfl⟩
end Gm
end Go.Proofs.YtonhedefjmkpcaaGreatDoor
/- geom: ForQuota, ForSectors and the reference's. -/
namespace Go.Proofs.YtonhedefjmkpcaaGreatDoor
set_option maxRecDepth 20000
namespace Gm
open Go.RowKit

/-- a layout's cells -/
def gA (g : Gg) : Array Value := #[.int .i64 g.S, .int .i64 g.H, .int .i64 g.R, .int .i64 g.L, .int .i64 g.J, .int .i64 g.Z]

theorem undG : Tryz.prog.underlying 107 = some (.struct (Tryz.prog.fieldsOf 107)) := by kernel_rfl
theorem sizeG (g : Gg) : (Tryz.prog.info? 107).map (·.size) = some (gA g).size := by show _ = some 6; kernel_rfl
theorem results_2g {tmps : Array Value} {w : World} {B : Nat} {g : Gg} {e : Int} {fn : Func} {s r : Nat} (hf : fn.results = #[.cell s 107, .tmp r]) (h4 : tmps.getD s undef = .pointer (some ⟨B, 0, none⟩)) (h5 : tmps.getD r undef = .int .i64 e)
  (kV : w.heap[B]? = some (.cells (gA g) 107 (0, 0))) : (results fn tmps).run Tryz.prog w = .ok (.tuple #[.agg (gA g), .int .i64 e]) w := by
 have h4' : tmps[s]?.getD undef = .pointer (some ⟨B, 0, none⟩) := by simpa using h4
 have h5' : tmps[r]?.getD undef = .int .i64 e := by simpa using h5
 have hv := run_loadVar_row (P := Tryz.prog) w B 107 107 (gA g) (0, 0) _ kV undG rfl (sizeG g)
 simp [results, hf, h4', h5', asAddr, hv]

theorem allG (g : Gg) : (gA g).all (·.oneCell') = true := by simp [gA, Value.oneCell']
theorem w64_in (n : Int) (h : -9223372036854775808 ≤ n ∧ n ≤ 9223372036854775807) : wrap64 n = n := by unfold wrap64; omega
theorem below_row {K g : Nat} {w w' : World} (h : Below K w w') (hg : K ≤ g) (cs : Array Value) : Below K w (w'.setRow g cs) := h.trans ⟨rfl, rfl, rfl, by simp, fun k hk => setRow_other w' _ k _ (by omega)⟩
/-- a result's box, when a call has come back -/
theorem box_back {w w1 : World} {cs : Array Value} (hb : Below (w.alloc (.cells cs 107)).heap.size (w.alloc (.cells cs 107)) w1) : w1.heap[w.heap.size]? = some (.cells cs 107 (0, 0)) ∧ w.heap.size < w1.heap.size ∧ Below w.heap.size w w1 := by
 have hs := hb.size
 have e : (w.alloc (.cells cs 107)).heap.size = w.heap.size + 1 := by simp
 rw [e] at hb hs
 exact ⟨(hb.block _ (by omega)).trans (heap_alloc_new _ _), by omega, ((Below.refl _ _).alloc (Nat.le_refl _) _).trans (hb.mono (by omega))⟩

set_option maxHeartbeats 1000000 in
theorem forq_any (q : Int) (w : World) : Calls Tryz.prog 49 #[.int .i64 q] w fun e w' => e = .returned (.tuple #[.agg (gA (geo q)), .int .i64 (er q)]) ∧ Below w.heap.size w w' := by
 by_cases h1 : q < 4
 ·have hn : ¬ inQ q := by unfold inQ; omega
  rw [geo_out hn, er_out hn]
  go_enter Tryz.func49, Tryz.ntmps49
  go_wp2_with fail
  refine bodyPost_ret (results_2g (g := zG) rfl rfl rfl (heap_alloc_new w _)) rfl ?_
  exact ⟨rfl, (Below.refl _ _).alloc (Nat.le_refl _) _⟩
 by_cases h2 : 900 < q
 ·have hn : ¬ inQ q := by unfold inQ; omega
  rw [geo_out hn, er_out hn]
  go_enter Tryz.func49, Tryz.ntmps49
  go_wp2_with fail
  refine bodyPost_ret (results_2g (g := zG) rfl rfl rfl (heap_alloc_new w _)) rfl ?_
  exact ⟨rfl, (Below.refl _ _).alloc (Nat.le_refl _) _⟩
 ·have hn : inQ q := by unfold inQ; omega
  rw [geo_in hn, er_in hn]
  clear hn
  go_enter Tryz.func49, Tryz.ntmps49
  go_wp2_with fail
  refine bodyPost_ret (results_2g (g := lay q) rfl rfl rfl (by rw [heap_alloc_new]; simp [gA, lay]; omega)) rfl ?_
  exact ⟨rfl, (Below.refl _ _).alloc (Nat.le_refl _) _⟩
end Gm
end Go.Proofs.YtonhedefjmkpcaaGreatDoor
/- geom: ForSectors and the reference's. -/
namespace Go.Proofs.YtonhedefjmkpcaaGreatDoor
set_option maxRecDepth 20000
namespace Gm
open Go.RowKit

/-- the quota that the code tries -/
def qc (n : Int) : Int := wrap64 ((wrap64 (wrap64 (wrap64 ((wrap64 (n - 20)).tdiv 2) - 28) - 120)).tdiv 2)
theorem qc_of {q : Int} (h : inQ q) : qc (4 * q + 316) = q := by
 unfold inQ at h
 unfold qc
 have e1 : wrap64 (4 * q + 316 - 20) = 2 * (2 * q + 148) := by rw [w64_in _ (by omega)]; omega
 have e2 : (2 * (2 * q + 148)).tdiv 2 = 2 * q + 148 := Int.mul_tdiv_cancel_left _ (by decide)
 have e3 : wrap64 (2 * q + 148) = 2 * q + 148 := w64_in _ (by omega)
 have e4 : wrap64 (2 * q + 148 - 28) = 2 * q + 120 := by rw [w64_in _ (by omega)]; omega
 have e5 : wrap64 (2 * q + 120 - 120) = 2 * q := by rw [w64_in _ (by omega)]; omega
 have e6 : (2 * q).tdiv 2 = q := Int.mul_tdiv_cancel_left _ (by decide)
 have e7 : wrap64 q = q := w64_in _ (by omega)
 rw [e1, e2, e3, e4, e5, e6, e7]
theorem qc_no {n q : Int} (h : fsq n = 0) (_e : qc n = q) (hq : inQ q) : 4 * q + 316 ≠ n := fun e2 => by
 rw [← e2, fsq_of hq] at h
 unfold inQ at hq
 omega

set_option maxHeartbeats 1000000 in
theorem fors_any (n : Int) (w : World) (hn : i64 n) : Calls Tryz.prog 125 #[.int .i64 n] w fun e w' => e = .returned (.tuple #[.agg (gA (geo (fsq n))), .int .i64 (er (fsq n))]) ∧ Below w.heap.size w w' := by
 have HF := Lib.hid (forq_any (qc n))
 obtain ⟨hn1, hn2⟩ := hn
 rcases fsq_cases n with ⟨q, hq, hnq, hf⟩ | ⟨hf, hno⟩
 ·have HQ : Hid (n = 4 * q + 316 ∧ qc n = q) := Lib.hid ⟨hnq, by rw [hnq]; exact qc_of hq⟩
  rw [hf, geo_in hq, er_in hq]
  rw [HQ.out.2, geo_in hq, er_in hq] at HF
  clear hnq hf
  unfold inQ at hq
  obtain ⟨hq1, hq2⟩ := hq
  go_enter Tryz.func125, Tryz.ntmps125
  go_wp2_with fail
  show Calls _ _ #[.int .i64 (qc n)] _ _
  rw [HQ.out.2]
  refine (HF.out _).mono ?_
  rintro _ w1 ⟨rfl, hb1⟩
  dsimp only [gA, lay]
  obtain ⟨hr, hs, hb⟩ := box_back hb1
  have HR := Lib.hid ((((Below.refl (w.heap.size + 1) w1).alloc hs (.cells (gA (lay q)) 107)).block w.heap.size (by omega)).trans hr)
  have HB := Lib.hid (hb.alloc (Nat.le_of_lt hs) (.cells (gA (lay q)) 107))
  have hnq := HQ.out.1
  clear HQ hr hb hb1 HF
  subst hnq
  go_wp2_with (refine wpList_store_row rfl 107 (.tmp 2) (.tmp 27) rfl w.heap.size (gA (lay q)) rfl rfl 107 _ HR.out (sizeG _) rfl (allG _) ?_; simp only [Act.put])
  refine bodyPost_ret (results_2g (B := w.heap.size) (g := lay q) rfl rfl rfl (setRow_heap _ _ _ _ _ _ HR.out)) rfl ?_
  exact ⟨rfl, below_row HB.out (Nat.le_refl _) _⟩
 ·rw [hf]
  have HQ : Hid (inQ (qc n) → 4 * qc n + 316 ≠ n) := Lib.hid fun h => qc_no hf rfl h
  clear hno hf
  have e0 : ¬ inQ 0 := by unfold inQ; omega
  rw [geo_out e0, er_out e0]
  clear e0
  by_cases hq : inQ (qc n)
  ·rw [geo_in hq, er_in hq] at HF
   have hne := HQ.out hq
   have HNE := Lib.hid hne
   unfold inQ at hq
   clear hne HQ
   go_enter Tryz.func125, Tryz.ntmps125
   go_wp2_with fail
   show Calls _ _ #[.int .i64 (qc n)] _ _
   refine (HF.out _).mono ?_
   rintro _ w1 ⟨rfl, hb1⟩
   dsimp only [gA, lay]
   have hne := HNE.out
   clear HF HNE
   generalize qc n = q at *
   obtain ⟨hq1, hq2⟩ := hq
   obtain ⟨hr, hs, hb⟩ := box_back hb1
   have HR := Lib.hid ((((Below.refl (w.heap.size + 1) w1).alloc hs (.cells (gA (lay q)) 107)).block w.heap.size (by omega)).trans hr)
   have HB := Lib.hid (hb.alloc (Nat.le_of_lt hs) (.cells (gA (lay q)) 107))
   clear hr hb hb1
   go_wp2_with (refine wpList_store_row rfl 107 (.tmp 2) (.tmp 26) rfl w.heap.size (gA zG) rfl rfl 107 _ HR.out (sizeG _) rfl (allG _) ?_; simp only [Act.put])
   refine bodyPost_ret (results_2g (B := w.heap.size) (g := zG) rfl rfl rfl (setRow_heap _ _ _ _ _ _ HR.out)) rfl ?_
   exact ⟨rfl, below_row HB.out (Nat.le_refl _) _⟩
  ·rw [geo_out hq, er_out hq] at HF
   clear hq
   go_enter Tryz.func125, Tryz.ntmps125
   go_wp2_with fail
   show Calls _ _ #[.int .i64 (qc n)] _ _
   refine (HF.out _).mono ?_
   rintro _ w1 ⟨rfl, hb1⟩
   dsimp only [gA, zG]
   clear HF HQ
   obtain ⟨hr, hs, hb⟩ := box_back hb1
   have HR := Lib.hid ((((Below.refl (w.heap.size + 1) w1).alloc hs (.cells (gA zG) 107)).block w.heap.size (by omega)).trans hr)
   have HB := Lib.hid (hb.alloc (Nat.le_of_lt hs) (.cells (gA zG) 107))
   clear hr hb hb1
   go_wp2_with (refine wpList_store_row rfl 107 (.tmp 2) (.tmp 26) rfl w.heap.size (gA zG) rfl rfl 107 _ HR.out (sizeG _) rfl (allG _) ?_; simp only [Act.put])
   refine bodyPost_ret (results_2g (B := w.heap.size) (g := zG) rfl rfl rfl (setRow_heap _ _ _ _ _ _ HR.out)) rfl ?_
   exact ⟨rfl, below_row HB.out (Nat.le_refl _) _⟩
end Gm
end Go.Proofs.YtonhedefjmkpcaaGreatDoor
