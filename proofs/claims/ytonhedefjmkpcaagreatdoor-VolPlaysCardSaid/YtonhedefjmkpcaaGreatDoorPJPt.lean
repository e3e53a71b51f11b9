import Derived.Test.YtonhedefjmkpcaaGreatDoorPDkBase
import Derived.Test.YtonhedefjmkpcaaGreatDoorPJWd
import Derived.Great.BuildSlice
import Derived.Test.YtonhedefjmkpcaaGreatDoorPJSh
import Derived.WalkKit
import Derived.ProofKit
import Derived.OpenShut
import Derived.SizedLaws
import Derived.Deep.DeepHandedRow
import Derived.Lib.SmallJoins
import Derived.ChangeMaps5
import Derived.Deep.Slices
import Derived.Test.YtonhedefjmkpcaaGreatDoorPJSpA
import Derived.Test.YtonhedefjmkpcaaGreatDoorPJRb
import Derived.Test.YtonhedefjmkpcaaGreatDoorPJDn
import Derived.Test.YtonhedefjmkpcaaGreatDoorPAl
/- ptr: pointers as values; Hole, IsHole, sector, Right. -/
namespace Go.Proofs.YtonhedefjmkpcaaGreatDoor
set_option maxRecDepth 20000
namespace Pt
open Go.RowKit Dk Eqb Byt

structure Pn where
 A : Int
 B : Int
 S : Nat → Int
/-- a pointer's cells -/
def pV (p : Pn) : List Value := .int .i64 p.A :: .int .i64 p.B :: (List.range 32).map fun j => .int .u8 (p.S j)
theorem pV_length (p : Pn) : (pV p).length = 34 := by simp [pV]
theorem pV_asize (p : Pn) : (pV p).toArray.size = 34 := by rw [List.size_toArray, pV_length]
theorem pV_sum (p : Pn) {j : Nat} (h : j < 32) : (pV p)[2 + j]? = some (.int .u8 (p.S j)) := by
 unfold pV
 rw [show 2 + j = j + 1 + 1 by omega]
 simp [h]
theorem pV_one (p : Pn) : ∀ u ∈ pV p, u.oneCell' = true := by
 intro u hu
 simp only [pV, List.mem_cons, List.mem_map] at hu
 rcases hu with h | h | ⟨_, _, h⟩
 ·subst h; rfl
 ·subst h; rfl
 ·subst h; rfl
theorem pV_all (p : Pn) : (pV p).toArray.all (·.oneCell') = true := all_oneCell_toArray (pV_one p)
def zS : Nat → Int := fun _ => 0
def pz : Pn := ⟨0, 0, zS⟩
def hole : Pn := ⟨-1, -1, zS⟩
theorem undP : Tryz.prog.underlying 50 = some (.struct (Tryz.prog.fieldsOf 50)) := by kernel_rfl
theorem sizeP (p : Pn) : (Tryz.prog.info? 50).map (·.size) = some (pV p).length := by rw [pV_length]; kernel_rfl
theorem sizeP' (p : Pn) : (Tryz.prog.info? 50).map (·.size) = some (pV p).toArray.size := by rw [pV_asize]; kernel_rfl
theorem zvP (w : World) : (zeroValue 50).run Tryz.prog w = .ok (.agg (pV pz).toArray) w := (zero_of_info (P := Tryz.prog) (t := 50) (v := .agg (pV pz).toArray) (n := 34) (by kernel_rfl)).1 w
theorem builtZ : Tryz.prog.built 50 [] = some (pV pz).toArray := by kernel_rfl
theorem builtH : Tryz.prog.built 50 [(0, .int .i64 (-1)), (1, .int .i64 (-1))] = some (pV hole).toArray := by kernel_rfl
/-- the same pointer -/
def eqP (p q : Pn) : Bool := (p.A == q.A) && ((p.B == q.B) && eqB 32 p.S q.S)
theorem eqP_iff {p q : Pn} : eqP p q = true ↔ p.A = q.A ∧ p.B = q.B ∧ ∀ i, i < 32 → p.S i = q.S i := by simp [eqP, eqB_iff]
theorem part_s (X : Array Value) (off : Nat) (f : Nat → Int) (h : X.extract off (off + 32) = Sha.arr 32 (Sha.vu8 f)) (w : World) : (part 48 X off).run Tryz.prog w = .ok (.agg (Sha.arr 32 (Sha.vu8 f))) w := by
 obtain ⟨i, hi⟩ : ∃ i, Tryz.prog.info? 48 = some i := ⟨_, rfl⟩
 have hc : Tryz.prog.cellsOf 48 = 32 := by kernel_rfl
 have hu : Tryz.prog.underlying 48 = some (.array 32 5) := by kernel_rfl
 have hs := run_sizeOf (P := Tryz.prog) w hi
 rw [hc] at hs
 simp [part, isAgg, run_underlying hu, h]
theorem pV_extract (p : Pn) : (pV p).toArray.extract 2 (2 + 32) = Sha.arr 32 (Sha.vu8 p.S) := by
 apply Array.ext_getElem?
 intro j
 by_cases hj : j < 32
 ·rw [Sha.arr_get _ hj]
  have := pV_sum p hj
  rw [Array.getElem?_extract]
  simp only [List.size_toArray, pV_length]
  rw [if_pos (by omega)]
  simpa [Sha.vu8] using this
 ·rw [Array.getElem?_eq_none (by simp [pV_length]; omega), Array.getElem?_eq_none (by rw [Sha.arr_size]; omega)]
theorem part_sum (p : Pn) (w : World) : (part 48 (pV p).toArray 2).run Tryz.prog w = .ok (.agg (Sha.arr 32 (Sha.vu8 p.S))) w := part_s _ 2 _ (pV_extract p) w
theorem part_i (X : Array Value) (off : Nat) (z : Int) (h : X[off]? = some (.int .i64 z)) (w : World) : (part 3 X off).run Tryz.prog w = .ok (.int .i64 z) w := run_part_plain w (by kernel_rfl) h
theorem eq_pt (p q : Pn) (w : World) : (Op.equalIn 10000 50 (.agg (pV p).toArray) (.agg (pV q).toArray)).run Tryz.prog w = .ok (eqP p q) w := by
 rw [run_equalIn_struct w 9999 50 _ _ (by kernel_rfl) (by kernel_rfl)]
 obtain ⟨f0, f1, f2, hf, t0, o0, n0, t1, o1, n1, t2, o2, n2⟩ : ∃ f0 f1 f2 : Field, (Tryz.prog.fieldsOf 50).toList = [f0, f1, f2] ∧ f0.type = 3 ∧ f0.offset = 0 ∧ (f0.name ≠ "_") ∧ f1.type = 3 ∧ f1.offset = 1 ∧ (f1.name ≠ "_") ∧ f2.type = 48 ∧ f2.offset = 2 ∧ (f2.name ≠ "_") := ⟨_, _, _, rfl, rfl, rfl, by decide, rfl, rfl, by decide, rfl, rfl, by decide⟩
 rw [hf]
 unfold eqP
 simp only [Op.eqFields, Sem.run_bind, Sem.run_ite, if_pos n0, if_pos n1, if_pos n2, t0, o0, t1, o1, t2, o2]
 rw [part_i (pV p).toArray 0 p.A rfl w, Result.andThen_ok, part_i (pV q).toArray 0 q.A rfl w, Result.andThen_ok, run_equalIn_int w 9998 _ .i64 .i64 _ _ (by kernel_rfl), Result.andThen_ok]
 cases h0 : p.A == q.A with
 | false => simp
 | true =>
  simp only [Bool.not_true, Bool.false_eq_true, if_false, Bool.true_and]
  rw [part_i (pV p).toArray 1 p.B rfl w, Result.andThen_ok, part_i (pV q).toArray 1 q.B rfl w, Result.andThen_ok, run_equalIn_int w 9998 _ .i64 .i64 _ _ (by kernel_rfl), Result.andThen_ok]
  cases h1 : p.B == q.B with
  | false => simp
  | true =>
   simp only [Bool.not_true, Bool.false_eq_true, if_false, Bool.true_and]
   rw [part_sum p w, Result.andThen_ok, part_sum q w, Result.andThen_ok, eqD_sum 9997, Result.andThen_ok]
   cases h2 : eqB 32 p.S q.S with
   | false => simp
   | true => simp
theorem guardP : Tryz.prog.eqGuardType Tryz.prog.depth 50 = false := by kernel_rfl

/-- a pointer that is boxed -/
theorem box_pt (w : World) (p : Pn) : Below w.heap.size w (w.alloc (.cells (pV p).toArray 50)) ∧ (w.alloc (.cells (pV p).toArray 50)).heap[w.heap.size]? = some (.cells (pV p).toArray 50 (0, 0)) ∧ (w.alloc (.cells (pV p).toArray 50)).heap.size = w.heap.size + 1 :=
 ⟨(Below.refl _ _).alloc (Nat.le_refl _) _, heap_alloc_new _ _, by simp⟩
theorem row_pt {w : World} {g : Nat} {p : Pn} {t : TypeId} (h : w.heap[g]? = some (.cells (pV p).toArray t (0, 0))) : w.rangeAt g 0 (pV p) := fun j v hv => by
 rw [Nat.zero_add, cell_of_row w g j _ _ _ h]
 simpa using hv
theorem cA_pt {w : World} {g : Nat} {p : Pn} {t : TypeId} (h : w.heap[g]? = some (.cells (pV p).toArray t (0, 0))) : w.cell? ⟨g, 0, none⟩ = some (.int .i64 p.A) := by rw [cell_of_row w g 0 _ _ _ h]; rfl
theorem cB_pt {w : World} {g : Nat} {p : Pn} {t : TypeId} (h : w.heap[g]? = some (.cells (pV p).toArray t (0, 0))) : w.cell? ⟨g, 1, none⟩ = some (.int .i64 p.B) := by rw [cell_of_row w g 1 _ _ _ h]; rfl
theorem cS_pt {w : World} {g : Nat} {p : Pn} {t : TypeId} (h : w.heap[g]? = some (.cells (pV p).toArray t (0, 0))) {j : Nat} (hj : j < 32) : w.cell? ⟨g, 2 + j, none⟩ = some (.int .u8 (p.S j)) := by
 rw [cell_of_row w g (2 + j) _ _ _ h]
 simpa using pV_sum p hj
theorem results_1p {tmps : Array Value} {w : World} {B : Nat} {p : Pn} {fn : Func} {s : Nat} (hf : fn.results = #[.cell s 50]) (h2 : tmps.getD s undef = .pointer (some ⟨B, 0, none⟩))
  (kV : w.heap[B]? = some (.cells (pV p).toArray 50 (0, 0))) : (results fn tmps).run Tryz.prog w = .ok (.agg (pV p).toArray) w := by
 have h2' : tmps[s]?.getD undef = .pointer (some ⟨B, 0, none⟩) := by simpa using h2
 have hv := run_loadVar_row (P := Tryz.prog) w B 50 50 (pV p).toArray (0, 0) _ kV undP rfl (sizeP' p)
 simp [results, hf, h2', asAddr, hv]
theorem results_2p {tmps : Array Value} {w : World} {B : Nat} {p : Pn} {e : Int} {fn : Func} {s r : Nat} (hf : fn.results = #[.cell s 50, .tmp r]) (h4 : tmps.getD s undef = .pointer (some ⟨B, 0, none⟩)) (h5 : tmps.getD r undef = .int .i64 e)
  (kV : w.heap[B]? = some (.cells (pV p).toArray 50 (0, 0))) : (results fn tmps).run Tryz.prog w = .ok (.tuple #[.agg (pV p).toArray, .int .i64 e]) w := by
 have h4' : tmps[s]?.getD undef = .pointer (some ⟨B, 0, none⟩) := by simpa using h4
 have h5' : tmps[r]?.getD undef = .int .i64 e := by simpa using h5
 have hv := run_loadVar_row (P := Tryz.prog) w B 50 50 (pV p).toArray (0, 0) _ kV undP rfl (sizeP' p)
 simp [results, hf, h4', h5', asAddr, hv]

section
attribute [local go_sem] zvP
set_option maxRecDepth 100000 in
set_option maxHeartbeats 400000 in
theorem hole_any (w : World) : Calls Tryz.prog 110 #[] w fun e w' => e = .returned (.agg (pV hole).toArray) ∧ Below w.heap.size w w' := by
 go_enter Tryz.func110, Tryz.ntmps110
 go_wp2_with (first
  | (refine wpList_buildTo rfl 50 #[(0, .const (.int .i64 (-1))), (1, .const (.int .i64 (-1)))] rfl _ rfl (pV hole).toArray builtH ?_; simp only [Act.put, aI, aS, aZ])
  | (refine wpList_store_row rfl 50 (.tmp 0) (.tmp 1) rfl w.heap.size (pV hole).toArray rfl rfl 50 _ (heap_alloc_new w _) (sizeP' _) rfl (pV_all _) ?_; rw [World.setRow_alloc_new]; simp only [Act.put]))
 refine bodyPost_ret (results_1p rfl rfl (heap_alloc_new w _)) rfl ?_
 exact ⟨rfl, (Below.refl _ _).alloc (Nat.le_refl _) _⟩
set_option maxRecDepth 100000 in
set_option maxHeartbeats 400000 in
theorem refhole_any (w : World) : Calls Tryz.prog 38 #[] w fun e w' => e = .returned (.agg (pV hole).toArray) ∧ Below w.heap.size w w' := by
 go_enter Tryz.func38, Tryz.ntmps38
 go_wp2_with (first
  | (refine wpList_buildTo rfl 50 #[(0, .const (.int .i64 (-1))), (1, .const (.int .i64 (-1)))] rfl _ rfl (pV hole).toArray builtH ?_; simp only [Act.put, aI, aS, aZ])
  | (refine wpList_store_row rfl 50 (.tmp 0) (.tmp 1) rfl w.heap.size (pV hole).toArray rfl rfl 50 _ (heap_alloc_new w _) (sizeP' _) rfl (pV_all _) ?_; rw [World.setRow_alloc_new]; simp only [Act.put]))
 refine bodyPost_ret (results_1p rfl rfl (heap_alloc_new w _)) rfl ?_
 exact ⟨rfl, (Below.refl _ _).alloc (Nat.le_refl _) _⟩
end

def secB (n : Int) : Bool := decide (0 ≤ n) && decide (n < 4096)
theorem secB_iff {n : Int} : secB n = true ↔ 0 ≤ n ∧ n < 4096 := by simp [secB]
theorem sector_any (n : Int) (w : World) : Calls Tryz.prog 144 #[.int .i64 n] w fun e w' => e = .returned (.bool (secB n)) ∧ Below w.heap.size w w' := by
 by_cases h0 : 0 ≤ n
 ·rw [show secB n = decide (n < 4096) by simp [secB, h0]]
  go_enter Tryz.func144, Tryz.ntmps144
  go_wp2_with fail
  go_ret
  exact ⟨rfl, Below.refl _ _⟩
 ·rw [show secB n = false by simp [secB, h0]]
  go_enter Tryz.func144, Tryz.ntmps144
  go_wp2_with fail
  go_ret
  exact ⟨rfl, Below.refl _ _⟩
def isHole (p : Pn) : Bool := eqP p hole
def rightB (p : Pn) : Bool := isHole p || (secB p.A && (p.B == -1 || (secB p.B && p.B != p.A)))

set_option maxRecDepth 100000 in
set_option maxHeartbeats 1000000 in
theorem ishole_any (p : Pn) (w : World) : Calls Tryz.prog 120 #[.agg (pV p).toArray] w fun e w' => e = .returned (.bool (isHole p)) ∧ Below w.heap.size w w' := by
 obtain ⟨hb0, hx0, hs0⟩ := box_pt w p
 go_enter Tryz.func120, Tryz.ntmps120
 go_wp2_with fail
 generalize w.alloc (.cells (pV p).toArray 50) = W at hb0 hx0 hs0 ⊢
 have HR := Lib.hid (fun w' (hw' : Below W.heap.size W w') => row_pt ((hw'.block w.heap.size (by omega)).trans hx0))
 clear hx0
 refine wp_region_quiet (C := fun w' => Below W.heap.size W w') (by kernel_rfl) (by kernel_rfl) ⟨rfl, rfl, rfl, Nat.le_refl _, fun _ _ => rfl⟩ ?_
 refine q_loadB 50 (.tmp 1) rfl rfl w.heap.size 0 rfl (pV p) _ (fun w' hw' => HR.out w' hw') undP rfl (sizeP p) ?_
 simp only [Act.put, aI, aS, aZ]
 refine q_call 110 _ (.agg (pV hole).toArray) rfl (fun w' => by go_simp) (fun w' hw' => (hole_any w').mono fun e w'' ⟨he, hb⟩ => ⟨he, hw'.trans (hb.mono hw'.size)⟩) ?_
 simp only [Act.put, aI, aS, aZ]
 refine q_eqlV 50 _ (.tmp 3) (.tmp 4) rfl rfl (pV p).toArray (pV hole).toArray rfl rfl (isHole p) guardP (fun w' _ => eq_pt p hole w') ?_
 simp only [Act.put, aI, aS, aZ]
 refine q_val (.bool (isHole p)) rfl (fun w' hw' => by go_simp) ?_
 simp only [Act.put, aI, aS, aZ]
 refine wpQuiet_nil ?_
 intro w' hw'
 go_wp2_with fail
 go_ret
 exact ⟨rfl, hb0.trans (hw'.mono (by omega))⟩
end Pt
end Go.Proofs.YtonhedefjmkpcaaGreatDoor
/- ptr: Right, and the reference's; within (made by tools/gen_pright.py). -/
namespace Go.Proofs.YtonhedefjmkpcaaGreatDoor
set_option maxRecDepth 20000
namespace Pt
open Go.RowKit Dk Eqb Byt

attribute [local irreducible] wpQuiet
set_option maxRecDepth 100000 in
set_option maxHeartbeats 2000000 in
theorem right_any (p : Pn) (w : World) : Calls Tryz.prog 75 #[.agg (pV p).toArray] w fun e w' => e = .returned (.bool (rightB p)) ∧ Below w.heap.size w w' := by
 obtain ⟨hb0, hx0, hs0⟩ := box_pt w p
 have HV : Hid (rightB p = (isHole p || (secB p.A && (p.B == -1 || (secB p.B && p.B != p.A))))) := Lib.hid rfl
 have HI := Lib.hid (fun W => ishole_any p W)
 have HA := Lib.hid (fun W => sector_any p.A W)
 have HB := Lib.hid (fun W => sector_any p.B W)
 generalize rightB p = V at HV ⊢
 generalize isHole p = h at HV HI
 generalize secB p.A = sa at HV HA
 generalize secB p.B = sb at HV HB
 cases h with
 | true =>
  go_enter Tryz.func75, Tryz.ntmps75
  go_wp2_with (refine wpList_load_mid rfl 50 (.tmp 1) rfl w.heap.size 0 rfl (pV p) _ (row_pt (heap_alloc_new w _)) undP rfl (sizeP p) ?_; simp only [Act.put, aI, aS, aZ])
  generalize w.alloc (.cells (pV p).toArray 50) = W at hb0 hx0 hs0 ⊢
  refine (HI.out _).mono ?_
  rintro _ w1 ⟨rfl, hb1⟩
  have hx1 := (hb1.block w.heap.size (by omega)).trans hx0
  have hB1 := hb0.trans (hb1.mono (by omega))
  have hs1 := hb1.size
  have cA := cA_pt hx1
  have cB := cB_pt hx1
  dsimp only
  go_wp2_with fail
  go_ret
  exact ⟨by rw [HV.out]; simp, hB1⟩
 | false =>
  cases sa with
  | false =>
   go_enter Tryz.func75, Tryz.ntmps75
   go_wp2_with (refine wpList_load_mid rfl 50 (.tmp 1) rfl w.heap.size 0 rfl (pV p) _ (row_pt (heap_alloc_new w _)) undP rfl (sizeP p) ?_; simp only [Act.put, aI, aS, aZ])
   generalize w.alloc (.cells (pV p).toArray 50) = W at hb0 hx0 hs0 ⊢
   refine (HI.out _).mono ?_
   rintro _ w1 ⟨rfl, hb1⟩
   have hx1 := (hb1.block w.heap.size (by omega)).trans hx0
   have hB1 := hb0.trans (hb1.mono (by omega))
   have hs1 := hb1.size
   have cA := cA_pt hx1
   have cB := cB_pt hx1
   dsimp only
   go_wp2_with fail
   refine (HA.out _).mono ?_
   rintro _ w2 ⟨rfl, hb2⟩
   have hB2 := hB1.trans (hb2.mono hB1.size)
   dsimp only
   go_wp2_with fail
   go_ret
   exact ⟨by rw [HV.out]; simp, hB2⟩
  | true =>
   by_cases e : p.B = -1
   ·have e' : (p.B == -1) = true := by simpa using e
    go_enter Tryz.func75, Tryz.ntmps75
    go_wp2_with (refine wpList_load_mid rfl 50 (.tmp 1) rfl w.heap.size 0 rfl (pV p) _ (row_pt (heap_alloc_new w _)) undP rfl (sizeP p) ?_; simp only [Act.put, aI, aS, aZ])
    generalize w.alloc (.cells (pV p).toArray 50) = W at hb0 hx0 hs0 ⊢
    refine (HI.out _).mono ?_
    rintro _ w1 ⟨rfl, hb1⟩
    have hx1 := (hb1.block w.heap.size (by omega)).trans hx0
    have hB1 := hb0.trans (hb1.mono (by omega))
    have hs1 := hb1.size
    have cA := cA_pt hx1
    have cB := cB_pt hx1
    dsimp only
    go_wp2_with fail
    refine (HA.out _).mono ?_
    rintro _ w2 ⟨rfl, hb2⟩
    have hB2 := hB1.trans (hb2.mono hB1.size)
    have cB2 := (hb2.cell (p := ⟨w.heap.size, 1, none⟩) (show w.heap.size < w1.heap.size by omega)).trans cB
    clear cA cB hx1 hx0
    dsimp only
    go_wp2_with fail
    go_ret
    exact ⟨by rw [HV.out]; simp [e'], hB2⟩
   ·have e' : (p.B == -1) = false := by simpa using e
    cases sb with
    | false =>
     go_enter Tryz.func75, Tryz.ntmps75
     go_wp2_with (refine wpList_load_mid rfl 50 (.tmp 1) rfl w.heap.size 0 rfl (pV p) _ (row_pt (heap_alloc_new w _)) undP rfl (sizeP p) ?_; simp only [Act.put, aI, aS, aZ])
     generalize w.alloc (.cells (pV p).toArray 50) = W at hb0 hx0 hs0 ⊢
     refine (HI.out _).mono ?_
     rintro _ w1 ⟨rfl, hb1⟩
     have hx1 := (hb1.block w.heap.size (by omega)).trans hx0
     have hB1 := hb0.trans (hb1.mono (by omega))
     have hs1 := hb1.size
     have cA := cA_pt hx1
     have cB := cB_pt hx1
     dsimp only
     go_wp2_with fail
     refine (HA.out _).mono ?_
     rintro _ w2 ⟨rfl, hb2⟩
     have hB2 := hB1.trans (hb2.mono hB1.size)
     have hs2 := hb2.size
     have cA2 := (hb2.cell (p := ⟨w.heap.size, 0, none⟩) (show w.heap.size < w1.heap.size by omega)).trans cA
     have cB2 := (hb2.cell (p := ⟨w.heap.size, 1, none⟩) (show w.heap.size < w1.heap.size by omega)).trans cB
     clear cA cB hx1 hx0
     dsimp only
     go_wp2_with fail
     refine (HB.out _).mono ?_
     rintro _ w3 ⟨rfl, hb3⟩
     have hB3 := hB2.trans (hb3.mono hB2.size)
     have cA3 := (hb3.cell (p := ⟨w.heap.size, 0, none⟩) (show w.heap.size < w2.heap.size by omega)).trans cA2
     have cB3 := (hb3.cell (p := ⟨w.heap.size, 1, none⟩) (show w.heap.size < w2.heap.size by omega)).trans cB2
     clear cA2 cB2
     dsimp only
     go_wp2_with fail
     go_ret
     exact ⟨by rw [HV.out]; simp [e'], hB3⟩
    | true =>
     go_enter Tryz.func75, Tryz.ntmps75
     go_wp2_with (refine wpList_load_mid rfl 50 (.tmp 1) rfl w.heap.size 0 rfl (pV p) _ (row_pt (heap_alloc_new w _)) undP rfl (sizeP p) ?_; simp only [Act.put, aI, aS, aZ])
     generalize w.alloc (.cells (pV p).toArray 50) = W at hb0 hx0 hs0 ⊢
     refine (HI.out _).mono ?_
     rintro _ w1 ⟨rfl, hb1⟩
     have hx1 := (hb1.block w.heap.size (by omega)).trans hx0
     have hB1 := hb0.trans (hb1.mono (by omega))
     have hs1 := hb1.size
     have cA := cA_pt hx1
     have cB := cB_pt hx1
     dsimp only
     go_wp2_with fail
     refine (HA.out _).mono ?_
     rintro _ w2 ⟨rfl, hb2⟩
     have hB2 := hB1.trans (hb2.mono hB1.size)
     have hs2 := hb2.size
     have cA2 := (hb2.cell (p := ⟨w.heap.size, 0, none⟩) (show w.heap.size < w1.heap.size by omega)).trans cA
     have cB2 := (hb2.cell (p := ⟨w.heap.size, 1, none⟩) (show w.heap.size < w1.heap.size by omega)).trans cB
     clear cA cB hx1 hx0
     dsimp only
     go_wp2_with fail
     refine (HB.out _).mono ?_
     rintro _ w3 ⟨rfl, hb3⟩
     have hB3 := hB2.trans (hb3.mono hB2.size)
     have cA3 := (hb3.cell (p := ⟨w.heap.size, 0, none⟩) (show w.heap.size < w2.heap.size by omega)).trans cA2
     have cB3 := (hb3.cell (p := ⟨w.heap.size, 1, none⟩) (show w.heap.size < w2.heap.size by omega)).trans cB2
     clear cA2 cB2
     dsimp only
     go_wp2_with fail
     go_ret
     exact ⟨by rw [HV.out]; simp [e'], hB3⟩

end Pt
end Go.Proofs.YtonhedefjmkpcaaGreatDoor
/- ptr: a block's sum by either side; blocks as rows. -/
namespace Go.Proofs.YtonhedefjmkpcaaGreatDoor
set_option maxRecDepth 20000
namespace Pt
open Go.RowKit Dk Eqb Byt

/-- the step numbers stand where they stand -/
def Kp (w : World) : Prop := (∀ k, k < 64 → w.cell? ⟨0, k, none⟩ = some (.int .u32 (Sha.kT k))) ∧ 0 < w.heap.size
theorem Kp.below {w w' : World} (h : Kp w) (hb : Below w.heap.size w w') : Kp w' := ⟨fun k hk => (hb.cell (p := ⟨0, k, none⟩) h.2).trans (h.1 k hk), Nat.lt_of_lt_of_le h.2 hb.size⟩
def Bytes (f : Nat → Int) : Prop := ∀ i, i < 128 → 0 ≤ f i ∧ f i < 256
theorem row_of {w : World} {g : Nat} {f : Nat → Int} {t : TypeId} (h : w.heap[g]? = some (.cells (bl f).toArray t (0, 0))) : Row w g 0 128 f :=
 ⟨⟨_, ⟨_, h⟩, fun j hj => by
  rw [Nat.zero_add]
  have := bl_get f hj
  simpa using this⟩⟩
theorem row_range {w : World} {g : Nat} {f : Nat → Int} (h : Row w g 0 128 f) : w.rangeAt g 0 (bl f) := fun j v hv => by
 have hj : j < 128 := by
  have := (List.getElem?_eq_some_iff.1 hv).1
  rwa [bl_length] at this
 rw [h.cell hj]
 rw [bl_get f hj] at hv
 exact hv
theorem sha_lies {w : World} {g B : Nat} {f : Nat → Int} (hr : Row w g 0 128 f) (hB : g < B) : Sha.Lies w B (some ⟨g, 0, none⟩) 128 (tab 128 f) :=
 ⟨by simp, (fun e => by cases e), fun _ => ⟨g, 0, rfl, hB, fun i hi => by
  have hi' : i < 128 := by simpa using hi
  rw [hr.cell hi', tab_getD 128 f hi']⟩⟩
/-- a block's sum -/
def sumD (D : Nat → Int) : Nat → Int := Sha.sumB (Sha.sumS (tab 128 D))
theorem sum_row {w : World} {g : Nat} {D : Nat → Int} (hr : Row w g 0 128 D) (hD : Bytes D) (hk : Kp w) :
  Calls Tryz.prog 166 #[.slice (some ⟨g, 0, none⟩) 128 128] w fun e w' => e = .returned (.agg (Sha.arr 32 (Sha.vu8 (sumD D)))) ∧ Below w.heap.size w w' :=
 Sha.sum_any 128 (some ⟨g, 0, none⟩) 128 (tab 128 D) w (by simp) (sha_lies hr hr.lt) (byte_tab hD) (by omega) hk.1 hk.2
theorem right_neg {c : Int} {q : Nat → Int} {a : Int} (h : a = -1) (hr : rightB ⟨a, c, q⟩ = true) : isHole ⟨a, c, q⟩ = true := by
 subst h
 simpa [rightB, secB] using hr
def ofV (D : Nat → Int) (a c : Int) : Pn := if isHole ⟨a, c, sumD D⟩ = false ∧ rightB ⟨a, c, sumD D⟩ = true then ⟨a, c, sumD D⟩ else pz
def ofE (D : Nat → Int) (a c : Int) : Int := if isHole ⟨a, c, sumD D⟩ = false ∧ rightB ⟨a, c, sumD D⟩ = true then 0 else 1

theorem zrow : (#[.int .i64 0, .int .i64 0, .int .u8 0, .int .u8 0, .int .u8 0, .int .u8 0, .int .u8 0, .int .u8 0, .int .u8 0, .int .u8 0, .int .u8 0, .int .u8 0, .int .u8 0, .int .u8 0, .int .u8 0, .int .u8 0, .int .u8 0, .int .u8 0, .int .u8 0, .int .u8 0, .int .u8 0, .int .u8 0, .int .u8 0, .int .u8 0, .int .u8 0, .int .u8 0, .int .u8 0, .int .u8 0, .int .u8 0, .int .u8 0, .int .u8 0, .int .u8 0, .int .u8 0, .int .u8 0] : Array Value) = (pV pz).toArray := rfl
/-- a block and a pointer's room, boxed -/
theorem box_two (w : World) (D : Nat → Int) (p : Pn) : ∃ W, W = (w.alloc (.cells (bl D).toArray 45)).alloc (.cells (pV p).toArray 50) ∧ Below w.heap.size w W ∧ W.heap.size = w.heap.size + 2 ∧ Row W w.heap.size 0 128 D ∧ W.heap[w.heap.size + 1]? = some (.cells (pV p).toArray 50 (0, 0)) := by
 refine ⟨_, rfl, ((Below.refl _ _).alloc (Nat.le_refl _) _).alloc (by simp) _, by simp, row_of (t := 45) ((Below.heap_alloc _ _ _ (by simp)).trans (heap_alloc_new w _)), ?_⟩
 have := heap_alloc_new (w.alloc (.cells (bl D).toArray 45)) (.cells (pV p).toArray 50)
 rwa [World.size_alloc] at this
end Pt
end Go.Proofs.YtonhedefjmkpcaaGreatDoor
/- ptr: Fits, and the reference's (made by tools/gen_pfits.py). -/
namespace Go.Proofs.YtonhedefjmkpcaaGreatDoor
set_option maxRecDepth 20000
namespace Pt
open Go.RowKit Dk Eqb Byt

attribute [local irreducible] wpQuiet
attribute [local go_sem] zvB
attribute [local go_sem] zcB
def fitsB (p : Pn) (D : Nat → Int) : Bool := if isHole p then Wd.zeroB D 128 else eqB 32 p.S (sumD D)
theorem rowS {w : World} {g : Nat} {p : Pn} {t : TypeId} (h : w.heap[g]? = some (.cells (pV p).toArray t (0, 0))) : w.rangeAt g 2 (Sha.arr 32 (Sha.vu8 p.S)).toList := fun j v hv => by
 have hj : j < 32 := by
  have := (List.getElem?_eq_some_iff.1 hv).1
  simpa [Sha.arr_size] using this
 rw [cS_pt h hj]
 have h1 : (Sha.arr 32 (Sha.vu8 p.S)).toList[j]? = some (.int .u8 (p.S j)) := by
  have := Sha.arr_get (Sha.vu8 p.S) hj
  simpa [Sha.vu8] using this
 rw [h1] at hv
 exact hv
theorem undS : Tryz.prog.underlying 48 = some (.array 32 5) := by kernel_rfl
theorem sizeS (S : Nat → Int) : (Tryz.prog.info? 48).map (·.size) = some (Sha.arr 32 (Sha.vu8 S)).toList.length := by rw [Array.length_toList, Sha.arr_size]; kernel_rfl
theorem guardS : Tryz.prog.eqGuardType Tryz.prog.depth 48 = false := by kernel_rfl
theorem reads_row {w : World} {g : Nat} {f : Nat → Int} (h : Row w g 0 128 f) : Wd.Reads w (some ⟨g, 0, none⟩) 128 128 f := ⟨Nat.le_refl _, (fun e => by cases e), .inr ⟨g, 0, rfl, fun _ hj => h.cell hj⟩⟩
theorem box_pb (w : World) (p : Pn) (D : Nat → Int) : ∃ W, W = (w.alloc (.cells (pV p).toArray 50)).alloc (.cells (bl D).toArray 45) ∧ Below w.heap.size w W ∧ W.heap.size = w.heap.size + 2 ∧ W.heap[w.heap.size]? = some (.cells (pV p).toArray 50 (0, 0)) ∧ Row W (w.heap.size + 1) 0 128 D := by
 refine ⟨_, rfl, ((Below.refl _ _).alloc (Nat.le_refl _) _).alloc (by simp) _, by simp, (Below.heap_alloc _ _ _ (by simp)).trans (heap_alloc_new w _), row_of (t := 45) ?_⟩
 have := heap_alloc_new (w.alloc (.cells (pV p).toArray 50)) (.cells (bl D).toArray 45)
 rwa [World.size_alloc] at this

set_option maxRecDepth 100000 in
set_option maxHeartbeats 600000 in
theorem fits_any (p : Pn) (D : Nat → Int) (w : World) (hD : Bytes D) (hk : Kp w) : Calls Tryz.prog 109 #[.agg (pV p).toArray, .agg (bl D).toArray] w fun e w' => e = .returned (.bool (fitsB p D)) ∧ Below w.heap.size w w' := by
 have HSUM := Lib.hid (fun (W : World) (g : Nat) (hr : Row W g 0 128 D) (hk : Kp W) => sum_row hr hD hk)
 have HK := Lib.hid (fun W (hb : Below w.heap.size w W) => hk.below hb)
 have HV : Hid (fitsB p D = if isHole p then Wd.zeroB D 128 else eqB 32 p.S (sumD D)) := Lib.hid rfl
 generalize fitsB p D = V at HV ⊢
 generalize sumD D = q at *
 clear hD hk
 obtain ⟨W, hW, hB0, hs0, hx0, hr0⟩ := box_pb w p D
 have HI := Lib.hid (fun W => ishole_any p W)
 cases hh : isHole p with
 | true =>
  have HH := Lib.hid hh
  rw [hh] at HI
  clear hh
  go_enter Tryz.func109, Tryz.ntmps109
  subst hW
  go_wp2_with (refine @wpList_loadG _ _ _ _ _ _ _ (by kernel_rfl) 50 (.tmp 2) rfl w.heap.size 0 rfl (pV p) _ (row_pt hx0) undP rfl (sizeP p) ?_; simp only [Act.put, aI, aS, aZ])
  generalize (w.alloc (.cells (pV p).toArray 50)).alloc (.cells (bl D).toArray 45) = W at hB0 hs0 hx0 hr0 ⊢
  refine (HI.out W).mono ?_
  rintro _ w1 ⟨rfl, hb1⟩
  have hs1 := hb1.size
  have hB1 := hB0.trans (hb1.mono (by omega))
  have hx1 := (hb1.block w.heap.size (by omega)).trans hx0
  have hr1 := hr0.block (hb1.block (w.heap.size + 1) (by omega))
  clear hx0 hr0
  dsimp only
  clear hx1
  go_wp2_with fail
  refine (Wd.zero_any (some ⟨w.heap.size + 1, 0, none⟩) 128 128 D w1 (reads_row hr1) (by omega)).mono ?_
  rintro _ w2 ⟨rfl, rfl⟩
  dsimp only
  go_wp2_with fail
  go_ret
  exact ⟨by rw [HV.out, HH.out]; rfl, hB1⟩
 | false =>
  have HH := Lib.hid hh
  rw [hh] at HI
  clear hh
  go_enter Tryz.func109, Tryz.ntmps109
  subst hW
  go_wp2_with (refine @wpList_loadG _ _ _ _ _ _ _ (by kernel_rfl) 50 (.tmp 2) rfl w.heap.size 0 rfl (pV p) _ (row_pt hx0) undP rfl (sizeP p) ?_; simp only [Act.put, aI, aS, aZ])
  generalize (w.alloc (.cells (pV p).toArray 50)).alloc (.cells (bl D).toArray 45) = W at hB0 hs0 hx0 hr0 ⊢
  refine (HI.out W).mono ?_
  rintro _ w1 ⟨rfl, hb1⟩
  have hs1 := hb1.size
  have hB1 := hB0.trans (hb1.mono (by omega))
  have hx1 := (hb1.block w.heap.size (by omega)).trans hx0
  have hr1 := hr0.block (hb1.block (w.heap.size + 1) (by omega))
  clear hx0 hr0
  dsimp only
  go_wp2_with fail
  have HX := Lib.hid (fun w' (hw' : Below w1.heap.size w1 w') => rowS ((hw'.block w.heap.size (by omega)).trans hx1))
  have HRR := Lib.hid (fun w' (hw' : Below w1.heap.size w1 w') => hr1.block (hw'.block (w.heap.size + 1) (by omega)))
  clear hx1 hr1
  refine wp_region_quiet (C := fun w' => Below w1.heap.size w1 w') (by kernel_rfl) (by kernel_rfl) ⟨rfl, rfl, rfl, Nat.le_refl _, fun _ _ => rfl⟩ ?_
  refine q_val (.pointer (some ⟨w.heap.size, 2, none⟩)) rfl (fun w' hw' => by go_simp) ?_
  simp only [Act.put, aI, aS, aZ]
  refine q_loadB 48 (.tmp 9) rfl rfl w.heap.size 2 rfl ((Sha.arr 32 (Sha.vu8 p.S)).toList) _ (fun w' hw' => HX.out w' hw') undS rfl (sizeS p.S) ?_
  simp only [Act.put, aI, aS, aZ]
  refine q_val (.slice (some ⟨w.heap.size + 1, 0, none⟩) 128 128) rfl (fun w' hw' => by go_simp) ?_
  simp only [Act.put, aI, aS, aZ]
  refine q_call 166 _ (.agg (Sha.arr 32 (Sha.vu8 q))) rfl (fun w' => by go_simp) (fun w' hw' => (HSUM.out w' (w.heap.size + 1) (HRR.out w' hw') (HK.out w' (hB1.trans (hw'.mono (by omega))))).mono fun e w'' ⟨he, hb⟩ => ⟨he, hw'.trans (hb.mono hw'.size)⟩) ?_
  simp only [Act.put, aI, aS, aZ]
  refine q_eqlV 48 _ (.tmp 10) (.tmp 12) rfl rfl (Sha.arr 32 (Sha.vu8 p.S)) (Sha.arr 32 (Sha.vu8 q)) (congrArg Value.agg Array.toArray_toList) rfl (eqB 32 p.S q) guardS (fun w' _ => eq_sum p.S q w') ?_
  simp only [Act.put, aI, aS, aZ]
  refine q_val (.bool (eqB 32 p.S q)) rfl (fun w' hw' => by go_simp) ?_
  simp only [Act.put, aI, aS, aZ]
  refine wpQuiet_nil ?_
  intro w' hw'
  go_wp2_with fail
  go_ret
  exact ⟨by rw [HV.out, HH.out]; rfl, hB1.trans (hw'.mono (by omega))⟩

end Pt
end Go.Proofs.YtonhedefjmkpcaaGreatDoor
/- ptr: Of, and the reference's (made by tools/gen_pof.py). -/
namespace Go.Proofs.YtonhedefjmkpcaaGreatDoor
set_option maxRecDepth 20000
namespace Pt
open Go.RowKit Dk Eqb Byt

attribute [local go_sem] zvP
set_option maxRecDepth 100000 in
set_option maxHeartbeats 2000000 in
theorem of_any (D : Nat → Int) (a c : Int) (w : World) (hD : Bytes D) (hk : Kp w) :
  Calls Tryz.prog 169 #[.agg (bl D).toArray, .int .i64 a, .int .i64 c] w fun e w' => e = .returned (.tuple #[.agg (pV (ofV D a c)).toArray, .int .i64 (ofE D a c)]) ∧ Below w.heap.size w w' := by
 have HSUM := Lib.hid (fun (W : World) (g : Nat) (hr : Row W g 0 128 D) (hk : Kp W) => sum_row hr hD hk)
 have HV : Hid (ofV D a c = if isHole ⟨a, c, sumD D⟩ = false ∧ rightB ⟨a, c, sumD D⟩ = true then ⟨a, c, sumD D⟩ else pz) := Lib.hid rfl
 have HE : Hid (ofE D a c = if isHole ⟨a, c, sumD D⟩ = false ∧ rightB ⟨a, c, sumD D⟩ = true then 0 else 1) := Lib.hid rfl
 have HK := Lib.hid (fun W (hb : Below w.heap.size w W) => hk.below hb)
 generalize ofV D a c = V at HV ⊢
 generalize ofE D a c = E at HE ⊢
 generalize sumD D = q at *
 have HI := Lib.hid (fun W => ishole_any ⟨a, c, q⟩ W)
 have HR := Lib.hid (fun W => right_any ⟨a, c, q⟩ W)
 generalize isHole ⟨a, c, q⟩ = h at *
 generalize rightB ⟨a, c, q⟩ = r at *
 clear hD hk
 obtain ⟨W, hW, hB0, hs0, hr0, hx0⟩ := box_two w D pz
 cases h with
 | true =>
  go_enter Tryz.func169, Tryz.ntmps169
  go_wp2_with fail
  rw [zrow, ← hW]
  clear hW
  refine (HSUM.out W w.heap.size hr0 (HK.out W hB0)).mono ?_
  rintro _ w1 ⟨rfl, hb1⟩
  have hs1 := hb1.size
  have hB1 := hB0.trans (hb1.mono (by omega))
  have hx1 := (hb1.block (w.heap.size + 1) (by omega)).trans hx0
  have hb2 : Below w1.heap.size w1 (w1.alloc (.cells (pV ⟨a, c, q⟩).toArray 50)) := (Below.refl _ _).alloc (Nat.le_refl _) _
  have hx2 := (hb2.block (w.heap.size + 1) (by omega)).trans hx1
  have hz2 : (w1.alloc (.cells (pV ⟨a, c, q⟩).toArray 50)).heap[w1.heap.size]? = some (.cells (pV ⟨a, c, q⟩).toArray 50 (0, 0)) := heap_alloc_new _ _
  have hs2 : (w1.alloc (.cells (pV ⟨a, c, q⟩).toArray 50)).heap.size = w1.heap.size + 1 := by simp
  have hB2 := hB1.trans (hb2.mono (by omega))
  clear hb1 hx0 hr0 hb2 hx1
  dsimp only
  go_wp2_with (first
   | (refine @wpList_buildTo _ _ _ _ _ _ _ rfl 50 #[(0, .tmp 9), (1, .tmp 10), (2, .tmp 12)] rfl _ rfl (pV ⟨a, c, q⟩).toArray (by kernel_rfl) ?_; simp only [Act.put, aI, aS, aZ])
   | (refine @wpList_store_row _ _ _ _ _ _ _ rfl 50 (.tmp 8) (.tmp 13) rfl w1.heap.size (pV ⟨a, c, q⟩).toArray rfl rfl 50 _ (heap_alloc_new w1 _) (sizeP' _) rfl (pV_all _) ?_; rw [World.setRow_alloc_new]; simp only [Act.put])
   | (refine @wpList_loadG _ _ _ _ _ _ _ (by kernel_rfl) 50 (.tmp 8) rfl w1.heap.size 0 rfl (pV ⟨a, c, q⟩) _ (row_pt (heap_alloc_new w1 _)) undP rfl (sizeP _) ?_; simp only [Act.put, aI, aS, aZ]))
  generalize w1.alloc (.cells (pV ⟨a, c, q⟩).toArray 50) = W2 at hx2 hz2 hs2 hB2 ⊢
  refine (HI.out W2).mono ?_
  rintro _ w3 ⟨rfl, hb3⟩
  have hx3 := (hb3.block (w.heap.size + 1) (by omega)).trans hx2
  have hB3 := hB2.trans (hb3.mono (by omega))
  clear hx2 hz2
  dsimp only
  go_wp2_with (first
   | (refine @wpList_buildTo _ _ _ _ _ _ _ rfl 50 #[] rfl _ rfl (pV pz).toArray builtZ ?_; simp only [Act.put, aI, aS, aZ])
   | (refine @wpList_store_row _ _ _ _ _ _ _ rfl 50 (.tmp 6) (.tmp 21) rfl (w.heap.size + 1) (pV pz).toArray rfl rfl 50 _ (hx3) (sizeP' _) rfl (pV_all _) ?_; simp only [Act.put]))
  have hr9 := setRow_heap w3 (w.heap.size + 1) _ (pV pz).toArray 50 (0, 0) hx3
  refine bodyPost_ret (results_2p rfl rfl rfl hr9) rfl ?_
  exact ⟨by rw [HV.out, HE.out]; simp, hB3.trans ⟨rfl, rfl, rfl, by simp, fun k hk => setRow_other w3 _ k _ (by omega)⟩⟩
 | false =>
  cases r with
  | false =>
   go_enter Tryz.func169, Tryz.ntmps169
   go_wp2_with fail
   rw [zrow, ← hW]
   clear hW
   refine (HSUM.out W w.heap.size hr0 (HK.out W hB0)).mono ?_
   rintro _ w1 ⟨rfl, hb1⟩
   have hs1 := hb1.size
   have hB1 := hB0.trans (hb1.mono (by omega))
   have hx1 := (hb1.block (w.heap.size + 1) (by omega)).trans hx0
   have hb2 : Below w1.heap.size w1 (w1.alloc (.cells (pV ⟨a, c, q⟩).toArray 50)) := (Below.refl _ _).alloc (Nat.le_refl _) _
   have hx2 := (hb2.block (w.heap.size + 1) (by omega)).trans hx1
   have hz2 : (w1.alloc (.cells (pV ⟨a, c, q⟩).toArray 50)).heap[w1.heap.size]? = some (.cells (pV ⟨a, c, q⟩).toArray 50 (0, 0)) := heap_alloc_new _ _
   have hs2 : (w1.alloc (.cells (pV ⟨a, c, q⟩).toArray 50)).heap.size = w1.heap.size + 1 := by simp
   have hB2 := hB1.trans (hb2.mono (by omega))
   clear hb1 hx0 hr0 hb2 hx1
   dsimp only
   go_wp2_with (first
    | (refine @wpList_buildTo _ _ _ _ _ _ _ rfl 50 #[(0, .tmp 9), (1, .tmp 10), (2, .tmp 12)] rfl _ rfl (pV ⟨a, c, q⟩).toArray (by kernel_rfl) ?_; simp only [Act.put, aI, aS, aZ])
    | (refine @wpList_store_row _ _ _ _ _ _ _ rfl 50 (.tmp 8) (.tmp 13) rfl w1.heap.size (pV ⟨a, c, q⟩).toArray rfl rfl 50 _ (heap_alloc_new w1 _) (sizeP' _) rfl (pV_all _) ?_; rw [World.setRow_alloc_new]; simp only [Act.put])
    | (refine @wpList_loadG _ _ _ _ _ _ _ (by kernel_rfl) 50 (.tmp 8) rfl w1.heap.size 0 rfl (pV ⟨a, c, q⟩) _ (row_pt (heap_alloc_new w1 _)) undP rfl (sizeP _) ?_; simp only [Act.put, aI, aS, aZ]))
   generalize w1.alloc (.cells (pV ⟨a, c, q⟩).toArray 50) = W2 at hx2 hz2 hs2 hB2 ⊢
   refine (HI.out W2).mono ?_
   rintro _ w3 ⟨rfl, hb3⟩
   have hx3 := (hb3.block (w.heap.size + 1) (by omega)).trans hx2
   have hz3 := (hb3.block w1.heap.size (by omega)).trans hz2
   have hB3 := hB2.trans (hb3.mono (by omega))
   have hs3 := hb3.size
   clear hx2 hz2
   dsimp only
   go_wp2_with (refine @wpList_loadG _ _ _ _ _ _ _ (by kernel_rfl) 50 (.tmp 8) rfl w1.heap.size 0 rfl (pV ⟨a, c, q⟩) _ (row_pt (hz3)) undP rfl (sizeP _) ?_; simp only [Act.put, aI, aS, aZ])
   refine (HR.out w3).mono ?_
   rintro _ w4 ⟨rfl, hb4⟩
   have hx4 := (hb4.block (w.heap.size + 1) (by omega)).trans hx3
   have hz4 := (hb4.block w1.heap.size (by omega)).trans hz3
   have hB4 := hB3.trans (hb4.mono (by omega))
   clear hx3 hz3
   dsimp only
   go_wp2_with (first
    | (refine @wpList_buildTo _ _ _ _ _ _ _ rfl 50 #[] rfl _ rfl (pV pz).toArray builtZ ?_; simp only [Act.put, aI, aS, aZ])
    | (refine @wpList_store_row _ _ _ _ _ _ _ rfl 50 (.tmp 6) (.tmp 21) rfl (w.heap.size + 1) (pV pz).toArray rfl rfl 50 _ (hx4) (sizeP' _) rfl (pV_all _) ?_; simp only [Act.put]))
   have hr9 := setRow_heap w4 (w.heap.size + 1) _ (pV pz).toArray 50 (0, 0) hx4
   refine bodyPost_ret (results_2p rfl rfl rfl hr9) rfl ?_
   exact ⟨by rw [HV.out, HE.out]; simp, hB4.trans ⟨rfl, rfl, rfl, by simp, fun k hk => setRow_other w4 _ k _ (by omega)⟩⟩
  | true =>
   go_enter Tryz.func169, Tryz.ntmps169
   go_wp2_with fail
   rw [zrow, ← hW]
   clear hW
   refine (HSUM.out W w.heap.size hr0 (HK.out W hB0)).mono ?_
   rintro _ w1 ⟨rfl, hb1⟩
   have hs1 := hb1.size
   have hB1 := hB0.trans (hb1.mono (by omega))
   have hx1 := (hb1.block (w.heap.size + 1) (by omega)).trans hx0
   have hb2 : Below w1.heap.size w1 (w1.alloc (.cells (pV ⟨a, c, q⟩).toArray 50)) := (Below.refl _ _).alloc (Nat.le_refl _) _
   have hx2 := (hb2.block (w.heap.size + 1) (by omega)).trans hx1
   have hz2 : (w1.alloc (.cells (pV ⟨a, c, q⟩).toArray 50)).heap[w1.heap.size]? = some (.cells (pV ⟨a, c, q⟩).toArray 50 (0, 0)) := heap_alloc_new _ _
   have hs2 : (w1.alloc (.cells (pV ⟨a, c, q⟩).toArray 50)).heap.size = w1.heap.size + 1 := by simp
   have hB2 := hB1.trans (hb2.mono (by omega))
   clear hb1 hx0 hr0 hb2 hx1
   dsimp only
   go_wp2_with (first
    | (refine @wpList_buildTo _ _ _ _ _ _ _ rfl 50 #[(0, .tmp 9), (1, .tmp 10), (2, .tmp 12)] rfl _ rfl (pV ⟨a, c, q⟩).toArray (by kernel_rfl) ?_; simp only [Act.put, aI, aS, aZ])
    | (refine @wpList_store_row _ _ _ _ _ _ _ rfl 50 (.tmp 8) (.tmp 13) rfl w1.heap.size (pV ⟨a, c, q⟩).toArray rfl rfl 50 _ (heap_alloc_new w1 _) (sizeP' _) rfl (pV_all _) ?_; rw [World.setRow_alloc_new]; simp only [Act.put])
    | (refine @wpList_loadG _ _ _ _ _ _ _ (by kernel_rfl) 50 (.tmp 8) rfl w1.heap.size 0 rfl (pV ⟨a, c, q⟩) _ (row_pt (heap_alloc_new w1 _)) undP rfl (sizeP _) ?_; simp only [Act.put, aI, aS, aZ]))
   generalize w1.alloc (.cells (pV ⟨a, c, q⟩).toArray 50) = W2 at hx2 hz2 hs2 hB2 ⊢
   refine (HI.out W2).mono ?_
   rintro _ w3 ⟨rfl, hb3⟩
   have hx3 := (hb3.block (w.heap.size + 1) (by omega)).trans hx2
   have hz3 := (hb3.block w1.heap.size (by omega)).trans hz2
   have hB3 := hB2.trans (hb3.mono (by omega))
   have hs3 := hb3.size
   clear hx2 hz2
   dsimp only
   go_wp2_with (refine @wpList_loadG _ _ _ _ _ _ _ (by kernel_rfl) 50 (.tmp 8) rfl w1.heap.size 0 rfl (pV ⟨a, c, q⟩) _ (row_pt (hz3)) undP rfl (sizeP _) ?_; simp only [Act.put, aI, aS, aZ])
   refine (HR.out w3).mono ?_
   rintro _ w4 ⟨rfl, hb4⟩
   have hx4 := (hb4.block (w.heap.size + 1) (by omega)).trans hx3
   have hz4 := (hb4.block w1.heap.size (by omega)).trans hz3
   have hB4 := hB3.trans (hb4.mono (by omega))
   clear hx3 hz3
   dsimp only
   go_wp2_with (first
    | (refine @wpList_loadG _ _ _ _ _ _ _ (by kernel_rfl) 50 (.tmp 8) rfl w1.heap.size 0 rfl (pV ⟨a, c, q⟩) _ (row_pt (hz4)) undP rfl (sizeP _) ?_; simp only [Act.put, aI, aS, aZ])
    | (refine @wpList_store_row _ _ _ _ _ _ _ rfl 50 (.tmp 6) (.tmp 22) rfl (w.heap.size + 1) (pV ⟨a, c, q⟩).toArray rfl rfl 50 _ (hx4) (sizeP' _) rfl (pV_all _) ?_; simp only [Act.put]))
   have hr9 := setRow_heap w4 (w.heap.size + 1) _ (pV ⟨a, c, q⟩).toArray 50 (0, 0) hx4
   refine bodyPost_ret (results_2p rfl rfl rfl hr9) rfl ?_
   exact ⟨by rw [HV.out, HE.out]; simp, hB4.trans ⟨rfl, rfl, rfl, by simp, fun k hk => setRow_other w4 _ k _ (by omega)⟩⟩

end Pt
end Go.Proofs.YtonhedefjmkpcaaGreatDoor
/- From a law's walk to what its row asks: for a law of any arguments that answers true and leaves old memory as it was. Arguments opened: bytes, numbers, texts, arrays of integers. -/
namespace Go.Proofs.YtonhedefjmkpcaaGreatDoor
set_option maxRecDepth 20000
namespace Law
open Go.ChangeShapes Go.WideShapes Go.ChangeAt Go.RowKit Go.ChangeMaps Byt

theorem own : ownKnob Tryz.prog.godebug = none := by kernel_rfl
theorem under_u8 : Tryz.prog.underlying 5 = some (.int .u8) := by kernel_rfl
theorem under_bool : Tryz.prog.underlying 4 = some .bool := by kernel_rfl
theorem cells_u8 : Tryz.prog.cellsOf 5 = 1 := by kernel_rfl
theorem laid_out : laidOutB Tryz.prog = true := by kernel_rfl

/-- what old memory held, arguments read behind the call -/
theorem trodAll_below {H : Type} {enc : TypeId × Value → H} {W W' : World} (hb : Below W.heap.size W W') : ∀ (ts : List TypeId) (vs : List Value) (ds : List (DataW H)) (ps : List MemPlace),
  (∀ t ∈ ts, Tryz.prog.readableRec t = true ∧ t < Tryz.prog.types.size) → DataW.TrodAll enc Tryz.prog W 0 (fun _ => true) true ts vs ds ps → (∀ x ∈ ps, x.block < W.heap.size) →
  DataW.TrodAll enc Tryz.prog W' 0 (fun b => decide (b < W.heap.size)) true ts vs ds ps
 | [], vs, ds, ps, _, h, _ => by
  obtain ⟨rfl, rfl, rfl⟩ := trodAll_nil h
  exact trodAll_mk0
 | t :: ts, vs, ds, ps, hr, h, hlt => by
  obtain ⟨v, vs', d, ds', p, q, rfl, rfl, rfl, h1, h2⟩ := trodAll_cons h
  exact trodAll_cons_mk (Below.trod laid_out (hr t (by simp)).1 (hr t (by simp)).2 h1 hb (fun x hx => hlt x (by simp [hx])))
   (trodAll_below hb ts vs' ds' q (fun t ht => hr t (by simp [ht])) h2 (fun x hx => hlt x (by simp [hx])))

/-- the law's post, out of its walk -/
theorem law_post {s : ChangeSpec} (hv : s.vars = []) {f : FuncId} {fn : Func} (hr : fn.resultTypes = #[4]) (hp : ∀ t ∈ fn.params.toList, Tryz.prog.readableRec t = true ∧ t < Tryz.prog.types.size)
  {H : Type} {enc : TypeId × Value → H} {W : World} {args : Array Value} {ds gs : List (DataW H)} {before : List MemPlace} (hs : s.fn H ds = { results := [.lit (.bool true)], args := ds })
  (hW : DataW.Whole enc Tryz.prog fn.params.toList s.vars false W args.toList ds gs before)
  (walk : Calls Tryz.prog f args W fun e W' => e = .returned (.bool true) ∧ Below W.heap.size W W') :
  Calls Tryz.prog f args W fun e W' => ∃ v, e = .returned v ∧ s.post enc Tryz.prog fn false true false false W args v W' := by
 have hW' := hW
 obtain ⟨p, q, hA0, hV, rfl, hfz, hnd⟩ := hW
 rw [hv] at hV
 obtain ⟨rfl, rfl⟩ := trodVars_none hV
 refine walk.mono fun e W' ⟨he, hb⟩ => ?_
 subst he
 have hlt : ∀ x ∈ p, x.block < W.heap.size := fun x hx => by simpa using hW'.lt x (by simpa using hx)
 rw [List.append_nil] at hW'
 refine ⟨_, rfl, _, _, _, [], p, [], hW', ?_, ?_, ?_, hb.frame _, fun h => by cases h⟩
 ·rw [hr, List.append_nil, hs]
  exact trodAll_cons_mk (shut_bool under_bool _) trodAll_mk0
 ·rw [List.append_nil, hs]
  exact trodAll_below hb _ _ _ _ hp hA0 hlt
 ·rw [hv, List.append_nil, hs]
  rfl

end Law
end Go.Proofs.YtonhedefjmkpcaaGreatDoor
/- ptr: blocks, pointers, slices of pointers, small numbers, opened. -/
namespace Go.Proofs.YtonhedefjmkpcaaGreatDoor
set_option maxRecDepth 20000
namespace PLaw
open Go.ChangeShapes Go.WideShapes Go.ChangeAt Go.RowKit Go.ChangeMaps Law Dk Byt

section
variable {H : Type} {enc : TypeId × Value → H} {w : World} {base : Nat} {sp : Nat → Bool} {held : Bool} {fuel : Nat} {cs : List Value} {x : DataW H × List MemPlace}
def PtOk (p : Pt.Pn) : Prop := (-9223372036854775808 ≤ p.A ∧ p.A ≤ 9223372036854775807) ∧ (-9223372036854775808 ≤ p.B ∧ p.B ≤ 9223372036854775807) ∧ ∀ j, j < 32 → 0 ≤ p.S j ∧ p.S j < 256
end

instance : Inhabited { p : Pt.Pn // PtOk p } := ⟨⟨Pt.pz, by unfold PtOk Pt.pz Pt.zS; simp⟩⟩
/-- a slice of rows -/
theorem open_rows {H : Type} {enc : TypeId × Value → H} {W : World} {fuel : Nat} {cs : List Value} {x : DataW H × List MemPlace} {Ty : Type} [Inhabited Ty] {V : Ty → List Value} {t e : TypeId} {k : Nat} (ht : Tryz.prog.underlying t = some (.slice e)) (hk : Tryz.prog.cellsOf e = k) (hk0 : 0 < k)
  (hop : ∀ (fuel : Nat) (cs : List Value) (x : DataW H × List MemPlace), DataW.trod enc Tryz.prog W 0 (fun _ => true) true fuel e cs = some x → ∃ s, cs = V s)
  (h : DataW.trod enc Tryz.prog W 0 (fun _ => true) true fuel t cs = some x) (hlt : ∀ p ∈ x.2, p.block < W.heap.size) :
  ∃ (ao : Option Addr) (n cap : Nat) (F : Nat → Ty), cs = [.slice ao n cap] ∧ Lay W W.heap.size W.heap.size ao n cap k (fun i => V (F i)) ∧ (n = 0 ∨ ∃ el rest, x.1 = .slice el rest ∧ el.length = n) := by
 rcases Go.Deep.open_slice ht h with ⟨rfl, rfl⟩ | ⟨a, len, cap, m, fu, D, Pl, rfl, _, hl, hm, hmm, rfl, hx⟩
 ·exact ⟨none, 0, 0, fun _ => default, rfl, ⟨Nat.le_refl _, fun _ => rfl, .inl rfl⟩, .inl rfl⟩
 ·simp only [if_true] at hmm
  subst hmm
  rw [hk] at hx hlt
  have hx' : ∀ i, i < m → ∃ s, W.cells? 0 (a.add (i * k)) k = some (V s) := fun i hi => by
   obtain ⟨cs', h1, h2⟩ := hx i hi
   obtain ⟨s, rfl⟩ := hop _ _ _ h2
   exact ⟨s, h1⟩
  obtain ⟨F, hF⟩ := Go.Deep.choose_lt hx'
  refine ⟨some a, len, m, F, rfl, ⟨hl, (fun hn => by cases hn), ?_⟩, .inr ⟨_, _, rfl, by simp⟩⟩
  rcases Nat.eq_zero_or_pos len with h0 | h0
  ·exact .inl h0
  ·right
   obtain ⟨b, off, spot⟩ := a
   have hpos : 0 < m * k := Nat.mul_pos (by omega) hk0
   have hb : b < W.heap.size := hlt (.cell b off) (List.mem_append.2 (.inl (MemPlace.mem_row.2 ⟨0, hpos, by simp⟩)))
   obtain ⟨_, hlen0, hc0⟩ := World.cells?_some (hF 0 (by omega))
   have hspot : spot = none := by
    have h00 := hc0 0 hk0
    rw [List.getElem?_eq_getElem (by omega)] at h00
    simpa [Addr.add] using World.cell?_spot h00
   subst hspot
   refine ⟨b, off, rfl, hb, by omega, fun i hi j v hv => ?_⟩
   obtain ⟨_, hlen, hc⟩ := World.cells?_some (hF i (by omega))
   have hj : j < k := by
    rw [← hlen]
    exact (List.getElem?_eq_some_iff.1 hv).1
   have := hc j hj
   rw [hv, add_plain, add_plain] at this
   exact this
end PLaw
end Go.Proofs.YtonhedefjmkpcaaGreatDoor
/- vol: any volume, opened. -/
namespace Go.Proofs.YtonhedefjmkpcaaGreatDoor
set_option maxRecDepth 20000
namespace VLaw
open Go.ChangeShapes Go.WideShapes Go.ChangeAt Go.RowKit Go.ChangeMaps Law Dk Byt

theorem cells_bool : Tryz.prog.cellsOf 4 = 1 := by kernel_rfl
instance : Inhabited Sec := ⟨sec0⟩
instance : Inhabited Wr := ⟨⟨0, fun _ => 0⟩⟩

section
variable {H : Type} {enc : TypeId × Value → H} {w : World} {base : Nat} {sp : Nat → Bool} {held : Bool} {fuel : Nat} {cs : List Value} {x : DataW H × List MemPlace}

end
abbrev PrT := { t : Int × Int // Rm.i64 t.1 ∧ Rm.i64 t.2 }
instance : Inhabited PrT := ⟨⟨(0, 0), by unfold Rm.i64; omega⟩⟩
section
variable {H : Type} {enc : TypeId × Value → H} {w : World} {base : Nat} {sp : Nat → Bool} {held : Bool} {fuel : Nat} {cs : List Value} {x : DataW H × List MemPlace}
end

end VLaw
end Go.Proofs.YtonhedefjmkpcaaGreatDoor
/- vol: a list of steps, opened. -/
namespace Go.Proofs.YtonhedefjmkpcaaGreatDoor
set_option maxRecDepth 20000
namespace VLaw
open Go.ChangeShapes Go.WideShapes Go.ChangeAt Go.RowKit Go.ChangeMaps Law PLaw Dk

/-- a step: kind, which, place, the byte, twice? -/
structure St9 where
 k : Nat
 i : Nat
 p : Nat
 z : Nat
 t : Bool
instance : Inhabited St9 := ⟨⟨0, 0, 0, 0, false⟩⟩
def s9V (s : St9) : List Value := [.int .u8 (s.k : Int), .int .u8 (s.i : Int), .int .u8 (s.p : Int), .int .u8 (s.z : Int), .bool s.t]
def S9 := { s : St9 // s.k < 256 ∧ s.i < 256 ∧ s.p < 256 ∧ s.z < 256 }
instance : Inhabited S9 := ⟨⟨default, by decide⟩⟩
theorem cells_step9 : Tryz.prog.cellsOf 57 = 5 := by kernel_rfl
theorem bytes_step9 : Tryz.prog.bytesOf 57 = 5 := by kernel_rfl
theorem under_steps9 : Tryz.prog.underlying 22 = some (.slice 57) := by kernel_rfl
theorem nat_u8 {z : Int} (h : (Lit.int .u8 z).wf = true) : ∃ n : Nat, z = (n : Int) ∧ n < 256 := by
 have h1 : IntKind.u8.min = 0 := rfl
 have h2 : IntKind.u8.max = 255 := rfl
 simp only [Lit.wf, Bool.and_eq_true, decide_eq_true_eq] at h
 exact ⟨z.toNat, by omega, by omega⟩
theorem trod_struct5 {H : Type} {enc : TypeId × Value → H} {w : World} {base : Nat} {sp : Nat → Bool} {held : Bool} {t : TypeId} {f0 f1 f2 f3 f4 : Field} {fuel : Nat} {cs : List Value} {x : DataW H × List MemPlace} (ht : Tryz.prog.underlying t = some (.struct #[f0, f1, f2, f3, f4])) (h : DataW.trod enc Tryz.prog w base sp held fuel t cs = some x) :
  ∃ y0 y1 y2 y3 y4 n, cs.length = Tryz.prog.cellsOf t ∧ DataW.trod enc Tryz.prog w base sp held n f0.type ((cs.drop f0.offset).take (Tryz.prog.cellsOf f0.type)) = some y0 ∧
   DataW.trod enc Tryz.prog w base sp held n f1.type ((cs.drop f1.offset).take (Tryz.prog.cellsOf f1.type)) = some y1 ∧ DataW.trod enc Tryz.prog w base sp held n f2.type ((cs.drop f2.offset).take (Tryz.prog.cellsOf f2.type)) = some y2 ∧
   DataW.trod enc Tryz.prog w base sp held n f3.type ((cs.drop f3.offset).take (Tryz.prog.cellsOf f3.type)) = some y3 ∧ DataW.trod enc Tryz.prog w base sp held n f4.type ((cs.drop f4.offset).take (Tryz.prog.cellsOf f4.type)) = some y4 := by
 obtain ⟨xs, n, _, rfl, hl, hlen, hf⟩ := DataW.trod_struct ht h
 match xs, hlen with
 | [y0, y1, y2, y3, y4], _ => exact ⟨y0, y1, y2, y3, y4, n, hl, by simpa using hf 0 f0 rfl, by simpa using hf 1 f1 rfl, by simpa using hf 2 f2 rfl, by simpa using hf 3 f3 rfl, by simpa using hf 4 f4 rfl⟩
theorem step9_read {H : Type} {enc : TypeId × Value → H} {w : World} {base : Nat} {sp : Nat → Bool} {held : Bool} {fuel : Nat} {cs : List Value} {x : DataW H × List MemPlace} (h : DataW.trod enc Tryz.prog w base sp held fuel 57 cs = some x) : ∃ s : S9, cs = s9V s.1 := by
 obtain ⟨y0, y1, y2, y3, y4, n, hl, h0, h1, h2, h3, h4⟩ := trod_struct5 Tryz.underlying57 h
 rw [cells_step9] at hl
 obtain ⟨z0, e0, _, w0⟩ := DataW.trod_int under_u8 h0
 obtain ⟨z1, e1, _, w1⟩ := DataW.trod_int under_u8 h1
 obtain ⟨z2, e2, _, w2⟩ := DataW.trod_int under_u8 h2
 obtain ⟨z3, e3, _, w3⟩ := DataW.trod_int under_u8 h3
 obtain ⟨b4, e4, _⟩ := DataW.trod_bool under_bool h4
 obtain ⟨n0, rfl, l0⟩ := nat_u8 w0
 obtain ⟨n1, rfl, l1⟩ := nat_u8 w1
 obtain ⟨n2, rfl, l2⟩ := nat_u8 w2
 obtain ⟨n3, rfl, l3⟩ := nat_u8 w3
 rw [cells_u8] at e0 e1 e2 e3
 rw [cells_bool] at e4
 refine ⟨⟨⟨n0, n1, n2, n3, b4⟩, l0, l1, l2, l3⟩, ?_⟩
 match cs, hl with
 | [c0, c1, c2, c3, c4], _ =>
  simp at e0 e1 e2 e3 e4
  subst e0 e1 e2 e3 e4
  rfl
/-- any list of steps, opened -/
theorem open_steps9 {H : Type} {enc : TypeId × Value → H} {W : World} {r : Reach} {base : Nat} {v : Value} {d : DataW H} {ps : List MemPlace} {ts : List TypeId} {ds : List (DataW H)} {j : Nat}
  (hsz : (DataW.weightsEach Tryz.prog ts ds).all (· ≤ reachBytes) = true) (ht : ts[j]? = some 22) (hd : ds[j]? = some d)
  (hval : Value.okWide Tryz.prog W r base 22 v) (h0 : DataW.Trod enc Tryz.prog W 0 (fun _ => true) true 22 v d ps) (hlt : ∀ x ∈ ps, x.block < W.heap.size) :
  ∃ (la : Option Addr) (ln lc : Nat) (F : Nat → St9), v = .slice la ln lc ∧ Lay W W.heap.size W.heap.size la ln lc 5 (fun i => s9V (F i)) ∧ (∀ i, (F i).k < 256 ∧ (F i).i < 256 ∧ (F i).p < 256 ∧ (F i).z < 256) ∧ ln ≤ 140737488355328 := by
 obtain ⟨a0, len, cap, rfl⟩ := okWide_slice under_steps9 hval
 obtain ⟨fuel, hf⟩ := h0
 obtain ⟨la, ln, lc, F, hs, l, nn⟩ := open_rows (V := fun s : S9 => s9V s.1) under_steps9 cells_step9 (by omega) (fun _ _ _ h => step9_read h) hf hlt
 simp [Value.cells] at hs
 obtain ⟨rfl, rfl, rfl⟩ := hs
 refine ⟨_, _, _, fun i => (F i).1, rfl, l, fun i => (F i).2, ?_⟩
 rcases nn with rfl | ⟨el, rest, he, hl⟩
 ·omega
 ·cases d with
  | slice el' rest' =>
   have h1 := sized_slice hsz ht hd under_steps9
   rw [bytes_step9] at h1
   simp only [reachBytes] at h1
   simp only [DataW.slice.injEq] at he
   obtain ⟨rfl, rfl⟩ := he
   omega
  | _ => cases he
end VLaw
end Go.Proofs.YtonhedefjmkpcaaGreatDoor
