/- ptr: Fits, and the reference's (made by tools/gen_pfits.py). -/
import Derived.Test.YtllejfnmbpjhaaaGreatDoorPtSum
namespace Go.Proofs.YtllejfnmbpjhaaaGreatDoor
set_option maxRecDepth 20000
namespace Pt
open Go.RowKit Dk Eqb Byt

attribute [local irreducible] wpQuiet
attribute [local go_sem] zvB
attribute [local go_sem] zcB
def fitsB (p : Pn) (D : Nat → Int) : Bool := if isHole p then Wd.zeroB D 128 else eqB 32 p.S (sumD D)
theorem rowS {w : World} {g : Nat} {p : Pn} {t : TypeId} (h : w.heap[g]? = some (.cells (pV p).toArray t (0, 0))) : w.rangeAt g 2 (Sha.arr 32 (Sha.vu8 p.S)).toList := fun j v hv => by
  have hj : j < 32 := by
    have := (List.getElem?_eq_some_iff.1 hv).1
    simpa [Sha.arr_size] using this
  rw [cS_pt h hj]
  have h1 : (Sha.arr 32 (Sha.vu8 p.S)).toList[j]? = some (.int .u8 (p.S j)) := by
    have := Sha.arr_get (Sha.vu8 p.S) hj
    simpa [Sha.vu8] using this
  rw [h1] at hv
  exact hv
theorem undS : Tryz.prog.underlying 29 = some (.array 32 5) := by kernel_rfl
theorem sizeS (S : Nat → Int) : (Tryz.prog.info? 29).map (·.size) = some (Sha.arr 32 (Sha.vu8 S)).toList.length := by rw [Array.length_toList, Sha.arr_size]; kernel_rfl
theorem guardS : Tryz.prog.eqGuardType Tryz.prog.depth 29 = false := by kernel_rfl
theorem guardB : Tryz.prog.eqGuardType Tryz.prog.depth 36 = false := by kernel_rfl
theorem zero_eqB (D : Nat → Int) : eqB 128 D (fun _ => 0) = Wd.zeroB D 128 := by
  rw [Bool.eq_iff_iff, eqB_iff, Wd.zeroB_true]
theorem reads_row {w : World} {g : Nat} {f : Nat → Int} (h : Row w g 0 128 f) : Wd.Reads w (some ⟨g, 0, none⟩) 128 128 f := ⟨Nat.le_refl _, (fun e => by cases e), .inr ⟨g, 0, rfl, fun _ hj => h.cell hj⟩⟩
theorem box_pb (w : World) (p : Pn) (D : Nat → Int) : ∃ W, W = (w.alloc (.cells (pV p).toArray 31)).alloc (.cells (bl D).toArray 36) ∧ Below w.heap.size w W ∧ W.heap.size = w.heap.size + 2 ∧ W.heap[w.heap.size]? = some (.cells (pV p).toArray 31 (0, 0)) ∧ Row W (w.heap.size + 1) 0 128 D := by
  refine ⟨_, rfl, ((Below.refl _ _).alloc (Nat.le_refl _) _).alloc (by simp) _, by simp, (Below.heap_alloc _ _ _ (by simp)).trans (heap_alloc_new w _), row_of (t := 36) ?_⟩
  have := heap_alloc_new (w.alloc (.cells (pV p).toArray 31)) (.cells (bl D).toArray 36)
  rwa [World.size_alloc] at this

set_option maxRecDepth 100000 in
set_option maxHeartbeats 600000 in
theorem fits_any (p : Pn) (D : Nat → Int) (w : World) (hD : Bytes D) (hk : Kp w) : Calls Tryz.prog 45 #[.agg (pV p).toArray, .agg (bl D).toArray] w fun e w' => e = .returned (.bool (fitsB p D)) ∧ Below w.heap.size w w' := by
  have HSUM := Lib.hid (fun (W : World) (g : Nat) (hr : Row W g 0 128 D) (hk : Kp W) => sum_row hr hD hk)
  have HK := Lib.hid (fun W (hb : Below w.heap.size w W) => hk.below hb)
  have HV : Hid (fitsB p D = if isHole p then Wd.zeroB D 128 else eqB 32 p.S (sumD D)) := Lib.hid rfl
  generalize fitsB p D = V at HV ⊢
  generalize sumD D = q at *
  clear hD hk
  obtain ⟨W, hW, hB0, hs0, hx0, hr0⟩ := box_pb w p D
  have HI := Lib.hid (fun W => ishole_any p W)
  cases hh : isHole p with
  | true =>
    have HH := Lib.hid hh
    rw [hh] at HI
    clear hh
    go_enter Tryz.func45, Tryz.ntmps45
    subst hW
    go_wp2_with (refine @wpList_loadG _ _ _ _ _ _ _ (by kernel_rfl) 31 (.tmp 2) rfl w.heap.size 0 rfl (pV p) _ (row_pt hx0) undP rfl (sizeP p) ?_; simp only [Act.put, List.setIfInBounds_toArray, List.set_cons_succ, List.set_cons_zero])
    generalize (w.alloc (.cells (pV p).toArray 31)).alloc (.cells (bl D).toArray 36) = W at hB0 hs0 hx0 hr0 ⊢
    refine (HI.out W).mono ?_
    rintro _ w1 ⟨rfl, hb1⟩
    have hs1 := hb1.size
    have hB1 := hB0.trans (hb1.mono (by omega))
    have hx1 := (hb1.block w.heap.size (by omega)).trans hx0
    have hr1 := hr0.block (hb1.block (w.heap.size + 1) (by omega))
    clear hx0 hr0
    dsimp only
    clear hx1
    go_wp2_with fail
    refine (Wd.zero_any (some ⟨w.heap.size + 1, 0, none⟩) 128 128 D w1 (reads_row hr1) (by omega)).mono ?_
    rintro _ w2 ⟨rfl, rfl⟩
    dsimp only
    go_wp2_with fail
    go_ret
    exact ⟨by rw [HV.out, HH.out]; rfl, hB1⟩
  | false =>
    have HH := Lib.hid hh
    rw [hh] at HI
    clear hh
    go_enter Tryz.func45, Tryz.ntmps45
    subst hW
    go_wp2_with (refine @wpList_loadG _ _ _ _ _ _ _ (by kernel_rfl) 31 (.tmp 2) rfl w.heap.size 0 rfl (pV p) _ (row_pt hx0) undP rfl (sizeP p) ?_; simp only [Act.put, List.setIfInBounds_toArray, List.set_cons_succ, List.set_cons_zero])
    generalize (w.alloc (.cells (pV p).toArray 31)).alloc (.cells (bl D).toArray 36) = W at hB0 hs0 hx0 hr0 ⊢
    refine (HI.out W).mono ?_
    rintro _ w1 ⟨rfl, hb1⟩
    have hs1 := hb1.size
    have hB1 := hB0.trans (hb1.mono (by omega))
    have hx1 := (hb1.block w.heap.size (by omega)).trans hx0
    have hr1 := hr0.block (hb1.block (w.heap.size + 1) (by omega))
    clear hx0 hr0
    dsimp only
    go_wp2_with fail
    have HX := Lib.hid (fun w' (hw' : Below w1.heap.size w1 w') => rowS ((hw'.block w.heap.size (by omega)).trans hx1))
    have HRR := Lib.hid (fun w' (hw' : Below w1.heap.size w1 w') => hr1.block (hw'.block (w.heap.size + 1) (by omega)))
    clear hx1 hr1
    refine wp_region_quiet (C := fun w' => Below w1.heap.size w1 w') (by kernel_rfl) (by kernel_rfl) ⟨rfl, rfl, rfl, Nat.le_refl _, fun _ _ => rfl⟩ ?_
    refine q_val (.pointer (some ⟨w.heap.size, 2, none⟩)) rfl (fun w' hw' => by go_simp) ?_
    simp only [Act.put, List.setIfInBounds_toArray, List.set_cons_succ, List.set_cons_zero]
    refine q_loadB 29 (.tmp 9) rfl rfl w.heap.size 2 rfl ((Sha.arr 32 (Sha.vu8 p.S)).toList) _ (fun w' hw' => HX.out w' hw') undS rfl (sizeS p.S) ?_
    simp only [Act.put, List.setIfInBounds_toArray, List.set_cons_succ, List.set_cons_zero]
    refine q_val (.slice (some ⟨w.heap.size + 1, 0, none⟩) 128 128) rfl (fun w' hw' => by go_simp) ?_
    simp only [Act.put, List.setIfInBounds_toArray, List.set_cons_succ, List.set_cons_zero]
    refine q_call 58 _ (.agg (Sha.arr 32 (Sha.vu8 q))) rfl (fun w' => by go_simp) (fun w' hw' => (HSUM.out w' (w.heap.size + 1) (HRR.out w' hw') (HK.out w' (hB1.trans (hw'.mono (by omega))))).mono fun e w'' ⟨he, hb⟩ => ⟨he, hw'.trans (hb.mono hw'.size)⟩) ?_
    simp only [Act.put, List.setIfInBounds_toArray, List.set_cons_succ, List.set_cons_zero]
    refine q_eqlV 29 _ (.tmp 10) (.tmp 12) rfl rfl (Sha.arr 32 (Sha.vu8 p.S)) (Sha.arr 32 (Sha.vu8 q)) (congrArg Value.agg Array.toArray_toList) rfl (eqB 32 p.S q) guardS (fun w' _ => eq_sum p.S q w') ?_
    simp only [Act.put, List.setIfInBounds_toArray, List.set_cons_succ, List.set_cons_zero]
    refine q_val (.bool (eqB 32 p.S q)) rfl (fun w' hw' => by go_simp) ?_
    simp only [Act.put, List.setIfInBounds_toArray, List.set_cons_succ, List.set_cons_zero]
    refine wpQuiet_nil ?_
    intro w' hw'
    go_wp2_with fail
    go_ret
    exact ⟨by rw [HV.out, HH.out]; rfl, hB1.trans (hw'.mono (by omega))⟩

set_option maxRecDepth 100000 in
set_option maxHeartbeats 600000 in
theorem reffits_any (p : Pn) (D : Nat → Int) (w : World) (hD : Bytes D) (hz : 0 < w.heap.size) : Calls Tryz.prog 52 #[.agg (pV p).toArray, .agg (bl D).toArray] w fun e w' => e = .returned (.bool (fitsB p D)) ∧ Below w.heap.size w w' := by
  have HSUM := Lib.hid (fun (W : World) (g : Nat) (hr : Row W g 0 128 D) (hk : 0 < W.heap.size) => refsum_row hr hD hk)
  have HK := Lib.hid (fun W (hb : Below w.heap.size w W) => Nat.lt_of_lt_of_le hz hb.size)
  have HV : Hid (fitsB p D = if isHole p then Wd.zeroB D 128 else eqB 32 p.S (sumD D)) := Lib.hid rfl
  generalize fitsB p D = V at HV ⊢
  generalize sumD D = q at *
  clear hD hz
  obtain ⟨W, hW, hB0, hs0, hx0, hr0⟩ := box_pb w p D
  have HE := Lib.hid (fun W => eq_pt p hole W)
  rw [show eqP p hole = isHole p from rfl] at HE
  cases hh : isHole p with
  | true =>
    have HH := Lib.hid hh
    rw [hh] at HE
    clear hh
    go_enter Tryz.func52, Tryz.ntmps52
    go_wp2_with fail
    rw [← hW]
    clear hW
    have HX0 := Lib.hid (fun w' (hw' : Below W.heap.size W w') => (hw'.block w.heap.size (by omega)).trans hx0)
    have HR0 := Lib.hid (fun w' (hw' : Below W.heap.size W w') => hr0.block (hw'.block (w.heap.size + 1) (by omega)))
    clear hx0 hr0
    refine wp_region_quiet (C := fun w' => Below W.heap.size W w') (by kernel_rfl) (by kernel_rfl) ⟨rfl, rfl, rfl, Nat.le_refl _, fun _ _ => rfl⟩ ?_
    refine q_loadB 31 (.tmp 2) rfl rfl w.heap.size 0 rfl (pV p) _ (fun w' hw' => row_pt (HX0.out w' hw')) undP rfl (sizeP p) ?_
    simp only [Act.put, List.setIfInBounds_toArray, List.set_cons_succ, List.set_cons_zero]
    refine q_call 72 _ (.agg (pV hole).toArray) rfl (fun w' => by go_simp) (fun w' hw' => (refhole_any w').mono fun e w'' ⟨he, hb⟩ => ⟨he, hw'.trans (hb.mono hw'.size)⟩) ?_
    simp only [Act.put, List.setIfInBounds_toArray, List.set_cons_succ, List.set_cons_zero]
    refine q_eqlV 31 _ (.tmp 5) (.tmp 6) rfl rfl ((pV p).toArray) ((pV hole).toArray) rfl rfl true guardP (fun w' _ => HE.out w') ?_
    simp only [Act.put, List.setIfInBounds_toArray, List.set_cons_succ, List.set_cons_zero]
    refine wpQuiet_nil ?_
    intro w1 hb1
    have hs1 := hb1.size
    have hB1 := hB0.trans (hb1.mono (by omega))
    have hx1 := HX0.out w1 hb1
    have hr1 := HR0.out w1 hb1
    clear HX0 HR0
    clear hx1
    go_wp2_with (first
      | (refine @wpList_loadG _ _ _ _ _ _ _ (by kernel_rfl) 36 (.tmp 3) rfl (w.heap.size + 1) 0 rfl (bl D) _ (row_range hr1) undB rfl (size_bl D) ?_; simp only [Act.put, List.setIfInBounds_toArray, List.set_cons_succ, List.set_cons_zero])
      | (refine @wpList_buildTo _ _ _ _ _ _ _ rfl 36 #[] rfl _ rfl (bl fun _ => 0).toArray builtB ?_; simp only [Act.put, List.setIfInBounds_toArray, List.set_cons_succ, List.set_cons_zero])
      | (refine @wpList_eqlV _ _ _ _ _ _ _ 36 _ (.tmp 8) (.tmp 9) rfl (by kernel_rfl) (bl D).toArray (bl fun _ => 0).toArray rfl rfl (eqB 128 D fun _ => 0) guardB (eq_bl D (fun _ => 0) _) ?_; simp only [Act.put, List.setIfInBounds_toArray, List.set_cons_succ, List.set_cons_zero]))
    go_ret
    exact ⟨by rw [HV.out, HH.out, zero_eqB]; rfl, hB1⟩
  | false =>
    have HH := Lib.hid hh
    rw [hh] at HE
    clear hh
    go_enter Tryz.func52, Tryz.ntmps52
    go_wp2_with fail
    rw [← hW]
    clear hW
    have HX0 := Lib.hid (fun w' (hw' : Below W.heap.size W w') => (hw'.block w.heap.size (by omega)).trans hx0)
    have HR0 := Lib.hid (fun w' (hw' : Below W.heap.size W w') => hr0.block (hw'.block (w.heap.size + 1) (by omega)))
    clear hx0 hr0
    refine wp_region_quiet (C := fun w' => Below W.heap.size W w') (by kernel_rfl) (by kernel_rfl) ⟨rfl, rfl, rfl, Nat.le_refl _, fun _ _ => rfl⟩ ?_
    refine q_loadB 31 (.tmp 2) rfl rfl w.heap.size 0 rfl (pV p) _ (fun w' hw' => row_pt (HX0.out w' hw')) undP rfl (sizeP p) ?_
    simp only [Act.put, List.setIfInBounds_toArray, List.set_cons_succ, List.set_cons_zero]
    refine q_call 72 _ (.agg (pV hole).toArray) rfl (fun w' => by go_simp) (fun w' hw' => (refhole_any w').mono fun e w'' ⟨he, hb⟩ => ⟨he, hw'.trans (hb.mono hw'.size)⟩) ?_
    simp only [Act.put, List.setIfInBounds_toArray, List.set_cons_succ, List.set_cons_zero]
    refine q_eqlV 31 _ (.tmp 5) (.tmp 6) rfl rfl ((pV p).toArray) ((pV hole).toArray) rfl rfl false guardP (fun w' _ => HE.out w') ?_
    simp only [Act.put, List.setIfInBounds_toArray, List.set_cons_succ, List.set_cons_zero]
    refine wpQuiet_nil ?_
    intro w1 hb1
    have hs1 := hb1.size
    have hB1 := hB0.trans (hb1.mono (by omega))
    have hx1 := HX0.out w1 hb1
    have hr1 := HR0.out w1 hb1
    clear HX0 HR0
    go_wp2_with fail
    have HX := Lib.hid (fun w' (hw' : Below w1.heap.size w1 w') => rowS ((hw'.block w.heap.size (by omega)).trans hx1))
    have HRR := Lib.hid (fun w' (hw' : Below w1.heap.size w1 w') => hr1.block (hw'.block (w.heap.size + 1) (by omega)))
    clear hx1 hr1
    refine wp_region_quiet (C := fun w' => Below w1.heap.size w1 w') (by kernel_rfl) (by kernel_rfl) ⟨rfl, rfl, rfl, Nat.le_refl _, fun _ _ => rfl⟩ ?_
    refine q_val (.pointer (some ⟨w.heap.size, 2, none⟩)) rfl (fun w' hw' => by go_simp) ?_
    simp only [Act.put, List.setIfInBounds_toArray, List.set_cons_succ, List.set_cons_zero]
    refine q_loadB 29 (.tmp 11) rfl rfl w.heap.size 2 rfl ((Sha.arr 32 (Sha.vu8 p.S)).toList) _ (fun w' hw' => HX.out w' hw') undS rfl (sizeS p.S) ?_
    simp only [Act.put, List.setIfInBounds_toArray, List.set_cons_succ, List.set_cons_zero]
    refine q_val (.slice (some ⟨w.heap.size + 1, 0, none⟩) 128 128) rfl (fun w' hw' => by go_simp) ?_
    simp only [Act.put, List.setIfInBounds_toArray, List.set_cons_succ, List.set_cons_zero]
    refine q_call 77 _ (.agg (Sha.arr 32 (Sha.vu8 q))) rfl (fun w' => by go_simp) (fun w' hw' => (HSUM.out w' (w.heap.size + 1) (HRR.out w' hw') (HK.out w' (hB1.trans (hw'.mono (by omega))))).mono fun e w'' ⟨he, hb⟩ => ⟨he, hw'.trans (hb.mono hw'.size)⟩) ?_
    simp only [Act.put, List.setIfInBounds_toArray, List.set_cons_succ, List.set_cons_zero]
    refine q_eqlV 29 _ (.tmp 12) (.tmp 14) rfl rfl (Sha.arr 32 (Sha.vu8 p.S)) (Sha.arr 32 (Sha.vu8 q)) (congrArg Value.agg Array.toArray_toList) rfl (eqB 32 p.S q) guardS (fun w' _ => eq_sum p.S q w') ?_
    simp only [Act.put, List.setIfInBounds_toArray, List.set_cons_succ, List.set_cons_zero]
    refine q_val (.bool (eqB 32 p.S q)) rfl (fun w' hw' => by go_simp) ?_
    simp only [Act.put, List.setIfInBounds_toArray, List.set_cons_succ, List.set_cons_zero]
    refine wpQuiet_nil ?_
    intro w' hw'
    go_wp2_with fail
    go_ret
    exact ⟨by rw [HV.out, HH.out]; rfl, hB1.trans (hw'.mono (by omega))⟩
end Pt
end Go.Proofs.YtllejfnmbpjhaaaGreatDoor
