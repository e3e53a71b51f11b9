/- ptr: the fixed fact, walked. -/
import Derived.Test.YtllejfnmbpjhaaaDoorPtOf
import Derived.Test.YtllejfnmbpjhaaaDoorPtFits
import Derived.Test.YtllejfnmbpjhaaaDoorPtNums
namespace Go.Proofs.YtllejfnmbpjhaaaDoor
set_option maxRecDepth 20000
namespace Pt
open Go.RowKit Dk Eqb Byt

attribute [local go_sem] zvP
theorem hole7 (c : Int) (q : Nat → Int) : isHole ⟨7, c, q⟩ = false := by simp [isHole, eqP, hole]
theorem right7 (q : Nat → Int) : rightB ⟨7, -1, q⟩ = true := by simp [rightB, secB]
theorem of7V : ofV Sha.oneB 7 (-1) = ⟨7, -1, sumD Sha.oneB⟩ := by
  unfold ofV
  rw [if_pos ⟨hole7 _ _, right7 _⟩]
theorem of7E : ofE Sha.oneB 7 (-1) = 0 := by
  unfold ofE
  rw [if_pos ⟨hole7 _ _, right7 _⟩]
theorem fits71 : fitsB ⟨7, -1, sumD Sha.oneB⟩ Sha.oneB = true := by
  unfold fitsB
  rw [hole7]
  exact eqB_same 32 _
theorem fits72 : fitsB ⟨7, -1, sumD Sha.oneB⟩ Sha.twoB = false := by
  unfold fitsB
  rw [hole7]
  exact one_two
theorem hole_hole : isHole hole = true := eqP_same _

set_option maxRecDepth 100000 in
set_option maxHeartbeats 1000000 in
theorem alive5_any (w : World) (hk : Kp w) : Calls Tryd.prog 28 #[] w fun e w' => e = .returned (.bool true) ∧ Below w.heap.size w w' := by
  have HK := Lib.hid (fun W (hb : Below w.heap.size w W) => hk.below hb)
  have HO := Lib.hid (of_any Sha.oneB 7 (-1) w Sha.oneB_bytes hk)
  rw [of7V, of7E] at HO
  have HF1 := Lib.hid (fun W (hk : Kp W) => fits_any ⟨7, -1, sumD Sha.oneB⟩ Sha.oneB W Sha.oneB_bytes hk)
  have HF2 := Lib.hid (fun W (hk : Kp W) => fits_any ⟨7, -1, sumD Sha.oneB⟩ Sha.twoB W Sha.twoB_bytes hk)
  rw [fits71] at HF1
  rw [fits72] at HF2
  have HI := Lib.hid (fun W => ishole_any hole W)
  rw [hole_hole] at HI
  generalize sumD Sha.oneB = q at *
  clear hk
  go_enter Tryd.func28, Tryd.ntmps28
  go_wp2_with (refine @wpList_buildG _ _ _ _ _ _ _ (by kernel_rfl) 22 #[(0, .const (.int .u8 1))] rfl (bl Sha.oneB).toArray (by kernel_rfl) ?_; simp only [Act.put, List.setIfInBounds_toArray, List.set_cons_succ, List.set_cons_zero])
  refine HO.out.mono ?_
  rintro _ w1 ⟨rfl, hb1⟩
  have hs1 := hb1.size
  have hb2 : Below w1.heap.size w1 (w1.alloc (.cells (pV ⟨7, -1, q⟩).toArray 65)) := (Below.refl _ _).alloc (Nat.le_refl _) _
  have hx2 : (w1.alloc (.cells (pV ⟨7, -1, q⟩).toArray 65)).heap[w1.heap.size]? = some (.cells (pV ⟨7, -1, q⟩).toArray 65 (0, 0)) := heap_alloc_new _ _
  have hs2 : (w1.alloc (.cells (pV ⟨7, -1, q⟩).toArray 65)).heap.size = w1.heap.size + 1 := by simp
  have hB2 := hb1.trans (hb2.mono hs1)
  have cA := cA_pt hx2
  have cB := cB_pt hx2
  clear hb1 hb2
  dsimp only
  go_wp2_with (first
    | (refine @wpList_store_row _ _ _ _ _ _ _ rfl 65 (.tmp 1) (.tmp 6) rfl w1.heap.size (pV ⟨7, -1, q⟩).toArray rfl rfl 65 _ (heap_alloc_new w1 _) (sizeP' _) rfl (pV_all _) ?_; rw [World.setRow_alloc_new]; simp only [Act.put])
    | (refine @wpList_loadG _ _ _ _ _ _ _ (by kernel_rfl) 65 (.tmp 1) rfl w1.heap.size 0 rfl (pV ⟨7, -1, q⟩) _ (row_pt (heap_alloc_new w1 _)) undP rfl (sizeP _) ?_; simp only [Act.put, List.setIfInBounds_toArray, List.set_cons_succ, List.set_cons_zero])
    | (refine @wpList_buildG _ _ _ _ _ _ _ (by kernel_rfl) 22 #[(0, .const (.int .u8 1))] rfl (bl Sha.oneB).toArray (by kernel_rfl) ?_; simp only [Act.put, List.setIfInBounds_toArray, List.set_cons_succ, List.set_cons_zero]))
  generalize w1.alloc (.cells (pV ⟨7, -1, q⟩).toArray 65) = W2 at hx2 hs2 hB2 ⊢
  refine (HF1.out W2 (HK.out W2 hB2)).mono ?_
  rintro _ w3 ⟨rfl, hb3⟩
  have hs3 := hb3.size
  have hx3 := (hb3.block w1.heap.size (by omega)).trans hx2
  have hB3 := hB2.trans (hb3.mono (by omega))
  clear hx2 hb3 cA cB
  dsimp only
  go_wp2_with (first
    | (refine @wpList_loadG _ _ _ _ _ _ _ (by kernel_rfl) 65 (.tmp 1) rfl w1.heap.size 0 rfl (pV ⟨7, -1, q⟩) _ (row_pt hx3) undP rfl (sizeP _) ?_; simp only [Act.put, List.setIfInBounds_toArray, List.set_cons_succ, List.set_cons_zero])
    | (refine @wpList_buildG _ _ _ _ _ _ _ (by kernel_rfl) 22 #[(0, .const (.int .u8 2))] rfl (bl Sha.twoB).toArray (by kernel_rfl) ?_; simp only [Act.put, List.setIfInBounds_toArray, List.set_cons_succ, List.set_cons_zero]))
  refine (HF2.out w3 (HK.out w3 hB3)).mono ?_
  rintro _ w4 ⟨rfl, hb4⟩
  have hB4 := hB3.trans (hb4.mono (by omega))
  clear hx3 hb4
  dsimp only
  go_wp2_with fail
  refine (hole_any w4).mono ?_
  rintro _ w5 ⟨rfl, hb5⟩
  have hB5 := hB4.trans (hb5.mono hB4.size)
  dsimp only
  go_wp2_with fail
  refine (HI.out w5).mono ?_
  rintro _ w6 ⟨rfl, hb6⟩
  have hB6 := hB5.trans (hb6.mono hB5.size)
  dsimp only
  go_wp2_with fail
  go_ret
  exact ⟨rfl, hB6⟩
end Pt
end Go.Proofs.YtllejfnmbpjhaaaDoor
