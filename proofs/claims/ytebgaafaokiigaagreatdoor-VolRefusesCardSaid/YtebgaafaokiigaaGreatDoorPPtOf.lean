import Derived.Test.YtebgaafaokiigaaGreatDoorPJPt
/- ptr: Of, and the reference's (made by tools/gen_pof.py). -/
namespace Go.Proofs.YtebgaafaokiigaaGreatDoor
set_option maxRecDepth 20000
namespace Pt
open Go.RowKit Dk Eqb Byt

attribute [local go_sem] zvP
set_option maxRecDepth 100000 in
set_option maxHeartbeats 2000000 in
theorem of_any (D : Nat → Int) (a c : Int) (w : World) (hD : Bytes D) (hk : Kp w) :
    Calls Tryz.prog 99 #[.agg (bl D).toArray, .int .i64 a, .int .i64 c] w fun e w' => e = .returned (.tuple #[.agg (pV (ofV D a c)).toArray, .int .i64 (ofE D a c)]) ∧ Below w.heap.size w w' := by
  have HSUM := Lib.hid (fun (W : World) (g : Nat) (hr : Row W g 0 128 D) (hk : Kp W) => sum_row hr hD hk)
  have HV : Hid (ofV D a c = if isHole ⟨a, c, sumD D⟩ = false ∧ rightB ⟨a, c, sumD D⟩ = true then ⟨a, c, sumD D⟩ else pz) := Lib.hid rfl
  have HE : Hid (ofE D a c = if isHole ⟨a, c, sumD D⟩ = false ∧ rightB ⟨a, c, sumD D⟩ = true then 0 else 1) := Lib.hid rfl
  have HK := Lib.hid (fun W (hb : Below w.heap.size w W) => hk.below hb)
  generalize ofV D a c = V at HV ⊢
  generalize ofE D a c = E at HE ⊢
  generalize sumD D = q at *
  have HI := Lib.hid (fun W => ishole_any ⟨a, c, q⟩ W)
  have HR := Lib.hid (fun W => right_any ⟨a, c, q⟩ W)
  generalize isHole ⟨a, c, q⟩ = h at *
  generalize rightB ⟨a, c, q⟩ = r at *
  clear hD hk
  obtain ⟨W, hW, hB0, hs0, hr0, hx0⟩ := box_two w D pz
  cases h with
  | true =>
    go_enter Tryz.func99, Tryz.ntmps99
    go_wp2_with fail
    rw [zrow, ← hW]
    clear hW
    refine (HSUM.out W w.heap.size hr0 (HK.out W hB0)).mono ?_
    rintro _ w1 ⟨rfl, hb1⟩
    have hs1 := hb1.size
    have hB1 := hB0.trans (hb1.mono (by omega))
    have hx1 := (hb1.block (w.heap.size + 1) (by omega)).trans hx0
    have hb2 : Below w1.heap.size w1 (w1.alloc (.cells (pV ⟨a, c, q⟩).toArray 37)) := (Below.refl _ _).alloc (Nat.le_refl _) _
    have hx2 := (hb2.block (w.heap.size + 1) (by omega)).trans hx1
    have hz2 : (w1.alloc (.cells (pV ⟨a, c, q⟩).toArray 37)).heap[w1.heap.size]? = some (.cells (pV ⟨a, c, q⟩).toArray 37 (0, 0)) := heap_alloc_new _ _
    have hs2 : (w1.alloc (.cells (pV ⟨a, c, q⟩).toArray 37)).heap.size = w1.heap.size + 1 := by simp
    have hB2 := hB1.trans (hb2.mono (by omega))
    clear hb1 hx0 hr0 hb2 hx1
    dsimp only
    go_wp2_with (first
      | (refine @wpList_buildTo _ _ _ _ _ _ _ rfl 37 #[(0, .tmp 9), (1, .tmp 10), (2, .tmp 12)] rfl _ rfl (pV ⟨a, c, q⟩).toArray (by kernel_rfl) ?_; simp only [Act.put, List.setIfInBounds_toArray, List.set_cons_succ, List.set_cons_zero])
      | (refine @wpList_store_row _ _ _ _ _ _ _ rfl 37 (.tmp 8) (.tmp 13) rfl w1.heap.size (pV ⟨a, c, q⟩).toArray rfl rfl 37 _ (heap_alloc_new w1 _) (sizeP' _) rfl (pV_all _) ?_; rw [World.setRow_alloc_new]; simp only [Act.put])
      | (refine @wpList_loadG _ _ _ _ _ _ _ (by kernel_rfl) 37 (.tmp 8) rfl w1.heap.size 0 rfl (pV ⟨a, c, q⟩) _ (row_pt (heap_alloc_new w1 _)) undP rfl (sizeP _) ?_; simp only [Act.put, List.setIfInBounds_toArray, List.set_cons_succ, List.set_cons_zero]))
    generalize w1.alloc (.cells (pV ⟨a, c, q⟩).toArray 37) = W2 at hx2 hz2 hs2 hB2 ⊢
    refine (HI.out W2).mono ?_
    rintro _ w3 ⟨rfl, hb3⟩
    have hx3 := (hb3.block (w.heap.size + 1) (by omega)).trans hx2
    have hB3 := hB2.trans (hb3.mono (by omega))
    clear hx2 hz2
    dsimp only
    go_wp2_with (first
      | (refine @wpList_buildTo _ _ _ _ _ _ _ rfl 37 #[] rfl _ rfl (pV pz).toArray builtZ ?_; simp only [Act.put, List.setIfInBounds_toArray, List.set_cons_succ, List.set_cons_zero])
      | (refine @wpList_store_row _ _ _ _ _ _ _ rfl 37 (.tmp 6) (.tmp 21) rfl (w.heap.size + 1) (pV pz).toArray rfl rfl 37 _ (hx3) (sizeP' _) rfl (pV_all _) ?_; simp only [Act.put]))
    have hr9 := setRow_heap w3 (w.heap.size + 1) _ (pV pz).toArray 37 (0, 0) hx3
    refine bodyPost_ret (results_2p rfl rfl rfl hr9) rfl ?_
    exact ⟨by rw [HV.out, HE.out]; simp, hB3.trans ⟨rfl, rfl, rfl, by simp, fun k hk => setRow_other w3 _ k _ (by omega)⟩⟩
  | false =>
    cases r with
    | false =>
      go_enter Tryz.func99, Tryz.ntmps99
      go_wp2_with fail
      rw [zrow, ← hW]
      clear hW
      refine (HSUM.out W w.heap.size hr0 (HK.out W hB0)).mono ?_
      rintro _ w1 ⟨rfl, hb1⟩
      have hs1 := hb1.size
      have hB1 := hB0.trans (hb1.mono (by omega))
      have hx1 := (hb1.block (w.heap.size + 1) (by omega)).trans hx0
      have hb2 : Below w1.heap.size w1 (w1.alloc (.cells (pV ⟨a, c, q⟩).toArray 37)) := (Below.refl _ _).alloc (Nat.le_refl _) _
      have hx2 := (hb2.block (w.heap.size + 1) (by omega)).trans hx1
      have hz2 : (w1.alloc (.cells (pV ⟨a, c, q⟩).toArray 37)).heap[w1.heap.size]? = some (.cells (pV ⟨a, c, q⟩).toArray 37 (0, 0)) := heap_alloc_new _ _
      have hs2 : (w1.alloc (.cells (pV ⟨a, c, q⟩).toArray 37)).heap.size = w1.heap.size + 1 := by simp
      have hB2 := hB1.trans (hb2.mono (by omega))
      clear hb1 hx0 hr0 hb2 hx1
      dsimp only
      go_wp2_with (first
        | (refine @wpList_buildTo _ _ _ _ _ _ _ rfl 37 #[(0, .tmp 9), (1, .tmp 10), (2, .tmp 12)] rfl _ rfl (pV ⟨a, c, q⟩).toArray (by kernel_rfl) ?_; simp only [Act.put, List.setIfInBounds_toArray, List.set_cons_succ, List.set_cons_zero])
        | (refine @wpList_store_row _ _ _ _ _ _ _ rfl 37 (.tmp 8) (.tmp 13) rfl w1.heap.size (pV ⟨a, c, q⟩).toArray rfl rfl 37 _ (heap_alloc_new w1 _) (sizeP' _) rfl (pV_all _) ?_; rw [World.setRow_alloc_new]; simp only [Act.put])
        | (refine @wpList_loadG _ _ _ _ _ _ _ (by kernel_rfl) 37 (.tmp 8) rfl w1.heap.size 0 rfl (pV ⟨a, c, q⟩) _ (row_pt (heap_alloc_new w1 _)) undP rfl (sizeP _) ?_; simp only [Act.put, List.setIfInBounds_toArray, List.set_cons_succ, List.set_cons_zero]))
      generalize w1.alloc (.cells (pV ⟨a, c, q⟩).toArray 37) = W2 at hx2 hz2 hs2 hB2 ⊢
      refine (HI.out W2).mono ?_
      rintro _ w3 ⟨rfl, hb3⟩
      have hx3 := (hb3.block (w.heap.size + 1) (by omega)).trans hx2
      have hz3 := (hb3.block w1.heap.size (by omega)).trans hz2
      have hB3 := hB2.trans (hb3.mono (by omega))
      have hs3 := hb3.size
      clear hx2 hz2
      dsimp only
      go_wp2_with (refine @wpList_loadG _ _ _ _ _ _ _ (by kernel_rfl) 37 (.tmp 8) rfl w1.heap.size 0 rfl (pV ⟨a, c, q⟩) _ (row_pt (hz3)) undP rfl (sizeP _) ?_; simp only [Act.put, List.setIfInBounds_toArray, List.set_cons_succ, List.set_cons_zero])
      refine (HR.out w3).mono ?_
      rintro _ w4 ⟨rfl, hb4⟩
      have hx4 := (hb4.block (w.heap.size + 1) (by omega)).trans hx3
      have hz4 := (hb4.block w1.heap.size (by omega)).trans hz3
      have hB4 := hB3.trans (hb4.mono (by omega))
      clear hx3 hz3
      dsimp only
      go_wp2_with (first
        | (refine @wpList_buildTo _ _ _ _ _ _ _ rfl 37 #[] rfl _ rfl (pV pz).toArray builtZ ?_; simp only [Act.put, List.setIfInBounds_toArray, List.set_cons_succ, List.set_cons_zero])
        | (refine @wpList_store_row _ _ _ _ _ _ _ rfl 37 (.tmp 6) (.tmp 21) rfl (w.heap.size + 1) (pV pz).toArray rfl rfl 37 _ (hx4) (sizeP' _) rfl (pV_all _) ?_; simp only [Act.put]))
      have hr9 := setRow_heap w4 (w.heap.size + 1) _ (pV pz).toArray 37 (0, 0) hx4
      refine bodyPost_ret (results_2p rfl rfl rfl hr9) rfl ?_
      exact ⟨by rw [HV.out, HE.out]; simp, hB4.trans ⟨rfl, rfl, rfl, by simp, fun k hk => setRow_other w4 _ k _ (by omega)⟩⟩
    | true =>
      go_enter Tryz.func99, Tryz.ntmps99
      go_wp2_with fail
      rw [zrow, ← hW]
      clear hW
      refine (HSUM.out W w.heap.size hr0 (HK.out W hB0)).mono ?_
      rintro _ w1 ⟨rfl, hb1⟩
      have hs1 := hb1.size
      have hB1 := hB0.trans (hb1.mono (by omega))
      have hx1 := (hb1.block (w.heap.size + 1) (by omega)).trans hx0
      have hb2 : Below w1.heap.size w1 (w1.alloc (.cells (pV ⟨a, c, q⟩).toArray 37)) := (Below.refl _ _).alloc (Nat.le_refl _) _
      have hx2 := (hb2.block (w.heap.size + 1) (by omega)).trans hx1
      have hz2 : (w1.alloc (.cells (pV ⟨a, c, q⟩).toArray 37)).heap[w1.heap.size]? = some (.cells (pV ⟨a, c, q⟩).toArray 37 (0, 0)) := heap_alloc_new _ _
      have hs2 : (w1.alloc (.cells (pV ⟨a, c, q⟩).toArray 37)).heap.size = w1.heap.size + 1 := by simp
      have hB2 := hB1.trans (hb2.mono (by omega))
      clear hb1 hx0 hr0 hb2 hx1
      dsimp only
      go_wp2_with (first
        | (refine @wpList_buildTo _ _ _ _ _ _ _ rfl 37 #[(0, .tmp 9), (1, .tmp 10), (2, .tmp 12)] rfl _ rfl (pV ⟨a, c, q⟩).toArray (by kernel_rfl) ?_; simp only [Act.put, List.setIfInBounds_toArray, List.set_cons_succ, List.set_cons_zero])
        | (refine @wpList_store_row _ _ _ _ _ _ _ rfl 37 (.tmp 8) (.tmp 13) rfl w1.heap.size (pV ⟨a, c, q⟩).toArray rfl rfl 37 _ (heap_alloc_new w1 _) (sizeP' _) rfl (pV_all _) ?_; rw [World.setRow_alloc_new]; simp only [Act.put])
        | (refine @wpList_loadG _ _ _ _ _ _ _ (by kernel_rfl) 37 (.tmp 8) rfl w1.heap.size 0 rfl (pV ⟨a, c, q⟩) _ (row_pt (heap_alloc_new w1 _)) undP rfl (sizeP _) ?_; simp only [Act.put, List.setIfInBounds_toArray, List.set_cons_succ, List.set_cons_zero]))
      generalize w1.alloc (.cells (pV ⟨a, c, q⟩).toArray 37) = W2 at hx2 hz2 hs2 hB2 ⊢
      refine (HI.out W2).mono ?_
      rintro _ w3 ⟨rfl, hb3⟩
      have hx3 := (hb3.block (w.heap.size + 1) (by omega)).trans hx2
      have hz3 := (hb3.block w1.heap.size (by omega)).trans hz2
      have hB3 := hB2.trans (hb3.mono (by omega))
      have hs3 := hb3.size
      clear hx2 hz2
      dsimp only
      go_wp2_with (refine @wpList_loadG _ _ _ _ _ _ _ (by kernel_rfl) 37 (.tmp 8) rfl w1.heap.size 0 rfl (pV ⟨a, c, q⟩) _ (row_pt (hz3)) undP rfl (sizeP _) ?_; simp only [Act.put, List.setIfInBounds_toArray, List.set_cons_succ, List.set_cons_zero])
      refine (HR.out w3).mono ?_
      rintro _ w4 ⟨rfl, hb4⟩
      have hx4 := (hb4.block (w.heap.size + 1) (by omega)).trans hx3
      have hz4 := (hb4.block w1.heap.size (by omega)).trans hz3
      have hB4 := hB3.trans (hb4.mono (by omega))
      clear hx3 hz3
      dsimp only
      go_wp2_with (first
        | (refine @wpList_loadG _ _ _ _ _ _ _ (by kernel_rfl) 37 (.tmp 8) rfl w1.heap.size 0 rfl (pV ⟨a, c, q⟩) _ (row_pt (hz4)) undP rfl (sizeP _) ?_; simp only [Act.put, List.setIfInBounds_toArray, List.set_cons_succ, List.set_cons_zero])
        | (refine @wpList_store_row _ _ _ _ _ _ _ rfl 37 (.tmp 6) (.tmp 22) rfl (w.heap.size + 1) (pV ⟨a, c, q⟩).toArray rfl rfl 37 _ (hx4) (sizeP' _) rfl (pV_all _) ?_; simp only [Act.put]))
      have hr9 := setRow_heap w4 (w.heap.size + 1) _ (pV ⟨a, c, q⟩).toArray 37 (0, 0) hx4
      refine bodyPost_ret (results_2p rfl rfl rfl hr9) rfl ?_
      exact ⟨by rw [HV.out, HE.out]; simp, hB4.trans ⟨rfl, rfl, rfl, by simp, fun k hk => setRow_other w4 _ k _ (by omega)⟩⟩

end Pt
end Go.Proofs.YtebgaafaokiigaaGreatDoor
