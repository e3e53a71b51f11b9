/- ptr: Right, and the reference's; within (made by tools/gen_pright.py). -/
import Derived.Test.YtllejfnmbpjhaaaDoorPtBase
namespace Go.Proofs.YtllejfnmbpjhaaaDoor
set_option maxRecDepth 20000
namespace Pt
open Go.RowKit Dk Eqb Byt

attribute [local irreducible] wpQuiet
set_option maxRecDepth 100000 in
set_option maxHeartbeats 2000000 in
theorem right_any (p : Pn) (w : World) : Calls Tryd.prog 77 #[.agg (pV p).toArray] w fun e w' => e = .returned (.bool (rightB p)) ∧ Below w.heap.size w w' := by
  obtain ⟨hb0, hx0, hs0⟩ := box_pt w p
  have HV : Hid (rightB p = (isHole p || (secB p.A && (p.B == -1 || (secB p.B && p.B != p.A))))) := Lib.hid rfl
  have HI := Lib.hid (fun W => ishole_any p W)
  have HA := Lib.hid (fun W => sector_any p.A W)
  have HB := Lib.hid (fun W => sector_any p.B W)
  generalize rightB p = V at HV ⊢
  generalize isHole p = h at HV HI
  generalize secB p.A = sa at HV HA
  generalize secB p.B = sb at HV HB
  cases h with
  | true =>
    go_enter Tryd.func77, Tryd.ntmps77
    go_wp2_with (refine wpList_load_mid rfl 65 (.tmp 1) rfl w.heap.size 0 rfl (pV p) _ (row_pt (heap_alloc_new w _)) undP rfl (sizeP p) ?_; simp only [Act.put, List.setIfInBounds_toArray, List.set_cons_succ, List.set_cons_zero])
    generalize w.alloc (.cells (pV p).toArray 65) = W at hb0 hx0 hs0 ⊢
    refine (HI.out _).mono ?_
    rintro _ w1 ⟨rfl, hb1⟩
    have hx1 := (hb1.block w.heap.size (by omega)).trans hx0
    have hB1 := hb0.trans (hb1.mono (by omega))
    have hs1 := hb1.size
    have cA := cA_pt hx1
    have cB := cB_pt hx1
    dsimp only
    go_wp2_with fail
    go_ret
    exact ⟨by rw [HV.out]; simp, hB1⟩
  | false =>
    cases sa with
    | false =>
      go_enter Tryd.func77, Tryd.ntmps77
      go_wp2_with (refine wpList_load_mid rfl 65 (.tmp 1) rfl w.heap.size 0 rfl (pV p) _ (row_pt (heap_alloc_new w _)) undP rfl (sizeP p) ?_; simp only [Act.put, List.setIfInBounds_toArray, List.set_cons_succ, List.set_cons_zero])
      generalize w.alloc (.cells (pV p).toArray 65) = W at hb0 hx0 hs0 ⊢
      refine (HI.out _).mono ?_
      rintro _ w1 ⟨rfl, hb1⟩
      have hx1 := (hb1.block w.heap.size (by omega)).trans hx0
      have hB1 := hb0.trans (hb1.mono (by omega))
      have hs1 := hb1.size
      have cA := cA_pt hx1
      have cB := cB_pt hx1
      dsimp only
      go_wp2_with fail
      refine (HA.out _).mono ?_
      rintro _ w2 ⟨rfl, hb2⟩
      have hB2 := hB1.trans (hb2.mono hB1.size)
      dsimp only
      go_wp2_with fail
      go_ret
      exact ⟨by rw [HV.out]; simp, hB2⟩
    | true =>
      by_cases e : p.B = -1
      · have e' : (p.B == -1) = true := by simpa using e
        go_enter Tryd.func77, Tryd.ntmps77
        go_wp2_with (refine wpList_load_mid rfl 65 (.tmp 1) rfl w.heap.size 0 rfl (pV p) _ (row_pt (heap_alloc_new w _)) undP rfl (sizeP p) ?_; simp only [Act.put, List.setIfInBounds_toArray, List.set_cons_succ, List.set_cons_zero])
        generalize w.alloc (.cells (pV p).toArray 65) = W at hb0 hx0 hs0 ⊢
        refine (HI.out _).mono ?_
        rintro _ w1 ⟨rfl, hb1⟩
        have hx1 := (hb1.block w.heap.size (by omega)).trans hx0
        have hB1 := hb0.trans (hb1.mono (by omega))
        have hs1 := hb1.size
        have cA := cA_pt hx1
        have cB := cB_pt hx1
        dsimp only
        go_wp2_with fail
        refine (HA.out _).mono ?_
        rintro _ w2 ⟨rfl, hb2⟩
        have hB2 := hB1.trans (hb2.mono hB1.size)
        have cB2 := (hb2.cell (p := ⟨w.heap.size, 1, none⟩) (show w.heap.size < w1.heap.size by omega)).trans cB
        clear cA cB hx1 hx0
        dsimp only
        go_wp2_with fail
        go_ret
        exact ⟨by rw [HV.out]; simp [e'], hB2⟩
      · have e' : (p.B == -1) = false := by simpa using e
        cases sb with
        | false =>
          go_enter Tryd.func77, Tryd.ntmps77
          go_wp2_with (refine wpList_load_mid rfl 65 (.tmp 1) rfl w.heap.size 0 rfl (pV p) _ (row_pt (heap_alloc_new w _)) undP rfl (sizeP p) ?_; simp only [Act.put, List.setIfInBounds_toArray, List.set_cons_succ, List.set_cons_zero])
          generalize w.alloc (.cells (pV p).toArray 65) = W at hb0 hx0 hs0 ⊢
          refine (HI.out _).mono ?_
          rintro _ w1 ⟨rfl, hb1⟩
          have hx1 := (hb1.block w.heap.size (by omega)).trans hx0
          have hB1 := hb0.trans (hb1.mono (by omega))
          have hs1 := hb1.size
          have cA := cA_pt hx1
          have cB := cB_pt hx1
          dsimp only
          go_wp2_with fail
          refine (HA.out _).mono ?_
          rintro _ w2 ⟨rfl, hb2⟩
          have hB2 := hB1.trans (hb2.mono hB1.size)
          have hs2 := hb2.size
          have cA2 := (hb2.cell (p := ⟨w.heap.size, 0, none⟩) (show w.heap.size < w1.heap.size by omega)).trans cA
          have cB2 := (hb2.cell (p := ⟨w.heap.size, 1, none⟩) (show w.heap.size < w1.heap.size by omega)).trans cB
          clear cA cB hx1 hx0
          dsimp only
          go_wp2_with fail
          refine (HB.out _).mono ?_
          rintro _ w3 ⟨rfl, hb3⟩
          have hB3 := hB2.trans (hb3.mono hB2.size)
          have cA3 := (hb3.cell (p := ⟨w.heap.size, 0, none⟩) (show w.heap.size < w2.heap.size by omega)).trans cA2
          have cB3 := (hb3.cell (p := ⟨w.heap.size, 1, none⟩) (show w.heap.size < w2.heap.size by omega)).trans cB2
          clear cA2 cB2
          dsimp only
          go_wp2_with fail
          go_ret
          exact ⟨by rw [HV.out]; simp [e'], hB3⟩
        | true =>
          go_enter Tryd.func77, Tryd.ntmps77
          go_wp2_with (refine wpList_load_mid rfl 65 (.tmp 1) rfl w.heap.size 0 rfl (pV p) _ (row_pt (heap_alloc_new w _)) undP rfl (sizeP p) ?_; simp only [Act.put, List.setIfInBounds_toArray, List.set_cons_succ, List.set_cons_zero])
          generalize w.alloc (.cells (pV p).toArray 65) = W at hb0 hx0 hs0 ⊢
          refine (HI.out _).mono ?_
          rintro _ w1 ⟨rfl, hb1⟩
          have hx1 := (hb1.block w.heap.size (by omega)).trans hx0
          have hB1 := hb0.trans (hb1.mono (by omega))
          have hs1 := hb1.size
          have cA := cA_pt hx1
          have cB := cB_pt hx1
          dsimp only
          go_wp2_with fail
          refine (HA.out _).mono ?_
          rintro _ w2 ⟨rfl, hb2⟩
          have hB2 := hB1.trans (hb2.mono hB1.size)
          have hs2 := hb2.size
          have cA2 := (hb2.cell (p := ⟨w.heap.size, 0, none⟩) (show w.heap.size < w1.heap.size by omega)).trans cA
          have cB2 := (hb2.cell (p := ⟨w.heap.size, 1, none⟩) (show w.heap.size < w1.heap.size by omega)).trans cB
          clear cA cB hx1 hx0
          dsimp only
          go_wp2_with fail
          refine (HB.out _).mono ?_
          rintro _ w3 ⟨rfl, hb3⟩
          have hB3 := hB2.trans (hb3.mono hB2.size)
          have cA3 := (hb3.cell (p := ⟨w.heap.size, 0, none⟩) (show w.heap.size < w2.heap.size by omega)).trans cA2
          have cB3 := (hb3.cell (p := ⟨w.heap.size, 1, none⟩) (show w.heap.size < w2.heap.size by omega)).trans cB2
          clear cA2 cB2
          dsimp only
          go_wp2_with fail
          go_ret
          exact ⟨by rw [HV.out]; simp [e'], hB3⟩

end Pt
end Go.Proofs.YtllejfnmbpjhaaaDoor
