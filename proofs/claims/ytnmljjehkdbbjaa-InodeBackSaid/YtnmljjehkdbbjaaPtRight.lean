/- ptr: Right, and the reference's; within (made by tools/gen_pright.py). -/
import Derived.Test.YtnmljjehkdbbjaaPtBase
namespace Go.Proofs.Ytnmljjehkdbbjaa
set_option maxRecDepth 20000
namespace Pt
open Go.RowKit Dk Eqb Byt

attribute [local irreducible] wpQuiet
set_option maxRecDepth 100000 in
set_option maxHeartbeats 2000000 in
theorem right_any (p : Pn) (w : World) : Calls Try.prog 36 #[.agg (pV p).toArray] w fun e w' => e = .returned (.bool (rightB p)) ∧ Below w.heap.size w w' := by
  obtain ⟨hb0, hx0, hs0⟩ := box_pt w p
  have HV : Hid (rightB p = (isHole p || (secB p.A && (p.B == -1 || (secB p.B && p.B != p.A))))) := Lib.hid rfl
  have HI := Lib.hid (fun W => ishole_any p W)
  have HA := Lib.hid (fun W => sector_any p.A W)
  have HB := Lib.hid (fun W => sector_any p.B W)
  generalize rightB p = V at HV ⊢
  generalize isHole p = h at HV HI
  generalize secB p.A = sa at HV HA
  generalize secB p.B = sb at HV HB
  cases h with
  | true =>
    go_enter Try.func36, Try.ntmps36
    go_wp2_with (refine wpList_load_mid rfl 24 (.tmp 1) rfl w.heap.size 0 rfl (pV p) _ (row_pt (heap_alloc_new w _)) undP rfl (sizeP p) ?_; simp only [Act.put, List.setIfInBounds_toArray, List.set_cons_succ, List.set_cons_zero])
    generalize w.alloc (.cells (pV p).toArray 24) = W at hb0 hx0 hs0 ⊢
    refine (HI.out _).mono ?_
    rintro _ w1 ⟨rfl, hb1⟩
    have hx1 := (hb1.block w.heap.size (by omega)).trans hx0
    have hB1 := hb0.trans (hb1.mono (by omega))
    have hs1 := hb1.size
    have cA := cA_pt hx1
    have cB := cB_pt hx1
    dsimp only
    go_wp2_with fail
    go_ret
    exact ⟨by rw [HV.out]; simp, hB1⟩
  | false =>
    cases sa with
    | false =>
      go_enter Try.func36, Try.ntmps36
      go_wp2_with (refine wpList_load_mid rfl 24 (.tmp 1) rfl w.heap.size 0 rfl (pV p) _ (row_pt (heap_alloc_new w _)) undP rfl (sizeP p) ?_; simp only [Act.put, List.setIfInBounds_toArray, List.set_cons_succ, List.set_cons_zero])
      generalize w.alloc (.cells (pV p).toArray 24) = W at hb0 hx0 hs0 ⊢
      refine (HI.out _).mono ?_
      rintro _ w1 ⟨rfl, hb1⟩
      have hx1 := (hb1.block w.heap.size (by omega)).trans hx0
      have hB1 := hb0.trans (hb1.mono (by omega))
      have hs1 := hb1.size
      have cA := cA_pt hx1
      have cB := cB_pt hx1
      dsimp only
      go_wp2_with fail
      refine (HA.out _).mono ?_
      rintro _ w2 ⟨rfl, hb2⟩
      have hB2 := hB1.trans (hb2.mono hB1.size)
      dsimp only
      go_wp2_with fail
      go_ret
      exact ⟨by rw [HV.out]; simp, hB2⟩
    | true =>
      by_cases e : p.B = -1
      · have e' : (p.B == -1) = true := by simpa using e
        go_enter Try.func36, Try.ntmps36
        go_wp2_with (refine wpList_load_mid rfl 24 (.tmp 1) rfl w.heap.size 0 rfl (pV p) _ (row_pt (heap_alloc_new w _)) undP rfl (sizeP p) ?_; simp only [Act.put, List.setIfInBounds_toArray, List.set_cons_succ, List.set_cons_zero])
        generalize w.alloc (.cells (pV p).toArray 24) = W at hb0 hx0 hs0 ⊢
        refine (HI.out _).mono ?_
        rintro _ w1 ⟨rfl, hb1⟩
        have hx1 := (hb1.block w.heap.size (by omega)).trans hx0
        have hB1 := hb0.trans (hb1.mono (by omega))
        have hs1 := hb1.size
        have cA := cA_pt hx1
        have cB := cB_pt hx1
        dsimp only
        go_wp2_with fail
        refine (HA.out _).mono ?_
        rintro _ w2 ⟨rfl, hb2⟩
        have hB2 := hB1.trans (hb2.mono hB1.size)
        have cB2 := (hb2.cell (p := ⟨w.heap.size, 1, none⟩) (show w.heap.size < w1.heap.size by omega)).trans cB
        clear cA cB hx1 hx0
        dsimp only
        go_wp2_with fail
        go_ret
        exact ⟨by rw [HV.out]; simp [e'], hB2⟩
      · have e' : (p.B == -1) = false := by simpa using e
        cases sb with
        | false =>
          go_enter Try.func36, Try.ntmps36
          go_wp2_with (refine wpList_load_mid rfl 24 (.tmp 1) rfl w.heap.size 0 rfl (pV p) _ (row_pt (heap_alloc_new w _)) undP rfl (sizeP p) ?_; simp only [Act.put, List.setIfInBounds_toArray, List.set_cons_succ, List.set_cons_zero])
          generalize w.alloc (.cells (pV p).toArray 24) = W at hb0 hx0 hs0 ⊢
          refine (HI.out _).mono ?_
          rintro _ w1 ⟨rfl, hb1⟩
          have hx1 := (hb1.block w.heap.size (by omega)).trans hx0
          have hB1 := hb0.trans (hb1.mono (by omega))
          have hs1 := hb1.size
          have cA := cA_pt hx1
          have cB := cB_pt hx1
          dsimp only
          go_wp2_with fail
          refine (HA.out _).mono ?_
          rintro _ w2 ⟨rfl, hb2⟩
          have hB2 := hB1.trans (hb2.mono hB1.size)
          have hs2 := hb2.size
          have cA2 := (hb2.cell (p := ⟨w.heap.size, 0, none⟩) (show w.heap.size < w1.heap.size by omega)).trans cA
          have cB2 := (hb2.cell (p := ⟨w.heap.size, 1, none⟩) (show w.heap.size < w1.heap.size by omega)).trans cB
          clear cA cB hx1 hx0
          dsimp only
          go_wp2_with fail
          refine (HB.out _).mono ?_
          rintro _ w3 ⟨rfl, hb3⟩
          have hB3 := hB2.trans (hb3.mono hB2.size)
          have cA3 := (hb3.cell (p := ⟨w.heap.size, 0, none⟩) (show w.heap.size < w2.heap.size by omega)).trans cA2
          have cB3 := (hb3.cell (p := ⟨w.heap.size, 1, none⟩) (show w.heap.size < w2.heap.size by omega)).trans cB2
          clear cA2 cB2
          dsimp only
          go_wp2_with fail
          go_ret
          exact ⟨by rw [HV.out]; simp [e'], hB3⟩
        | true =>
          go_enter Try.func36, Try.ntmps36
          go_wp2_with (refine wpList_load_mid rfl 24 (.tmp 1) rfl w.heap.size 0 rfl (pV p) _ (row_pt (heap_alloc_new w _)) undP rfl (sizeP p) ?_; simp only [Act.put, List.setIfInBounds_toArray, List.set_cons_succ, List.set_cons_zero])
          generalize w.alloc (.cells (pV p).toArray 24) = W at hb0 hx0 hs0 ⊢
          refine (HI.out _).mono ?_
          rintro _ w1 ⟨rfl, hb1⟩
          have hx1 := (hb1.block w.heap.size (by omega)).trans hx0
          have hB1 := hb0.trans (hb1.mono (by omega))
          have hs1 := hb1.size
          have cA := cA_pt hx1
          have cB := cB_pt hx1
          dsimp only
          go_wp2_with fail
          refine (HA.out _).mono ?_
          rintro _ w2 ⟨rfl, hb2⟩
          have hB2 := hB1.trans (hb2.mono hB1.size)
          have hs2 := hb2.size
          have cA2 := (hb2.cell (p := ⟨w.heap.size, 0, none⟩) (show w.heap.size < w1.heap.size by omega)).trans cA
          have cB2 := (hb2.cell (p := ⟨w.heap.size, 1, none⟩) (show w.heap.size < w1.heap.size by omega)).trans cB
          clear cA cB hx1 hx0
          dsimp only
          go_wp2_with fail
          refine (HB.out _).mono ?_
          rintro _ w3 ⟨rfl, hb3⟩
          have hB3 := hB2.trans (hb3.mono hB2.size)
          have cA3 := (hb3.cell (p := ⟨w.heap.size, 0, none⟩) (show w.heap.size < w2.heap.size by omega)).trans cA2
          have cB3 := (hb3.cell (p := ⟨w.heap.size, 1, none⟩) (show w.heap.size < w2.heap.size by omega)).trans cB2
          clear cA2 cB2
          dsimp only
          go_wp2_with fail
          go_ret
          exact ⟨by rw [HV.out]; simp [e'], hB3⟩

set_option maxRecDepth 100000 in
set_option maxHeartbeats 2000000 in
theorem refright_any (p : Pn) (w : World) : Calls Try.prog 35 #[.agg (pV p).toArray] w fun e w' => e = .returned (.bool (rightB p)) ∧ Below w.heap.size w w' := by
  obtain ⟨hb0, hx0, hs0⟩ := box_pt w p
  have HV : Hid (rightB p = (isHole p || (secB p.A && (p.B == -1 || (secB p.B && p.B != p.A))))) := Lib.hid rfl
  have HE := Lib.hid (fun W => eq_pt p hole W)
  rw [show eqP p hole = isHole p from rfl] at HE
  have HA := Lib.hid (fun W => refsector_any p.A W)
  have HB := Lib.hid (fun W => refsector_any p.B W)
  generalize rightB p = V at HV ⊢
  generalize isHole p = h at HV HE
  generalize secB p.A = sa at HV HA
  generalize secB p.B = sb at HV HB
  go_enter Try.func35, Try.ntmps35
  go_wp2_with fail
  generalize w.alloc (.cells (pV p).toArray 24) = W at hb0 hx0 hs0 ⊢
  have HX := Lib.hid (fun w' (hw' : Below W.heap.size W w') => (hw'.block w.heap.size (by omega)).trans hx0)
  clear hx0
  refine wp_region_quiet (C := fun w' => Below W.heap.size W w') (by kernel_rfl) (by kernel_rfl) ⟨rfl, rfl, rfl, Nat.le_refl _, fun _ _ => rfl⟩ ?_
  cases h with
  | true =>
    refine q_loadB 24 (.tmp 1) rfl rfl w.heap.size 0 rfl (pV p) _ (fun w' hw' => row_pt (HX.out w' hw')) undP rfl (sizeP p) ?_
    simp only [Act.put, List.setIfInBounds_toArray, List.set_cons_succ, List.set_cons_zero]
    refine q_call 29 _ (.agg (pV hole).toArray) rfl (fun w' => by go_simp) (fun w' hw' => (refhole_any w').mono fun e w'' ⟨he, hb⟩ => ⟨he, hw'.trans (hb.mono hw'.size)⟩) ?_
    simp only [Act.put, List.setIfInBounds_toArray, List.set_cons_succ, List.set_cons_zero]
    refine q_eqlV 24 _ (.tmp 3) (.tmp 4) rfl rfl ((pV p).toArray) ((pV hole).toArray) rfl rfl true guardP (fun w' _ => HE.out w') ?_
    simp only [Act.put, List.setIfInBounds_toArray, List.set_cons_succ, List.set_cons_zero]
    refine q_move _ rfl rfl ?_
    simp only [Act.put, List.setIfInBounds_toArray, List.set_cons_succ, List.set_cons_zero]
    refine BigFrame.wpQuiet_skip (by kernel_rfl) ?_
    simp only [Act.put, List.setIfInBounds_toArray, List.set_cons_succ, List.set_cons_zero]
    refine BigFrame.wpQuiet_skip (by kernel_rfl) ?_
    simp only [Act.put, List.setIfInBounds_toArray, List.set_cons_succ, List.set_cons_zero]
    refine BigFrame.wpQuiet_skip (by kernel_rfl) ?_
    simp only [Act.put, List.setIfInBounds_toArray, List.set_cons_succ, List.set_cons_zero]
    refine BigFrame.wpQuiet_skip (by kernel_rfl) ?_
    simp only [Act.put, List.setIfInBounds_toArray, List.set_cons_succ, List.set_cons_zero]
    refine BigFrame.wpQuiet_skip (by kernel_rfl) ?_
    simp only [Act.put, List.setIfInBounds_toArray, List.set_cons_succ, List.set_cons_zero]
    refine BigFrame.wpQuiet_skip (by kernel_rfl) ?_
    simp only [Act.put, List.setIfInBounds_toArray, List.set_cons_succ, List.set_cons_zero]
    refine BigFrame.wpQuiet_skip (by kernel_rfl) ?_
    simp only [Act.put, List.setIfInBounds_toArray, List.set_cons_succ, List.set_cons_zero]
    refine BigFrame.wpQuiet_skip (by kernel_rfl) ?_
    simp only [Act.put, List.setIfInBounds_toArray, List.set_cons_succ, List.set_cons_zero]
    refine BigFrame.wpQuiet_skip (by kernel_rfl) ?_
    simp only [Act.put, List.setIfInBounds_toArray, List.set_cons_succ, List.set_cons_zero]
    refine BigFrame.wpQuiet_skip (by kernel_rfl) ?_
    simp only [Act.put, List.setIfInBounds_toArray, List.set_cons_succ, List.set_cons_zero]
    refine BigFrame.wpQuiet_skip (by kernel_rfl) ?_
    simp only [Act.put, List.setIfInBounds_toArray, List.set_cons_succ, List.set_cons_zero]
    refine BigFrame.wpQuiet_skip (by kernel_rfl) ?_
    simp only [Act.put, List.setIfInBounds_toArray, List.set_cons_succ, List.set_cons_zero]
    refine BigFrame.wpQuiet_skip (by kernel_rfl) ?_
    simp only [Act.put, List.setIfInBounds_toArray, List.set_cons_succ, List.set_cons_zero]
    refine BigFrame.wpQuiet_skip (by kernel_rfl) ?_
    simp only [Act.put, List.setIfInBounds_toArray, List.set_cons_succ, List.set_cons_zero]
    refine BigFrame.wpQuiet_skip (by kernel_rfl) ?_
    simp only [Act.put, List.setIfInBounds_toArray, List.set_cons_succ, List.set_cons_zero]
    refine BigFrame.wpQuiet_skip (by kernel_rfl) ?_
    simp only [Act.put, List.setIfInBounds_toArray, List.set_cons_succ, List.set_cons_zero]
    refine BigFrame.wpQuiet_skip (by kernel_rfl) ?_
    simp only [Act.put, List.setIfInBounds_toArray, List.set_cons_succ, List.set_cons_zero]
    refine BigFrame.wpQuiet_skip (by kernel_rfl) ?_
    simp only [Act.put, List.setIfInBounds_toArray, List.set_cons_succ, List.set_cons_zero]
    refine BigFrame.wpQuiet_skip (by kernel_rfl) ?_
    simp only [Act.put, List.setIfInBounds_toArray, List.set_cons_succ, List.set_cons_zero]
    refine BigFrame.wpQuiet_skip (by kernel_rfl) ?_
    simp only [Act.put, List.setIfInBounds_toArray, List.set_cons_succ, List.set_cons_zero]
    refine q_val (.bool true) rfl (fun w' hw' => by go_simp) ?_
    simp only [Act.put, List.setIfInBounds_toArray, List.set_cons_succ, List.set_cons_zero]
    refine q_val (.bool true) rfl (fun w' hw' => by go_simp) ?_
    simp only [Act.put, List.setIfInBounds_toArray, List.set_cons_succ, List.set_cons_zero]
    refine wpQuiet_nil ?_
    intro w' hw'
    go_wp2_with fail
    go_ret
    exact ⟨by rw [HV.out]; simp, hb0.trans (hw'.mono (by omega))⟩
  | false =>
    cases sa with
    | false =>
      refine q_loadB 24 (.tmp 1) rfl rfl w.heap.size 0 rfl (pV p) _ (fun w' hw' => row_pt (HX.out w' hw')) undP rfl (sizeP p) ?_
      simp only [Act.put, List.setIfInBounds_toArray, List.set_cons_succ, List.set_cons_zero]
      refine q_call 29 _ (.agg (pV hole).toArray) rfl (fun w' => by go_simp) (fun w' hw' => (refhole_any w').mono fun e w'' ⟨he, hb⟩ => ⟨he, hw'.trans (hb.mono hw'.size)⟩) ?_
      simp only [Act.put, List.setIfInBounds_toArray, List.set_cons_succ, List.set_cons_zero]
      refine q_eqlV 24 _ (.tmp 3) (.tmp 4) rfl rfl ((pV p).toArray) ((pV hole).toArray) rfl rfl false guardP (fun w' _ => HE.out w') ?_
      simp only [Act.put, List.setIfInBounds_toArray, List.set_cons_succ, List.set_cons_zero]
      refine q_move _ rfl rfl ?_
      simp only [Act.put, List.setIfInBounds_toArray, List.set_cons_succ, List.set_cons_zero]
      refine q_val (.pointer (some ⟨w.heap.size, 0, none⟩)) (by kernel_rfl) (fun w' hw' => by go_simp) ?_
      simp only [Act.put, List.setIfInBounds_toArray, List.set_cons_succ, List.set_cons_zero]
      refine q_val (.int .i64 p.A) (by kernel_rfl) (fun w' hw' => by have k := cA_pt (HX.out w' hw'); go_simp) ?_
      simp only [Act.put, List.setIfInBounds_toArray, List.set_cons_succ, List.set_cons_zero]
      refine q_call 42 _ (.bool false) (by kernel_rfl) (fun w' => by go_simp) (fun w' hw' => (HA.out w').mono fun e w'' ⟨he, hb⟩ => ⟨he, hw'.trans (hb.mono hw'.size)⟩) ?_
      simp only [Act.put, List.setIfInBounds_toArray, List.set_cons_succ, List.set_cons_zero]
      refine q_move _ rfl (by kernel_rfl) ?_
      simp only [Act.put, List.setIfInBounds_toArray, List.set_cons_succ, List.set_cons_zero]
      refine BigFrame.wpQuiet_skip (by kernel_rfl) ?_
      simp only [Act.put, List.setIfInBounds_toArray, List.set_cons_succ, List.set_cons_zero]
      refine BigFrame.wpQuiet_skip (by kernel_rfl) ?_
      simp only [Act.put, List.setIfInBounds_toArray, List.set_cons_succ, List.set_cons_zero]
      refine BigFrame.wpQuiet_skip (by kernel_rfl) ?_
      simp only [Act.put, List.setIfInBounds_toArray, List.set_cons_succ, List.set_cons_zero]
      refine BigFrame.wpQuiet_skip (by kernel_rfl) ?_
      simp only [Act.put, List.setIfInBounds_toArray, List.set_cons_succ, List.set_cons_zero]
      refine BigFrame.wpQuiet_skip (by kernel_rfl) ?_
      simp only [Act.put, List.setIfInBounds_toArray, List.set_cons_succ, List.set_cons_zero]
      refine BigFrame.wpQuiet_skip (by kernel_rfl) ?_
      simp only [Act.put, List.setIfInBounds_toArray, List.set_cons_succ, List.set_cons_zero]
      refine BigFrame.wpQuiet_skip (by kernel_rfl) ?_
      simp only [Act.put, List.setIfInBounds_toArray, List.set_cons_succ, List.set_cons_zero]
      refine BigFrame.wpQuiet_skip (by kernel_rfl) ?_
      simp only [Act.put, List.setIfInBounds_toArray, List.set_cons_succ, List.set_cons_zero]
      refine BigFrame.wpQuiet_skip (by kernel_rfl) ?_
      simp only [Act.put, List.setIfInBounds_toArray, List.set_cons_succ, List.set_cons_zero]
      refine BigFrame.wpQuiet_skip (by kernel_rfl) ?_
      simp only [Act.put, List.setIfInBounds_toArray, List.set_cons_succ, List.set_cons_zero]
      refine BigFrame.wpQuiet_skip (by kernel_rfl) ?_
      simp only [Act.put, List.setIfInBounds_toArray, List.set_cons_succ, List.set_cons_zero]
      refine BigFrame.wpQuiet_skip (by kernel_rfl) ?_
      simp only [Act.put, List.setIfInBounds_toArray, List.set_cons_succ, List.set_cons_zero]
      refine BigFrame.wpQuiet_skip (by kernel_rfl) ?_
      simp only [Act.put, List.setIfInBounds_toArray, List.set_cons_succ, List.set_cons_zero]
      refine BigFrame.wpQuiet_skip (by kernel_rfl) ?_
      simp only [Act.put, List.setIfInBounds_toArray, List.set_cons_succ, List.set_cons_zero]
      refine BigFrame.wpQuiet_skip (by kernel_rfl) ?_
      simp only [Act.put, List.setIfInBounds_toArray, List.set_cons_succ, List.set_cons_zero]
      refine q_val (.bool false) (by kernel_rfl) (fun w' hw' => by go_simp) ?_
      simp only [Act.put, List.setIfInBounds_toArray, List.set_cons_succ, List.set_cons_zero]
      refine q_val (.bool false) rfl (fun w' hw' => by go_simp) ?_
      simp only [Act.put, List.setIfInBounds_toArray, List.set_cons_succ, List.set_cons_zero]
      refine q_val (.bool false) rfl (fun w' hw' => by go_simp) ?_
      simp only [Act.put, List.setIfInBounds_toArray, List.set_cons_succ, List.set_cons_zero]
      refine wpQuiet_nil ?_
      intro w' hw'
      go_wp2_with fail
      go_ret
      exact ⟨by rw [HV.out]; simp, hb0.trans (hw'.mono (by omega))⟩
    | true =>
      by_cases e : p.B = -1
      · have e' : (p.B == -1) = true := by simpa using e
        refine q_loadB 24 (.tmp 1) rfl rfl w.heap.size 0 rfl (pV p) _ (fun w' hw' => row_pt (HX.out w' hw')) undP rfl (sizeP p) ?_
        simp only [Act.put, List.setIfInBounds_toArray, List.set_cons_succ, List.set_cons_zero]
        refine q_call 29 _ (.agg (pV hole).toArray) rfl (fun w' => by go_simp) (fun w' hw' => (refhole_any w').mono fun e w'' ⟨he, hb⟩ => ⟨he, hw'.trans (hb.mono hw'.size)⟩) ?_
        simp only [Act.put, List.setIfInBounds_toArray, List.set_cons_succ, List.set_cons_zero]
        refine q_eqlV 24 _ (.tmp 3) (.tmp 4) rfl rfl ((pV p).toArray) ((pV hole).toArray) rfl rfl false guardP (fun w' _ => HE.out w') ?_
        simp only [Act.put, List.setIfInBounds_toArray, List.set_cons_succ, List.set_cons_zero]
        refine q_move _ rfl rfl ?_
        simp only [Act.put, List.setIfInBounds_toArray, List.set_cons_succ, List.set_cons_zero]
        refine q_val (.pointer (some ⟨w.heap.size, 0, none⟩)) (by kernel_rfl) (fun w' hw' => by go_simp) ?_
        simp only [Act.put, List.setIfInBounds_toArray, List.set_cons_succ, List.set_cons_zero]
        refine q_val (.int .i64 p.A) (by kernel_rfl) (fun w' hw' => by have k := cA_pt (HX.out w' hw'); go_simp) ?_
        simp only [Act.put, List.setIfInBounds_toArray, List.set_cons_succ, List.set_cons_zero]
        refine q_call 42 _ (.bool true) (by kernel_rfl) (fun w' => by go_simp) (fun w' hw' => (HA.out w').mono fun e w'' ⟨he, hb⟩ => ⟨he, hw'.trans (hb.mono hw'.size)⟩) ?_
        simp only [Act.put, List.setIfInBounds_toArray, List.set_cons_succ, List.set_cons_zero]
        refine q_move _ rfl (by kernel_rfl) ?_
        simp only [Act.put, List.setIfInBounds_toArray, List.set_cons_succ, List.set_cons_zero]
        refine q_val (.pointer (some ⟨w.heap.size, 1, none⟩)) (by kernel_rfl) (fun w' hw' => by go_simp) ?_
        simp only [Act.put, List.setIfInBounds_toArray, List.set_cons_succ, List.set_cons_zero]
        refine q_val (.int .i64 p.B) (by kernel_rfl) (fun w' hw' => by have k := cB_pt (HX.out w' hw'); go_simp) ?_
        simp only [Act.put, List.setIfInBounds_toArray, List.set_cons_succ, List.set_cons_zero]
        refine q_val (.bool true) (by kernel_rfl) (fun w' hw' => by go_simp) ?_
        simp only [Act.put, List.setIfInBounds_toArray, List.set_cons_succ, List.set_cons_zero]
        refine q_move _ rfl (by kernel_rfl) ?_
        simp only [Act.put, List.setIfInBounds_toArray, List.set_cons_succ, List.set_cons_zero]
        refine BigFrame.wpQuiet_skip (by kernel_rfl) ?_
        simp only [Act.put, List.setIfInBounds_toArray, List.set_cons_succ, List.set_cons_zero]
        refine BigFrame.wpQuiet_skip (by kernel_rfl) ?_
        simp only [Act.put, List.setIfInBounds_toArray, List.set_cons_succ, List.set_cons_zero]
        refine BigFrame.wpQuiet_skip (by kernel_rfl) ?_
        simp only [Act.put, List.setIfInBounds_toArray, List.set_cons_succ, List.set_cons_zero]
        refine BigFrame.wpQuiet_skip (by kernel_rfl) ?_
        simp only [Act.put, List.setIfInBounds_toArray, List.set_cons_succ, List.set_cons_zero]
        refine BigFrame.wpQuiet_skip (by kernel_rfl) ?_
        simp only [Act.put, List.setIfInBounds_toArray, List.set_cons_succ, List.set_cons_zero]
        refine BigFrame.wpQuiet_skip (by kernel_rfl) ?_
        simp only [Act.put, List.setIfInBounds_toArray, List.set_cons_succ, List.set_cons_zero]
        refine BigFrame.wpQuiet_skip (by kernel_rfl) ?_
        simp only [Act.put, List.setIfInBounds_toArray, List.set_cons_succ, List.set_cons_zero]
        refine BigFrame.wpQuiet_skip (by kernel_rfl) ?_
        simp only [Act.put, List.setIfInBounds_toArray, List.set_cons_succ, List.set_cons_zero]
        refine BigFrame.wpQuiet_skip (by kernel_rfl) ?_
        simp only [Act.put, List.setIfInBounds_toArray, List.set_cons_succ, List.set_cons_zero]
        refine BigFrame.wpQuiet_skip (by kernel_rfl) ?_
        simp only [Act.put, List.setIfInBounds_toArray, List.set_cons_succ, List.set_cons_zero]
        refine q_val (.bool true) (by kernel_rfl) (fun w' hw' => by go_simp) ?_
        simp only [Act.put, List.setIfInBounds_toArray, List.set_cons_succ, List.set_cons_zero]
        refine q_val (.bool true) (by kernel_rfl) (fun w' hw' => by go_simp) ?_
        simp only [Act.put, List.setIfInBounds_toArray, List.set_cons_succ, List.set_cons_zero]
        refine q_val (.bool true) rfl (fun w' hw' => by go_simp) ?_
        simp only [Act.put, List.setIfInBounds_toArray, List.set_cons_succ, List.set_cons_zero]
        refine q_val (.bool true) rfl (fun w' hw' => by go_simp) ?_
        simp only [Act.put, List.setIfInBounds_toArray, List.set_cons_succ, List.set_cons_zero]
        refine wpQuiet_nil ?_
        intro w' hw'
        go_wp2_with fail
        go_ret
        exact ⟨by rw [HV.out]; simp [e'], hb0.trans (hw'.mono (by omega))⟩
      · have e' : (p.B == -1) = false := by simpa using e
        cases sb with
        | false =>
          refine q_loadB 24 (.tmp 1) rfl rfl w.heap.size 0 rfl (pV p) _ (fun w' hw' => row_pt (HX.out w' hw')) undP rfl (sizeP p) ?_
          simp only [Act.put, List.setIfInBounds_toArray, List.set_cons_succ, List.set_cons_zero]
          refine q_call 29 _ (.agg (pV hole).toArray) rfl (fun w' => by go_simp) (fun w' hw' => (refhole_any w').mono fun e w'' ⟨he, hb⟩ => ⟨he, hw'.trans (hb.mono hw'.size)⟩) ?_
          simp only [Act.put, List.setIfInBounds_toArray, List.set_cons_succ, List.set_cons_zero]
          refine q_eqlV 24 _ (.tmp 3) (.tmp 4) rfl rfl ((pV p).toArray) ((pV hole).toArray) rfl rfl false guardP (fun w' _ => HE.out w') ?_
          simp only [Act.put, List.setIfInBounds_toArray, List.set_cons_succ, List.set_cons_zero]
          refine q_move _ rfl rfl ?_
          simp only [Act.put, List.setIfInBounds_toArray, List.set_cons_succ, List.set_cons_zero]
          refine q_val (.pointer (some ⟨w.heap.size, 0, none⟩)) (by kernel_rfl) (fun w' hw' => by go_simp) ?_
          simp only [Act.put, List.setIfInBounds_toArray, List.set_cons_succ, List.set_cons_zero]
          refine q_val (.int .i64 p.A) (by kernel_rfl) (fun w' hw' => by have k := cA_pt (HX.out w' hw'); go_simp) ?_
          simp only [Act.put, List.setIfInBounds_toArray, List.set_cons_succ, List.set_cons_zero]
          refine q_call 42 _ (.bool true) (by kernel_rfl) (fun w' => by go_simp) (fun w' hw' => (HA.out w').mono fun e w'' ⟨he, hb⟩ => ⟨he, hw'.trans (hb.mono hw'.size)⟩) ?_
          simp only [Act.put, List.setIfInBounds_toArray, List.set_cons_succ, List.set_cons_zero]
          refine q_move _ rfl (by kernel_rfl) ?_
          simp only [Act.put, List.setIfInBounds_toArray, List.set_cons_succ, List.set_cons_zero]
          refine q_val (.pointer (some ⟨w.heap.size, 1, none⟩)) (by kernel_rfl) (fun w' hw' => by go_simp) ?_
          simp only [Act.put, List.setIfInBounds_toArray, List.set_cons_succ, List.set_cons_zero]
          refine q_val (.int .i64 p.B) (by kernel_rfl) (fun w' hw' => by have k := cB_pt (HX.out w' hw'); go_simp) ?_
          simp only [Act.put, List.setIfInBounds_toArray, List.set_cons_succ, List.set_cons_zero]
          refine q_val (.bool false) (by kernel_rfl) (fun w' hw' => by go_simp) ?_
          simp only [Act.put, List.setIfInBounds_toArray, List.set_cons_succ, List.set_cons_zero]
          refine q_move _ rfl (by kernel_rfl) ?_
          simp only [Act.put, List.setIfInBounds_toArray, List.set_cons_succ, List.set_cons_zero]
          refine q_val (.pointer (some ⟨w.heap.size, 1, none⟩)) (by kernel_rfl) (fun w' hw' => by go_simp) ?_
          simp only [Act.put, List.setIfInBounds_toArray, List.set_cons_succ, List.set_cons_zero]
          refine q_val (.int .i64 p.B) (by kernel_rfl) (fun w' hw' => by have k := cB_pt (HX.out w' hw'); go_simp) ?_
          simp only [Act.put, List.setIfInBounds_toArray, List.set_cons_succ, List.set_cons_zero]
          refine q_call 42 _ (.bool false) (by kernel_rfl) (fun w' => by go_simp) (fun w' hw' => (HB.out w').mono fun e w'' ⟨he, hb⟩ => ⟨he, hw'.trans (hb.mono hw'.size)⟩) ?_
          simp only [Act.put, List.setIfInBounds_toArray, List.set_cons_succ, List.set_cons_zero]
          refine q_move _ rfl (by kernel_rfl) ?_
          simp only [Act.put, List.setIfInBounds_toArray, List.set_cons_succ, List.set_cons_zero]
          refine BigFrame.wpQuiet_skip (by kernel_rfl) ?_
          simp only [Act.put, List.setIfInBounds_toArray, List.set_cons_succ, List.set_cons_zero]
          refine BigFrame.wpQuiet_skip (by kernel_rfl) ?_
          simp only [Act.put, List.setIfInBounds_toArray, List.set_cons_succ, List.set_cons_zero]
          refine BigFrame.wpQuiet_skip (by kernel_rfl) ?_
          simp only [Act.put, List.setIfInBounds_toArray, List.set_cons_succ, List.set_cons_zero]
          refine BigFrame.wpQuiet_skip (by kernel_rfl) ?_
          simp only [Act.put, List.setIfInBounds_toArray, List.set_cons_succ, List.set_cons_zero]
          refine BigFrame.wpQuiet_skip (by kernel_rfl) ?_
          simp only [Act.put, List.setIfInBounds_toArray, List.set_cons_succ, List.set_cons_zero]
          refine q_val (.bool false) (by kernel_rfl) (fun w' hw' => by go_simp) ?_
          simp only [Act.put, List.setIfInBounds_toArray, List.set_cons_succ, List.set_cons_zero]
          refine q_val (.bool false) (by kernel_rfl) (fun w' hw' => by go_simp) ?_
          simp only [Act.put, List.setIfInBounds_toArray, List.set_cons_succ, List.set_cons_zero]
          refine q_val (.bool false) (by kernel_rfl) (fun w' hw' => by go_simp) ?_
          simp only [Act.put, List.setIfInBounds_toArray, List.set_cons_succ, List.set_cons_zero]
          refine q_val (.bool false) rfl (fun w' hw' => by go_simp) ?_
          simp only [Act.put, List.setIfInBounds_toArray, List.set_cons_succ, List.set_cons_zero]
          refine q_val (.bool false) rfl (fun w' hw' => by go_simp) ?_
          simp only [Act.put, List.setIfInBounds_toArray, List.set_cons_succ, List.set_cons_zero]
          refine wpQuiet_nil ?_
          intro w' hw'
          go_wp2_with fail
          go_ret
          exact ⟨by rw [HV.out]; simp [e'], hb0.trans (hw'.mono (by omega))⟩
        | true =>
          refine q_loadB 24 (.tmp 1) rfl rfl w.heap.size 0 rfl (pV p) _ (fun w' hw' => row_pt (HX.out w' hw')) undP rfl (sizeP p) ?_
          simp only [Act.put, List.setIfInBounds_toArray, List.set_cons_succ, List.set_cons_zero]
          refine q_call 29 _ (.agg (pV hole).toArray) rfl (fun w' => by go_simp) (fun w' hw' => (refhole_any w').mono fun e w'' ⟨he, hb⟩ => ⟨he, hw'.trans (hb.mono hw'.size)⟩) ?_
          simp only [Act.put, List.setIfInBounds_toArray, List.set_cons_succ, List.set_cons_zero]
          refine q_eqlV 24 _ (.tmp 3) (.tmp 4) rfl rfl ((pV p).toArray) ((pV hole).toArray) rfl rfl false guardP (fun w' _ => HE.out w') ?_
          simp only [Act.put, List.setIfInBounds_toArray, List.set_cons_succ, List.set_cons_zero]
          refine q_move _ rfl rfl ?_
          simp only [Act.put, List.setIfInBounds_toArray, List.set_cons_succ, List.set_cons_zero]
          refine q_val (.pointer (some ⟨w.heap.size, 0, none⟩)) (by kernel_rfl) (fun w' hw' => by go_simp) ?_
          simp only [Act.put, List.setIfInBounds_toArray, List.set_cons_succ, List.set_cons_zero]
          refine q_val (.int .i64 p.A) (by kernel_rfl) (fun w' hw' => by have k := cA_pt (HX.out w' hw'); go_simp) ?_
          simp only [Act.put, List.setIfInBounds_toArray, List.set_cons_succ, List.set_cons_zero]
          refine q_call 42 _ (.bool true) (by kernel_rfl) (fun w' => by go_simp) (fun w' hw' => (HA.out w').mono fun e w'' ⟨he, hb⟩ => ⟨he, hw'.trans (hb.mono hw'.size)⟩) ?_
          simp only [Act.put, List.setIfInBounds_toArray, List.set_cons_succ, List.set_cons_zero]
          refine q_move _ rfl (by kernel_rfl) ?_
          simp only [Act.put, List.setIfInBounds_toArray, List.set_cons_succ, List.set_cons_zero]
          refine q_val (.pointer (some ⟨w.heap.size, 1, none⟩)) (by kernel_rfl) (fun w' hw' => by go_simp) ?_
          simp only [Act.put, List.setIfInBounds_toArray, List.set_cons_succ, List.set_cons_zero]
          refine q_val (.int .i64 p.B) (by kernel_rfl) (fun w' hw' => by have k := cB_pt (HX.out w' hw'); go_simp) ?_
          simp only [Act.put, List.setIfInBounds_toArray, List.set_cons_succ, List.set_cons_zero]
          refine q_val (.bool false) (by kernel_rfl) (fun w' hw' => by go_simp) ?_
          simp only [Act.put, List.setIfInBounds_toArray, List.set_cons_succ, List.set_cons_zero]
          refine q_move _ rfl (by kernel_rfl) ?_
          simp only [Act.put, List.setIfInBounds_toArray, List.set_cons_succ, List.set_cons_zero]
          refine q_val (.pointer (some ⟨w.heap.size, 1, none⟩)) (by kernel_rfl) (fun w' hw' => by go_simp) ?_
          simp only [Act.put, List.setIfInBounds_toArray, List.set_cons_succ, List.set_cons_zero]
          refine q_val (.int .i64 p.B) (by kernel_rfl) (fun w' hw' => by have k := cB_pt (HX.out w' hw'); go_simp) ?_
          simp only [Act.put, List.setIfInBounds_toArray, List.set_cons_succ, List.set_cons_zero]
          refine q_call 42 _ (.bool true) (by kernel_rfl) (fun w' => by go_simp) (fun w' hw' => (HB.out w').mono fun e w'' ⟨he, hb⟩ => ⟨he, hw'.trans (hb.mono hw'.size)⟩) ?_
          simp only [Act.put, List.setIfInBounds_toArray, List.set_cons_succ, List.set_cons_zero]
          refine q_move _ rfl (by kernel_rfl) ?_
          simp only [Act.put, List.setIfInBounds_toArray, List.set_cons_succ, List.set_cons_zero]
          refine q_val (.pointer (some ⟨w.heap.size, 1, none⟩)) (by kernel_rfl) (fun w' hw' => by go_simp) ?_
          simp only [Act.put, List.setIfInBounds_toArray, List.set_cons_succ, List.set_cons_zero]
          refine q_val (.int .i64 p.B) (by kernel_rfl) (fun w' hw' => by have k := cB_pt (HX.out w' hw'); go_simp) ?_
          simp only [Act.put, List.setIfInBounds_toArray, List.set_cons_succ, List.set_cons_zero]
          refine q_val (.pointer (some ⟨w.heap.size, 0, none⟩)) (by kernel_rfl) (fun w' hw' => by go_simp) ?_
          simp only [Act.put, List.setIfInBounds_toArray, List.set_cons_succ, List.set_cons_zero]
          refine q_val (.int .i64 p.A) (by kernel_rfl) (fun w' hw' => by have k := cA_pt (HX.out w' hw'); go_simp) ?_
          simp only [Act.put, List.setIfInBounds_toArray, List.set_cons_succ, List.set_cons_zero]
          refine q_val (.bool (p.B != p.A)) (by kernel_rfl) (fun w' hw' => by go_simp) ?_
          simp only [Act.put, List.setIfInBounds_toArray, List.set_cons_succ, List.set_cons_zero]
          refine q_val (.bool (p.B != p.A)) (by kernel_rfl) (fun w' hw' => by go_simp) ?_
          simp only [Act.put, List.setIfInBounds_toArray, List.set_cons_succ, List.set_cons_zero]
          refine q_val (.bool (p.B != p.A)) (by kernel_rfl) (fun w' hw' => by go_simp) ?_
          simp only [Act.put, List.setIfInBounds_toArray, List.set_cons_succ, List.set_cons_zero]
          refine q_val (.bool (p.B != p.A)) (by kernel_rfl) (fun w' hw' => by go_simp) ?_
          simp only [Act.put, List.setIfInBounds_toArray, List.set_cons_succ, List.set_cons_zero]
          refine q_val (.bool (p.B != p.A)) rfl (fun w' hw' => by go_simp) ?_
          simp only [Act.put, List.setIfInBounds_toArray, List.set_cons_succ, List.set_cons_zero]
          refine q_val (.bool (p.B != p.A)) rfl (fun w' hw' => by go_simp) ?_
          simp only [Act.put, List.setIfInBounds_toArray, List.set_cons_succ, List.set_cons_zero]
          refine wpQuiet_nil ?_
          intro w' hw'
          go_wp2_with fail
          go_ret
          exact ⟨by rw [HV.out]; simp [e'], hb0.trans (hw'.mono (by omega))⟩
end Pt
end Go.Proofs.Ytnmljjehkdbbjaa
