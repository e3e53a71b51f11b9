/- PtrMakes: the law's walk. -/
import Derived.Test.YtpbhdndkmjkphaaDoorPtAlive
namespace Go.Proofs.YtpbhdndkmjkphaaDoor
set_option maxRecDepth 20000
namespace Pt
open Go.RowKit Dk Eqb Byt

attribute [local go_sem] zvP
theorem eq_pt_same (p : Pn) (w : World) : (Op.equalIn 10000 26 (.agg (pV p).toArray) (.agg (pV p).toArray)).run Tryd.prog w = .ok true w := by rw [eq_pt, eqP_same]
theorem new_pt (w : World) (p : Pn) : ∃ W, W = w.alloc (.cells (pV p).toArray 26) ∧ Below w.heap.size w W ∧ W.heap[w.heap.size]? = some (.cells (pV p).toArray 26 (0, 0)) ∧ W.heap.size = w.heap.size + 1 :=
  ⟨_, rfl, (Below.refl _ _).alloc (Nat.le_refl _) _, heap_alloc_new _ _, by simp⟩
theorem new_bl (w : World) (D : Nat → Int) : ∃ W, W = w.alloc (.cells (bl D).toArray 22) ∧ Below w.heap.size w W ∧ Row W w.heap.size 0 128 D ∧ W.heap.size = w.heap.size + 1 :=
  ⟨_, rfl, (Below.refl _ _).alloc (Nat.le_refl _) _, row_of (t := 22) (heap_alloc_new _ _), by simp⟩

set_option maxRecDepth 100000 in
set_option maxHeartbeats 1000000 in
theorem makes_any (D : Nat → Int) (a c : Int) (w : World) (hD : Bytes D) (hk : Kp w) : Calls Tryd.prog 3 #[.agg (bl D).toArray, .int .i64 a, .int .i64 c] w fun e w' => e = .returned (.bool true) ∧ Below w.heap.size w w' := by
  have HK := Lib.hid (fun W (hb : Below w.heap.size w W) => hk.below hb)
  have H1 := Lib.hid (fun W (hk : Kp W) => of_any D a c W hD hk)
  have H2 := Lib.hid (fun (W : World) (hk : Kp W) => refof_any D a c W hD hk.2)
  generalize ofV D a c = V at H1 H2
  generalize ofE D a c = E at H1 H2
  clear hD hk
  obtain ⟨W, hW, hB0, hr0, hs0⟩ := new_bl w D
  go_enter Tryd.func3, Tryd.ntmps3
  go_wp2_with fail
  rw [← hW]
  clear hW
  refine (alive5_any W (HK.out W hB0)).mono ?_
  rintro _ w1 ⟨rfl, hb1⟩
  have hs1 := hb1.size
  have hB1 := hB0.trans (hb1.mono (by omega))
  have hr1 := hr0.block (hb1.block w.heap.size (by omega))
  clear hr0 hb1
  dsimp only
  go_wp2_with (refine @wpList_loadG _ _ _ _ _ _ _ (by kernel_rfl) 22 (.tmp 3) rfl w.heap.size 0 rfl (bl D) _ (row_range hr1) undB rfl (size_bl D) ?_; simp only [Act.put, List.setIfInBounds_toArray, List.set_cons_succ, List.set_cons_zero])
  refine (H1.out w1 (HK.out w1 hB1)).mono ?_
  rintro _ w2 ⟨rfl, hb2⟩
  have hs2 := hb2.size
  have hB2 := hB1.trans (hb2.mono (by omega))
  have hr2 := hr1.block (hb2.block w.heap.size (by omega))
  obtain ⟨W3, hW3, hb3, hx3, hs3⟩ := new_pt w2 V
  have hr3 := hr2.block (hb3.block w.heap.size (by omega))
  have hB3 := hB2.trans (hb3.mono (by omega))
  clear hr1 hb2 hr2 hb3
  dsimp only
  subst hW3
  go_wp2_with (first
    | (refine @wpList_store_row _ _ _ _ _ _ _ rfl 26 (.tmp 7) (.tmp 18) rfl w2.heap.size (pV V).toArray rfl rfl 26 _ (heap_alloc_new w2 _) (sizeP' _) rfl (pV_all _) ?_; rw [World.setRow_alloc_new]; simp only [Act.put])
    | (refine @wpList_loadG _ _ _ _ _ _ _ (by kernel_rfl) 22 (.tmp 3) rfl w.heap.size 0 rfl (bl D) _ (row_range hr3) undB rfl (size_bl D) ?_; simp only [Act.put, List.setIfInBounds_toArray, List.set_cons_succ, List.set_cons_zero]))
  generalize w2.alloc (.cells (pV V).toArray 26) = W3 at hx3 hs3 hr3 hB3 ⊢
  refine (H2.out W3 (HK.out W3 hB3)).mono ?_
  rintro _ w4 ⟨rfl, hb4⟩
  have hs4 := hb4.size
  have hB4 := hB3.trans (hb4.mono (by omega))
  have hx4 := (hb4.block w2.heap.size (by omega)).trans hx3
  obtain ⟨W5, hW5, hb5, hx5, hs5⟩ := new_pt w4 V
  have hx5' := (hb5.block w2.heap.size (by omega)).trans hx4
  have hB5 := hB4.trans (hb5.mono (by omega))
  clear hx3 hr3 hb4 hx4 hb5
  dsimp only
  subst hW5
  go_wp2_with (first
    | (refine @wpList_store_row _ _ _ _ _ _ _ rfl 26 (.tmp 9) (.tmp 25) rfl w4.heap.size (pV V).toArray rfl rfl 26 _ (heap_alloc_new w4 _) (sizeP' _) rfl (pV_all _) ?_; rw [World.setRow_alloc_new]; simp only [Act.put])
    | (refine @wpList_loadG _ _ _ _ _ _ _ (by kernel_rfl) 26 (.tmp 7) rfl w2.heap.size 0 rfl (pV V) _ (row_pt hx5') undP rfl (sizeP _) ?_; simp only [Act.put, List.setIfInBounds_toArray, List.set_cons_succ, List.set_cons_zero])
    | (refine @wpList_loadG _ _ _ _ _ _ _ (by kernel_rfl) 26 (.tmp 9) rfl w4.heap.size 0 rfl (pV V) _ (row_pt hx5) undP rfl (sizeP _) ?_; simp only [Act.put, List.setIfInBounds_toArray, List.set_cons_succ, List.set_cons_zero])
    | (refine @wpList_eqlV _ _ _ _ _ _ _ 26 _ (.tmp 27) (.tmp 28) rfl (by kernel_rfl) (pV V).toArray (pV V).toArray rfl rfl true guardP (eq_pt_same V _) ?_; simp only [Act.put, List.setIfInBounds_toArray, List.set_cons_succ, List.set_cons_zero]))
  generalize w4.alloc (.cells (pV V).toArray 26) = W5 at hx5 hx5' hs5 hB5 ⊢
  refine (hole_any W5).mono ?_
  rintro _ w6 ⟨rfl, hb6⟩
  have hB6 := hB5.trans (hb6.mono hB5.size)
  clear hx5 hx5'
  dsimp only
  go_wp2_with fail
  refine (refhole_any w6).mono ?_
  rintro _ w7 ⟨rfl, hb7⟩
  have hB7 := hB6.trans (hb7.mono hB6.size)
  dsimp only
  go_wp2_with (refine @wpList_eqlV _ _ _ _ _ _ _ 26 _ (.tmp 36) (.tmp 37) rfl (by kernel_rfl) (pV hole).toArray (pV hole).toArray rfl rfl true guardP (eq_pt_same hole _) ?_; simp only [Act.put, List.setIfInBounds_toArray, List.set_cons_succ, List.set_cons_zero])
  go_ret
  exact ⟨rfl, hB7⟩
end Pt
end Go.Proofs.YtpbhdndkmjkphaaDoor
