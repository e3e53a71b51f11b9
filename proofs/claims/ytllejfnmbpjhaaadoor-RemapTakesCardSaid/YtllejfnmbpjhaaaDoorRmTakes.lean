/- RemapTakes: the law's walk. -/
import Derived.Test.YtllejfnmbpjhaaaDoorRmTake
import Derived.Test.YtllejfnmbpjhaaaDoorJRc
namespace Go.Proofs.YtllejfnmbpjhaaaDoor
set_option maxRecDepth 20000
namespace Rm
open Go.RowKit Dk Byt Eqb

attribute [local go_sem] zv29
attribute [local go_sem] zc29
set_option maxRecDepth 100000 in
set_option maxHeartbeats 4000000 in
theorem ltakes_any (D : Nat → Int) (s : Int) (w : World) (hD : ∀ i, i < 128 → 0 ≤ D i ∧ D i < 256) (hkp : Kp w) :
    Calls Tryd.prog 3 #[.agg (bl D).toArray, .int .i64 s] w fun e w' => e = .returned (.bool true) ∧ Below w.heap.size w w' := by
  have HK := Lib.hid (fun W (hb : Below w.heap.size w W) => hkp.below hb)
  have HT1 := Lib.hid (fun W (hk : Kp W) => take_d s D W hD hk)
  have HT2 := Lib.hid (fun W (hk : Kp W) => reftake_d s D W hD hk)
  have hkn : tkN s D ≤ 256 := by
    have := hD 9 (by omega)
    unfold tkN tkK
    split <;> omega
  unfold TkPost at HT1 HT2
  clear hkp hD
  generalize tkG s D = G at HT1 HT2
  generalize tkN s D = k at HT1 HT2 hkn
  generalize tkE s D = E at HT1 HT2
  generalize tkF D = F at HT1 HT2
  generalize tkT D = T at HT1 HT2
  obtain ⟨W, hW, hB0, hd0, hs0⟩ : ∃ W, W = w.alloc (.cells (bl D).toArray 22) ∧ Below w.heap.size w W ∧ W.heap[w.heap.size]? = some (.cells (bl D).toArray 22 (0, 0)) ∧ W.heap.size = w.heap.size + 1 :=
    ⟨_, rfl, (Below.refl _ _).alloc (Nat.le_refl _) _, heap_alloc_new _ _, by simp⟩
  go_enter Tryd.func3, Tryd.ntmps3
  go_wp2_with fail
  rw [← hW]
  clear hW
  refine (alive4_any W (HK.out W hB0)).mono ?_
  rintro _ w1 ⟨rfl, hb1⟩
  have hB1 := hB0.trans (hb1.mono hB0.size)
  have hs1 := hb1.size
  have hl1 : w.heap.size < w1.heap.size := by omega
  have hd1 := (hb1.block w.heap.size (by omega)).trans hd0
  have hr1 := Twin.row_of hd1
  clear hb1 hd0 hs0 hs1 hB0
  clear W
  dsimp only
  go_wp2_with (refine @wpList_loadG _ _ _ _ _ _ _ (by kernel_rfl) 22 (.tmp 2) rfl w.heap.size 0 rfl (bl D) _ hr1 undB rfl (size_bl D) ?_; simp only [Act.put, List.setIfInBounds_toArray, List.set_cons_succ, List.set_cons_zero])
  refine (HT1.out w1 (HK.out w1 hB1)).mono ?_
  rintro _ w2 ⟨⟨_, rfl, ao, cap, rfl, ho2⟩, hb2⟩
  have hB2 := hB1.trans (hb2.mono hB1.size)
  have hs2 := hb2.size
  have hd2 := (hb2.block w.heap.size hl1).trans hd1
  obtain ⟨W3, hW3, hb3, hx3, hs3⟩ : ∃ W3, W3 = w2.alloc (.cells #[.int .i64 G, .slice ao k cap] 26) ∧ Below w2.heap.size w2 W3 ∧ W3.heap[w2.heap.size]? = some (.cells #[.int .i64 G, .slice ao k cap] 26 (0, 0)) ∧ W3.heap.size = w2.heap.size + 1 :=
    ⟨_, rfl, (Below.refl _ _).alloc (Nat.le_refl _) _, heap_alloc_new _ _, by simp⟩
  have hB3 := hB2.trans (hb3.mono hB2.size)
  have hr3 := Twin.row_of ((hb3.block w.heap.size (by omega)).trans hd2)
  have ho3 := owns_below ho2 hb3
  clear hr1 hb2 hd1 hd2 ho2 hb3 hB2
  dsimp only
  subst hW3
  go_wp2_with (first
    | (refine @wpList_store_row _ _ _ _ _ _ _ rfl 26 (.tmp 5) (.tmp 15) rfl w2.heap.size #[.int .i64 G, .slice ao k cap] rfl rfl 26 _ (heap_alloc_new _ _) (by kernel_rfl) rfl (tb_one _ _ _ _) ?_; rw [World.setRow_alloc_new]; simp only [Act.put])
    | (refine @wpList_loadG _ _ _ _ _ _ _ (by kernel_rfl) 22 (.tmp 2) rfl w.heap.size 0 rfl (bl D) _ hr3 undB rfl (size_bl D) ?_; simp only [Act.put, List.setIfInBounds_toArray, List.set_cons_succ, List.set_cons_zero]))
  generalize w2.alloc (.cells #[.int .i64 G, .slice ao k cap] 26) = W3 at hx3 hs3 hB3 hr3 ho3 ⊢
  refine (HT2.out W3 (HK.out W3 hB3)).mono ?_
  rintro _ w4 ⟨⟨_, rfl, ao4, cap4, rfl, ho4⟩, hb4⟩
  have hB4 := hB3.trans (hb4.mono hB3.size)
  have hs4 := hb4.size
  obtain ⟨W5, hW5, hb5, hy5, hs5⟩ : ∃ W5, W5 = w4.alloc (.cells #[.int .i64 G, .slice ao4 k cap4] 26) ∧ Below w4.heap.size w4 W5 ∧ W5.heap[w4.heap.size]? = some (.cells #[.int .i64 G, .slice ao4 k cap4] 26 (0, 0)) ∧ W5.heap.size = w4.heap.size + 1 :=
    ⟨_, rfl, (Below.refl _ _).alloc (Nat.le_refl _) _, heap_alloc_new _ _, by simp⟩
  have hB5 := hB4.trans (hb5.mono hB4.size)
  have hx5 := (hb5.block w2.heap.size (by omega)).trans ((hb4.block w2.heap.size (by omega)).trans hx3)
  have ho5 := owns_below (owns_below ho3 hb4) hb5
  have hp5 := owns_below ho4 hb5
  have a0 : W5.cell? ⟨w2.heap.size, 0, none⟩ = some (.int .i64 G) := by rw [cell_of_row _ _ _ _ _ _ hx5]; rfl
  have a1 : W5.cell? ⟨w2.heap.size, 1, none⟩ = some (.slice ao k cap) := by rw [cell_of_row _ _ _ _ _ _ hx5]; rfl
  have b0 : W5.cell? ⟨w4.heap.size, 0, none⟩ = some (.int .i64 G) := by rw [cell_of_row _ _ _ _ _ _ hy5]; rfl
  have b1 : W5.cell? ⟨w4.heap.size, 1, none⟩ = some (.slice ao4 k cap4) := by rw [cell_of_row _ _ _ _ _ _ hy5]; rfl
  have HSM := Lib.hid (refsame_any G k F T ao ao4 cap cap4 W5.heap.size W5.heap.size W5 (by omega) (lay_own (fun i _ => prV_length F T i) ho5 (.inr (Nat.le_refl _))) (lay_own (fun i _ => prV_length F T i) hp5 (.inr (Nat.le_refl _))))
  clear hr3 ho3 ho4 hb4 hb5 hx3 hx5 hy5 ho5 hp5 hB4
  dsimp only
  subst hW5
  go_wp2_with (refine @wpList_store_row _ _ _ _ _ _ _ rfl 26 (.tmp 7) (.tmp 21) rfl w4.heap.size #[.int .i64 G, .slice ao4 k cap4] rfl rfl 26 _ (heap_alloc_new _ _) (by kernel_rfl) rfl (tb_one _ _ _ _) ?_; rw [World.setRow_alloc_new]; simp only [Act.put])
  refine HSM.out.mono ?_
  rintro _ w6 ⟨rfl, hb6⟩
  dsimp only
  go_wp2_with fail
  go_ret
  exact ⟨rfl, hB5.trans (hb6.mono hB5.size)⟩
end Rm
end Go.Proofs.YtllejfnmbpjhaaaDoor
