/- A step of any numbers over any 64 bytes is the document's: the law's walk. -/
import Derived.Test.YtkmphpkobjhleaaDoorSame
namespace Go.Proofs.YtkmphpkobjhleaaDoor
namespace Sha
open Go.RowKit Go.Sort

set_option maxHeartbeats 1000000 in
theorem stepslaw_any (s : S8) (x : Nat → Int) (w : World) (hx : ∀ j, j < 64 → 0 ≤ x j ∧ x j < 256)
    (hK : ∀ k, k < 64 → w.cell? ⟨0, k, none⟩ = some (.int .u32 (kT k))) (hz : 0 < w.heap.size) :
    Calls Tryd.prog 4 #[.agg (arr 8 (vu32 s.at)), .agg (arr 64 (vu8 x))] w fun e w' => e = .returned (.bool true) ∧ Below w.heap.size w w' := by
  have HK := Lib.hid hK
  have HX := Lib.hid hx
  clear hK hx
  obtain ⟨A, hA⟩ : ∃ A, A = arr 8 (vu32 s.at) := ⟨_, rfl⟩
  obtain ⟨B, hB⟩ : ∃ B, B = arr 64 (vu8 x) := ⟨_, rfl⟩
  rw [← hA, ← hB]
  have HA := Lib.hid hA
  have HB := Lib.hid hB
  clear hA hB
  go_enter Tryd.func4, Tryd.ntmps4
  go_wp2_with fail
  generalize hW : (w.alloc (.cells A 28)).alloc (.cells B 29) = W
  have hA1 : W.heap[w.heap.size]? = some (.cells A 28 (0, 0)) := by
    rw [← hW, heap_alloc_old _ _ (by simp)]; exact heap_alloc_new _ _
  have hB1 : W.heap[w.heap.size + 1]? = some (.cells B 29 (0, 0)) := by
    rw [← hW]; have := heap_alloc_new (w.alloc (.cells A 28)) (.cells B 29); simpa using this
  have hb : Below w.heap.size w W := by rw [← hW]; exact ((Below.refl _ _).alloc (Nat.le_refl _) _).alloc (by simp) _
  have hs : W.heap.size = w.heap.size + 2 := by rw [← hW]; simp
  clear hW
  have hKW : ∀ w', Below W.heap.size W w' → ∀ k, k < 64 → w'.cell? ⟨0, k, none⟩ = some (.int .u32 (kT k)) := fun w' hw k hk => by
    rw [hw.cell (show 0 < W.heap.size by omega), hb.cell (show 0 < w.heap.size from hz)]; exact HK.out k hk
  have hR := equal_same8 (stepS kT s x).at
  obtain ⟨R, hRR⟩ : ∃ R, R = arr 8 (vu32 (stepS kT s x).at) := ⟨_, rfl⟩
  rw [← hRR] at hR
  have HRR := Lib.hid hRR
  clear hRR
  have HKW := Lib.hid hKW
  have HA1 := Lib.hid hA1
  have HB1 := Lib.hid hB1
  have HBE := Lib.hid hb
  clear hKW hA1 hB1 hb
  refine wp_region_quiet (C := fun w' => Below W.heap.size W w') (by kernel_rfl) (by kernel_rfl) ⟨rfl, rfl, rfl, Nat.le_refl _, fun _ _ => rfl⟩ ?_
  refine BigFrame.wpQuiet_want rfl (fun K hK => ?_)
  refine quiet_call 7 #[] (.bool true) (fun w' => by go_simp) (fun w' hw' => (alive_any w' (HKW.out w' hw') (by have := hw'.size; omega)).mono fun e w'' ⟨he, hb⟩ => ⟨he, hw'.trans (hb.mono hw'.size)⟩) (hK _ ?_)
  clear hK K
  simp only [Act.put, List.setIfInBounds_toArray, List.set_cons_succ, List.set_cons_zero]
  refine BigFrame.wpQuiet_want rfl (fun K hK => ?_)
  refine quiet_value (.bool true) (fun w' hw' => by go_simp) (hK _ ?_)
  clear hK K
  simp only [Act.put, List.setIfInBounds_toArray, List.set_cons_succ, List.set_cons_zero]
  refine BigFrame.wpQuiet_want rfl (fun K hK => ?_)
  refine quiet_load_rowC 28 (.tmp 2) rfl w.heap.size rfl 28 A (0, 0) (.array 8 27) (fun w' hw' => (hw'.block _ (by omega)).trans HA1.out) (by kernel_rfl) rfl (by rw [HA.out]; exact info8) (hK _ ?_)
  clear hK K
  simp only [Act.put, List.setIfInBounds_toArray, List.set_cons_succ, List.set_cons_zero]
  refine BigFrame.wpQuiet_want rfl (fun K hK => ?_)
  refine quiet_load_rowC 29 (.tmp 3) rfl (w.heap.size + 1) rfl 29 B (0, 0) (.array 64 5) (fun w' hw' => (hw'.block _ (by omega)).trans HB1.out) (by kernel_rfl) rfl (by rw [HB.out]; exact infob) (hK _ ?_)
  clear hK K
  simp only [Act.put, List.setIfInBounds_toArray, List.set_cons_succ, List.set_cons_zero]
  refine BigFrame.wpQuiet_want rfl (fun K hK => ?_)
  refine quiet_call 12 #[.agg A, .agg B] (.agg R) (fun w' => by go_simp) (fun w' hw' => by
    rw [HA.out, HB.out, HRR.out]
    exact (step_any s x w' kT HX.out (HKW.out w' hw') (by have := hw'.size; omega)).mono fun e w'' ⟨he, hb⟩ => ⟨he, hw'.trans (hb.mono hw'.size)⟩) (hK _ ?_)
  clear hK K
  simp only [Act.put, List.setIfInBounds_toArray, List.set_cons_succ, List.set_cons_zero]
  refine BigFrame.wpQuiet_want rfl (fun K hK => ?_)
  refine quiet_load_rowC 28 (.tmp 2) rfl w.heap.size rfl 28 A (0, 0) (.array 8 27) (fun w' hw' => (hw'.block _ (by omega)).trans HA1.out) (by kernel_rfl) rfl (by rw [HA.out]; exact info8) (hK _ ?_)
  clear hK K
  simp only [Act.put, List.setIfInBounds_toArray, List.set_cons_succ, List.set_cons_zero]
  refine BigFrame.wpQuiet_want rfl (fun K hK => ?_)
  refine quiet_load_rowC 29 (.tmp 3) rfl (w.heap.size + 1) rfl 29 B (0, 0) (.array 64 5) (fun w' hw' => (hw'.block _ (by omega)).trans HB1.out) (by kernel_rfl) rfl (by rw [HB.out]; exact infob) (hK _ ?_)
  clear hK K
  simp only [Act.put, List.setIfInBounds_toArray, List.set_cons_succ, List.set_cons_zero]
  refine BigFrame.wpQuiet_want rfl (fun K hK => ?_)
  refine quiet_call 13 #[.agg A, .agg B] (.agg R) (fun w' => by go_simp) (fun w' hw' => by
    rw [HA.out, HB.out, HRR.out]
    exact (ref_any s x w' HX.out).mono fun e w'' ⟨he, hb⟩ => ⟨he, hw'.trans (hb.mono hw'.size)⟩) (hK _ ?_)
  clear hK K
  simp only [Act.put, List.setIfInBounds_toArray, List.set_cons_succ, List.set_cons_zero]
  refine BigFrame.wpQuiet_want rfl (fun K hK => ?_)
  refine quiet_value (.bool true) (fun w' hw' => ?_) (hK _ ?_)
  · clear hK K
    go_simp
  clear hK K
  simp only [Act.put, List.setIfInBounds_toArray, List.set_cons_succ, List.set_cons_zero]
  refine BigFrame.wpQuiet_want rfl (fun K hK => ?_)
  refine quiet_value (.bool true) (fun w' hw' => by go_simp) (hK _ ?_)
  clear hK K
  simp only [Act.put, List.setIfInBounds_toArray, List.set_cons_succ, List.set_cons_zero]
  refine BigFrame.wpQuiet_want rfl (fun K hK => ?_)
  refine quiet_value (.bool true) (fun w' hw' => by go_simp) (hK _ ?_)
  clear hK K
  simp only [Act.put, List.setIfInBounds_toArray, List.set_cons_succ, List.set_cons_zero]
  refine wpQuiet_nil ?_
  intro w' hw'
  go_wp2_with fail
  go_ret
  exact ⟨rfl, HBE.out.trans (hw'.mono (by omega))⟩

end Sha
end Go.Proofs.YtkmphpkobjhleaaDoor
