/- remap: the reference's Same, of what is the same. -/
import Derived.Test.YtlhncceajpdahaaDoorRmRepl
import Derived.Test.YtlhncceajpdahaaDoorDkSame
import Derived.DeepKeys
namespace Go.Proofs.YtlhncceajpdahaaDoor
set_option maxRecDepth 20000
namespace Rm
open Go.RowKit Dk

theorem eq_pr (a b : Int) (w : World) : (Op.equalIn 10000 69 (.agg #[.int .i64 a, .int .i64 b]) (.agg #[.int .i64 a, .int .i64 b])).run Tryd.prog w = .ok true w := by
  rw [run_equalIn_struct w 9999 69 _ _ (by kernel_rfl) (by kernel_rfl)]
  obtain ⟨f0, f1, hf, t0, o0, t1, o1⟩ : ∃ f0 f1 : Field, (Tryd.prog.fieldsOf 69).toList = [f0, f1] ∧ f0.type = 3 ∧ f0.offset = 0 ∧ f1.type = 3 ∧ f1.offset = 1 := ⟨_, _, rfl, rfl, rfl, rfl, rfl⟩
  rw [hf]
  refine eqFields_same 9999 _ w _ fun f hm => ?_
  simp only [List.mem_cons, List.not_mem_nil, or_false] at hm
  rcases hm with rfl | rfl
  · rw [t0, o0]
    exact ⟨_, part_int _ 0 a rfl w, by rw [run_equalIn_int w 9998 _ .i64 .i64 _ _ (by kernel_rfl)]; simp⟩
  · rw [t1, o1]
    exact ⟨_, part_int _ 1 b rfl w, by rw [run_equalIn_int w 9998 _ .i64 .i64 _ _ (by kernel_rfl)]; simp⟩

set_option maxRecDepth 100000 in
set_option maxHeartbeats 2000000 in
theorem refsame_any (gen : Int) (n : Nat) (F T : Nat → Int) (pa pb : Option Addr) (cap cap2 g g2 : Nat) (w : World) (hn : n ≤ 140737488355328)
    (hl : Lay w w.heap.size g pa n cap 2 (prV F T)) (hl2 : Lay w w.heap.size g2 pb n cap2 2 (prV F T)) :
    Calls Tryd.prog 19 #[.agg #[.int .i64 gen, .slice pa n cap], .agg #[.int .i64 gen, .slice pb n cap2]] w fun e w' => e = .returned (.bool true) ∧ Below w.heap.size w w' := by
  have HS1 := Lib.hid hl
  have HS2 := Lib.hid hl2
  clear hl hl2
  go_enter Tryd.func19, Tryd.ntmps19
  go_wp2_with fail
  generalize hW : (w.alloc (.cells #[.int .i64 gen, .slice pa n cap] 24)).alloc (.cells #[.int .i64 gen, .slice pb n cap2] 24) = W
  have hb : Below w.heap.size w W := by rw [← hW]; exact ((Below.refl _ _).alloc (Nat.le_refl _) _).alloc (by simp) _
  have hs : W.heap.size = w.heap.size + 2 := by rw [← hW]; simp
  have bx : W.heap[w.heap.size]? = some (.cells #[.int .i64 gen, .slice pa n cap] 24 (0, 0)) := by
    rw [← hW]
    exact (Below.heap_alloc _ _ _ (by simp)).trans (heap_alloc_new w _)
  have bY : W.heap[w.heap.size + 1]? = some (.cells #[.int .i64 gen, .slice pb n cap2] 24 (0, 0)) := by
    rw [← hW]
    have := heap_alloc_new (w.alloc (.cells #[.int .i64 gen, .slice pa n cap] 24)) (.cells #[.int .i64 gen, .slice pb n cap2] 24)
    rwa [World.size_alloc] at this
  clear hW
  have x0 : W.cell? ⟨w.heap.size, 0, none⟩ = some (.int .i64 gen) := by rw [cell_of_row _ _ _ _ _ _ bx]; rfl
  have x1 : W.cell? ⟨w.heap.size, 1, none⟩ = some (.slice pa n cap) := by rw [cell_of_row _ _ _ _ _ _ bx]; rfl
  have y0 : W.cell? ⟨w.heap.size + 1, 0, none⟩ = some (.int .i64 gen) := by rw [cell_of_row _ _ _ _ _ _ bY]; rfl
  have y1 : W.cell? ⟨w.heap.size + 1, 1, none⟩ = some (.slice pb n cap2) := by rw [cell_of_row _ _ _ _ _ _ bY]; rfl
  have hlx : w.heap.size < W.heap.size := by omega
  have hly : w.heap.size + 1 < W.heap.size := by omega
  have LS1 := Lib.hid (HS1.out.below hb)
  have LS2 := Lib.hid (HS2.out.below hb)
  clear bx bY HS1 HS2
  go_wp2_with fail
  go_loopw [5] (fun i wr => ∃ j : Nat, j ≤ n ∧ i = .int .i64 j ∧ Below W.heap.size W wr) (fun i _ => n - (intOf i).toNat)
  case atStart => exact ⟨0, by omega, rfl, Below.refl _ _⟩
  case round =>
    obtain ⟨j, hj, rfl, hB⟩ := hrel
    have v1 := (hB.cell (p := ⟨w.heap.size, 1, none⟩) hlx).trans x1
    by_cases hlt : j < n
    · obtain ⟨b1, o1, rfl, hb1', _, hr1⟩ := LS1.out.rows.resolve_left (by omega)
      obtain ⟨b2, o2, rfl, hb2', _, hr2⟩ := LS2.out.rows.resolve_left (by omega)
      have hb1 : b1 < W.heap.size := by omega
      have hb2 : b2 < W.heap.size := by omega
      have hj0 : (0 : Int) ≤ (j : Int) := by omega
      have hjn : (j : Int) < (n : Int) := by omega
      go_wp2_with fail
      refine wp_region_quiet (C := fun w' => Below W.heap.size W w') (by kernel_rfl) (by kernel_rfl) (hB.trans ⟨rfl, rfl, rfl, Nat.le_refl _, fun _ _ => rfl⟩) ?_
      refine q_val (.pointer (some ⟨w.heap.size, 1, none⟩)) rfl (fun w' hw' => by go_simp) ?_
      simp only [Act.put, List.setIfInBounds_toArray, List.set_cons_succ, List.set_cons_zero]
      refine q_val (.slice (some ⟨b1, o1, none⟩) n cap) rfl (fun w' hw' => by have k1 := (hw'.cell (p := ⟨w.heap.size, 1, none⟩) hlx).trans x1; go_simp) ?_
      simp only [Act.put, List.setIfInBounds_toArray, List.set_cons_succ, List.set_cons_zero]
      refine q_val (.int .i64 j) rfl (fun w' hw' => by go_simp) ?_
      simp only [Act.put, List.setIfInBounds_toArray, List.set_cons_succ, List.set_cons_zero]
      refine q_val (.pointer (some ⟨b1, o1 + j * 2, none⟩)) rfl (fun w' hw' => by go_simp) ?_
      simp only [Act.put, List.setIfInBounds_toArray, List.set_cons_succ, List.set_cons_zero]
      refine q_load_mid2 69 (.tmp 30) rfl rfl b1 (o1 + j * 2) rfl (prV F T j) _ (fun w' hw' i v hv => (hw'.cell (p := ⟨b1, o1 + j * 2 + i, none⟩) hb1).trans (hr1 j hlt i v hv)) Tryd.underlying69 rfl (by kernel_rfl) ?_
      simp only [Act.put, List.setIfInBounds_toArray, List.set_cons_succ, List.set_cons_zero]
      refine q_val (.pointer (some ⟨w.heap.size + 1, 1, none⟩)) rfl (fun w' hw' => by go_simp) ?_
      simp only [Act.put, List.setIfInBounds_toArray, List.set_cons_succ, List.set_cons_zero]
      refine q_val (.slice (some ⟨b2, o2, none⟩) n cap2) rfl (fun w' hw' => by have k1 := (hw'.cell (p := ⟨w.heap.size + 1, 1, none⟩) hly).trans y1; go_simp) ?_
      simp only [Act.put, List.setIfInBounds_toArray, List.set_cons_succ, List.set_cons_zero]
      refine q_val (.int .i64 j) rfl (fun w' hw' => by go_simp) ?_
      simp only [Act.put, List.setIfInBounds_toArray, List.set_cons_succ, List.set_cons_zero]
      refine q_val (.pointer (some ⟨b2, o2 + j * 2, none⟩)) rfl (fun w' hw' => by go_simp) ?_
      simp only [Act.put, List.setIfInBounds_toArray, List.set_cons_succ, List.set_cons_zero]
      refine q_load_mid2 69 (.tmp 35) rfl rfl b2 (o2 + j * 2) rfl (prV F T j) _ (fun w' hw' i v hv => (hw'.cell (p := ⟨b2, o2 + j * 2 + i, none⟩) hb2).trans (hr2 j hlt i v hv)) Tryd.underlying69 rfl (by kernel_rfl) ?_
      simp only [Act.put, List.setIfInBounds_toArray, List.set_cons_succ, List.set_cons_zero]
      refine q_neq 69 69 (.tmp 31) (.tmp 36) rfl rfl (prV F T j).toArray rfl rfl (by kernel_rfl) (fun w' _ => eq_pr (F j) (T j) w') ?_
      simp only [Act.put, List.setIfInBounds_toArray, List.set_cons_succ, List.set_cons_zero]
      refine wpQuiet_nil ?_
      intro w' hw'
      go_wp2_with fail
      go_roundw
      case rel => exact ⟨j + 1, by omega, by go_num, hw'⟩
      case measure => simp [intOf]; omega
    · obtain rfl : j = n := by omega
      have hB' := hb.trans (hB.mono (by omega))
      go_wp2_with fail
      go_ret
      exact ⟨rfl, hB'⟩
end Rm
end Go.Proofs.YtlhncceajpdahaaDoor
