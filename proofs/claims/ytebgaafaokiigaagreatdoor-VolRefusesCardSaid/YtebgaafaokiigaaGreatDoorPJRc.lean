import Derived.Test.YtebgaafaokiigaaGreatDoorPRmRepl
import Derived.Test.YtebgaafaokiigaaGreatDoorPJDn
import Derived.DeepKeys
/- remap: the reference's Copy. -/
namespace Go.Proofs.YtebgaafaokiigaaGreatDoor
set_option maxRecDepth 20000
namespace Rm
open Go.RowKit Dk

theorem results_cp {tmps : Array Value} {w : World} {B : Nat} {u : Array Value} {fn : Func} (hf : fn.results = #[.cell 2 28]) (h2 : tmps.getD 2 undef = .pointer (some ⟨B, 0, none⟩))
    (hA : w.heap[B]? = some (.cells u 28 (0, 0))) (su : u.size = 2) : (results fn tmps).run Tryz.prog w = .ok (.agg u) w := by
  have h2' : tmps[2]?.getD undef = .pointer (some ⟨B, 0, none⟩) := by simpa using h2
  have k2 := run_loadVar_row (P := Tryz.prog) w B 28 28 u (0, 0) _ hA Tryz.underlying28 rfl (by rw [su]; kernel_rfl)
  simp [results, hf, h2', asAddr, k2]

set_option maxRecDepth 100000 in
set_option maxHeartbeats 4000000 in
theorem refcopy_any (gen : Int) (n : Nat) (F T : Nat → Int) (pa : Option Addr) (cap g : Nat) (w : World) (hl : Lay w w.heap.size g pa n cap 2 (prV F T)) (hn : n * 16 ≤ 140737488355328) :
    Calls Tryz.prog 26 #[.agg #[.int .i64 gen, .slice pa n cap]] w fun e w' => (∃ v, e = .returned v ∧ NewTab w' w.heap.size gen n F T v) ∧ Below w.heap.size w w' := by
  have HL := Lib.hid hl
  clear hl
  obtain ⟨i0, hi, hz0, hz1, hz2⟩ := info_parts info_pr
  go_enter Tryz.func26, Tryz.ntmps26
  have hW : ∃ W, W = (w.alloc (.cells #[.int .i64 gen, .slice pa n cap] 28)).alloc (.cells #[.int .i64 0, .slice none 0 0] 28) := ⟨_, rfl⟩
  obtain ⟨W, hW⟩ := hW
  have hB0 : Below w.heap.size w W := by rw [hW]; exact ((Below.refl _ _).alloc (Nat.le_refl _) _).alloc (by simp) _
  have hx0 : W.heap[w.heap.size]? = some (.cells #[.int .i64 gen, .slice pa n cap] 28 (0, 0)) := by rw [hW]; exact (Below.heap_alloc _ _ _ (by simp)).trans (heap_alloc_new w _)
  have hr0 : W.heap[w.heap.size + 1]? = some (.cells #[.int .i64 0, .slice none 0 0] 28 (0, 0)) := by
    rw [hW]
    have := heap_alloc_new (w.alloc (.cells #[.int .i64 gen, .slice pa n cap] 28)) (.cells #[.int .i64 0, .slice none 0 0] 28)
    rwa [World.size_alloc] at this
  have hs0 : W.heap.size = w.heap.size + 2 := by rw [hW]; simp
  have HLW : Hid (Lay W W.heap.size g pa n cap 2 (prV F T)) := Lib.hid ((HL.out.below hB0).more (by omega))
  have HC3 := Lib.hid (fun (o : Obj) (r : Option Nat) (w3 : World) (hg : (W.alloc o).grownBy w3 r) (hr : ∀ q, r = some q → W.heap.size ≤ q) => show w3.heap[w.heap.size]? = some (.cells #[.int .i64 gen, .slice pa n cap] 28 (0, 0)) ∧ w3.heap[w.heap.size + 1]? = some (.cells #[.int .i64 0, .slice none 0 0] 28 (0, 0)) ∧ Below w.heap.size w w3 from by
    have hne : ∀ q, q < W.heap.size → some q ≠ r := fun q hq e => by
      have := hr q e.symm
      omega
    have e0 := hg.block w.heap.size (by simp; omega) (hne _ (by omega))
    have e1 := hg.block (w.heap.size + 1) (by simp; omega) (hne _ (by omega))
    exact ⟨e0.trans ((Below.heap_alloc _ _ _ (by omega)).trans hx0), e1.trans ((Below.heap_alloc _ _ _ (by omega)).trans hr0), (hB0.alloc hB0.size _).grown hg (by simp; omega) (fun q hq => by have := hr q hq; omega)⟩)
  clear HL
  have c1 : ∀ o, (W.alloc o).cell? ⟨w.heap.size, 1, none⟩ = some (.slice pa n cap) := fun o => (World.cell?_alloc_lt _ _ _ (by show w.heap.size < W.heap.size; omega)).trans (by rw [cell_of_row _ _ _ _ _ _ hx0]; rfl)
  have HS0 := Lib.hid hs0
  clear hs0 hx0 hr0 hB0
  go_wp2_with (first
    | (rw [← hW]; clear hW)
    | (at_builtin; refine Hid.out ?_))
  refine Lib.hid ?_
  go_loud (refine append_lay rfl (.tmp 3) (.tmp 5) 26 134 i0 _ 2 16 rfl slice_pr hi hz0 hz1 hz2 rfl (by omega) W.heap.size _ [] 0 rfl (World.ownsRow_lit W #[] 0 (Nat.le_refl _) (by decide) rfl) W.heap.size g pa n cap (prV F T) rfl (HLW.out.keep fun b hb _ => Below.heap_alloc _ _ _ hb) (fun i _ => prV_length _ _ _) (fun i _ => prV_one _ _ _) (maxLen_ge (by omega)) (by omega) (by simp) ?_)
  intro v' w3 hO3' hg3
  have hO3 : w3.ownsRow W.heap.size 134 2 v' n (flat (prV F T) n) := by simpa using hO3'
  obtain ⟨e0, e1, e2⟩ := HC3.out _ _ w3 hg3 (by intro q hq; injection hq with hq; subst hq; exact Nat.le_refl _)
  obtain ⟨ao3, cap3, rfl⟩ := owns_slice hO3
  have k1 : w3.cell? ⟨w.heap.size, 1, none⟩ = some (.slice pa n cap) := by rw [cell_of_row _ _ _ _ _ _ e0]; rfl
  have hx4 : (w3.setCell ⟨w.heap.size, 1, none⟩ (.slice ao3 n cap3)).heap[w.heap.size]? = some (.cells #[.int .i64 gen, .slice ao3 n cap3] 28 (0, 0)) := heap_setCell_same w3 w.heap.size 1 #[.int .i64 gen, .slice pa n cap] _ _ e0
  have f1 := frozen_of_row w3 w.heap.size 1 _ _ e0
  have cA : (w3.setCell ⟨w.heap.size, 1, none⟩ (.slice ao3 n cap3)).cell? ⟨w.heap.size, 0, none⟩ = some (.int .i64 gen) := by rw [cell_of_row _ _ _ _ _ _ hx4]; rfl
  have cB : (w3.setCell ⟨w.heap.size, 1, none⟩ (.slice ao3 n cap3)).cell? ⟨w.heap.size, 1, none⟩ = some (.slice ao3 n cap3) := by rw [cell_of_row _ _ _ _ _ _ hx4]; rfl
  have hr4 : (w3.setCell ⟨w.heap.size, 1, none⟩ (.slice ao3 n cap3)).heap[w.heap.size + 1]? = some (.cells #[.int .i64 0, .slice none 0 0] 28 (0, 0)) := (Below.heap_setCell _ _ _ _ (by show w.heap.size + 1 ≠ w.heap.size; omega)).trans e1
  have hg4 : w3.grownBy (w3.setCell ⟨w.heap.size, 1, none⟩ (.slice ao3 n cap3)) (some w.heap.size) := ⟨rfl, rfl, rfl, by simp, fun i _ hr => Below.heap_setCell _ _ _ _ (by simpa using hr)⟩
  have hB4 : Below w.heap.size w (w3.setCell ⟨w.heap.size, 1, none⟩ (.slice ao3 n cap3)) := e2.setCell (Nat.le_refl _) _
  have HNE := Lib.hid (fun q (hq : q < W.heap.size) => show some q ≠ (Value.slice ao3 n cap3).ownBlock from fun e => by
      have := (hO3.lt q e.symm).1
      omega)
  have HO4 := Lib.hid (hO3.kept hg4 (.inr (HNE.out w.heap.size (by have := HS0.out; omega)).symm))
  have HB4 := Lib.hid hB4
  clear hg4 hB4 hO3 hO3' e1 e2 hg3 HC3 c1
  go_wp2_with (refine wpList_store_row rfl 28 (.tmp 2) (.tmp 8) rfl (w.heap.size + 1) #[.int .i64 gen, .slice ao3 n cap3] rfl rfl 28 _ hr4 (by kernel_rfl) rfl (tb_one _ _ _ _) ?_; simp only [Act.put])
  have hr5 := setRow_heap (w3.setCell ⟨w.heap.size, 1, none⟩ (.slice ao3 n cap3)) (w.heap.size + 1) _ #[.int .i64 gen, .slice ao3 n cap3] 28 (0, 0) hr4
  refine bodyPost_ret (results_cp rfl rfl hr5 rfl) rfl ?_
  have hg : (w3.setCell ⟨w.heap.size, 1, none⟩ (.slice ao3 n cap3)).grownBy ((w3.setCell ⟨w.heap.size, 1, none⟩ (.slice ao3 n cap3)).setRow (w.heap.size + 1) #[.int .i64 gen, .slice ao3 n cap3]) (some (w.heap.size + 1)) := ⟨rfl, rfl, rfl, by simp, fun i _ hr => setRow_other _ _ _ _ (by simpa using hr)⟩
  exact ⟨⟨_, rfl, ao3, cap3, rfl, owns_mono (HO4.out.kept hg (.inr (HNE.out (w.heap.size + 1) (by have := HS0.out; omega)).symm)) (by have := HS0.out; omega)⟩, HB4.out.trans ⟨rfl, rfl, rfl, by simp, fun i hi => setRow_other _ _ i _ (by omega)⟩⟩
end Rm
end Go.Proofs.YtebgaafaokiigaaGreatDoor
/- remap: the reference's Same, of what is the same. -/
namespace Go.Proofs.YtebgaafaokiigaaGreatDoor
set_option maxRecDepth 20000
namespace Rm
open Go.RowKit Dk

theorem eq_pr (a b : Int) (w : World) : (Op.equalIn 10000 134 (.agg #[.int .i64 a, .int .i64 b]) (.agg #[.int .i64 a, .int .i64 b])).run Tryz.prog w = .ok true w := by
  rw [run_equalIn_struct w 9999 134 _ _ (by kernel_rfl) (by kernel_rfl)]
  obtain ⟨f0, f1, hf, t0, o0, t1, o1⟩ : ∃ f0 f1 : Field, (Tryz.prog.fieldsOf 134).toList = [f0, f1] ∧ f0.type = 3 ∧ f0.offset = 0 ∧ f1.type = 3 ∧ f1.offset = 1 := ⟨_, _, rfl, rfl, rfl, rfl, rfl⟩
  rw [hf]
  refine eqFields_same 9999 _ w _ fun f hm => ?_
  simp only [List.mem_cons, List.not_mem_nil, or_false] at hm
  rcases hm with rfl | rfl
  · rw [t0, o0]
    exact ⟨_, part_int _ 0 a rfl w, by rw [run_equalIn_int w 9998 _ .i64 .i64 _ _ (by kernel_rfl)]; simp⟩
  · rw [t1, o1]
    exact ⟨_, part_int _ 1 b rfl w, by rw [run_equalIn_int w 9998 _ .i64 .i64 _ _ (by kernel_rfl)]; simp⟩

set_option maxRecDepth 100000 in
set_option maxHeartbeats 2000000 in
theorem refsame_any (gen : Int) (n : Nat) (F T : Nat → Int) (pa pb : Option Addr) (cap cap2 g g2 : Nat) (w : World) (hn : n ≤ 140737488355328)
    (hl : Lay w w.heap.size g pa n cap 2 (prV F T)) (hl2 : Lay w w.heap.size g2 pb n cap2 2 (prV F T)) :
    Calls Tryz.prog 40 #[.agg #[.int .i64 gen, .slice pa n cap], .agg #[.int .i64 gen, .slice pb n cap2]] w fun e w' => e = .returned (.bool true) ∧ Below w.heap.size w w' := by
  have HS1 := Lib.hid hl
  have HS2 := Lib.hid hl2
  clear hl hl2
  go_enter Tryz.func40, Tryz.ntmps40
  go_wp2_with fail
  generalize hW : (w.alloc (.cells #[.int .i64 gen, .slice pa n cap] 28)).alloc (.cells #[.int .i64 gen, .slice pb n cap2] 28) = W
  have hb : Below w.heap.size w W := by rw [← hW]; exact ((Below.refl _ _).alloc (Nat.le_refl _) _).alloc (by simp) _
  have hs : W.heap.size = w.heap.size + 2 := by rw [← hW]; simp
  have bx : W.heap[w.heap.size]? = some (.cells #[.int .i64 gen, .slice pa n cap] 28 (0, 0)) := by
    rw [← hW]
    exact (Below.heap_alloc _ _ _ (by simp)).trans (heap_alloc_new w _)
  have bY : W.heap[w.heap.size + 1]? = some (.cells #[.int .i64 gen, .slice pb n cap2] 28 (0, 0)) := by
    rw [← hW]
    have := heap_alloc_new (w.alloc (.cells #[.int .i64 gen, .slice pa n cap] 28)) (.cells #[.int .i64 gen, .slice pb n cap2] 28)
    rwa [World.size_alloc] at this
  clear hW
  have x0 : W.cell? ⟨w.heap.size, 0, none⟩ = some (.int .i64 gen) := by rw [cell_of_row _ _ _ _ _ _ bx]; rfl
  have x1 : W.cell? ⟨w.heap.size, 1, none⟩ = some (.slice pa n cap) := by rw [cell_of_row _ _ _ _ _ _ bx]; rfl
  have y0 : W.cell? ⟨w.heap.size + 1, 0, none⟩ = some (.int .i64 gen) := by rw [cell_of_row _ _ _ _ _ _ bY]; rfl
  have y1 : W.cell? ⟨w.heap.size + 1, 1, none⟩ = some (.slice pb n cap2) := by rw [cell_of_row _ _ _ _ _ _ bY]; rfl
  have hlx : w.heap.size < W.heap.size := by omega
  have hly : w.heap.size + 1 < W.heap.size := by omega
  have LS1 := Lib.hid (HS1.out.below hb)
  have LS2 := Lib.hid (HS2.out.below hb)
  clear bx bY HS1 HS2
  go_wp2_with fail
  go_loopw [5] (fun i wr => ∃ j : Nat, j ≤ n ∧ i = .int .i64 j ∧ Below W.heap.size W wr) (fun i _ => n - (intOf i).toNat)
  case atStart => exact ⟨0, by omega, rfl, Below.refl _ _⟩
  case round =>
    obtain ⟨j, hj, rfl, hB⟩ := hrel
    have v1 := (hB.cell (p := ⟨w.heap.size, 1, none⟩) hlx).trans x1
    by_cases hlt : j < n
    · obtain ⟨b1, o1, rfl, hb1', _, hr1⟩ := LS1.out.rows.resolve_left (by omega)
      obtain ⟨b2, o2, rfl, hb2', _, hr2⟩ := LS2.out.rows.resolve_left (by omega)
      have hb1 : b1 < W.heap.size := by omega
      have hb2 : b2 < W.heap.size := by omega
      have hj0 : (0 : Int) ≤ (j : Int) := by omega
      have hjn : (j : Int) < (n : Int) := by omega
      go_wp2_with fail
      refine wp_region_quiet (C := fun w' => Below W.heap.size W w') (by kernel_rfl) (by kernel_rfl) (hB.trans ⟨rfl, rfl, rfl, Nat.le_refl _, fun _ _ => rfl⟩) ?_
      refine q_val (.pointer (some ⟨w.heap.size, 1, none⟩)) rfl (fun w' hw' => by go_simp) ?_
      simp only [Act.put, List.setIfInBounds_toArray, List.set_cons_succ, List.set_cons_zero]
      refine q_val (.slice (some ⟨b1, o1, none⟩) n cap) rfl (fun w' hw' => by have k1 := (hw'.cell (p := ⟨w.heap.size, 1, none⟩) hlx).trans x1; go_simp) ?_
      simp only [Act.put, List.setIfInBounds_toArray, List.set_cons_succ, List.set_cons_zero]
      refine q_val (.int .i64 j) rfl (fun w' hw' => by go_simp) ?_
      simp only [Act.put, List.setIfInBounds_toArray, List.set_cons_succ, List.set_cons_zero]
      refine q_val (.pointer (some ⟨b1, o1 + j * 2, none⟩)) rfl (fun w' hw' => by go_simp) ?_
      simp only [Act.put, List.setIfInBounds_toArray, List.set_cons_succ, List.set_cons_zero]
      refine q_load_mid2 134 (.tmp 30) rfl rfl b1 (o1 + j * 2) rfl (prV F T j) _ (fun w' hw' i v hv => (hw'.cell (p := ⟨b1, o1 + j * 2 + i, none⟩) hb1).trans (hr1 j hlt i v hv)) Tryz.underlying134 rfl (by kernel_rfl) ?_
      simp only [Act.put, List.setIfInBounds_toArray, List.set_cons_succ, List.set_cons_zero]
      refine q_val (.pointer (some ⟨w.heap.size + 1, 1, none⟩)) rfl (fun w' hw' => by go_simp) ?_
      simp only [Act.put, List.setIfInBounds_toArray, List.set_cons_succ, List.set_cons_zero]
      refine q_val (.slice (some ⟨b2, o2, none⟩) n cap2) rfl (fun w' hw' => by have k1 := (hw'.cell (p := ⟨w.heap.size + 1, 1, none⟩) hly).trans y1; go_simp) ?_
      simp only [Act.put, List.setIfInBounds_toArray, List.set_cons_succ, List.set_cons_zero]
      refine q_val (.int .i64 j) rfl (fun w' hw' => by go_simp) ?_
      simp only [Act.put, List.setIfInBounds_toArray, List.set_cons_succ, List.set_cons_zero]
      refine q_val (.pointer (some ⟨b2, o2 + j * 2, none⟩)) rfl (fun w' hw' => by go_simp) ?_
      simp only [Act.put, List.setIfInBounds_toArray, List.set_cons_succ, List.set_cons_zero]
      refine q_load_mid2 134 (.tmp 35) rfl rfl b2 (o2 + j * 2) rfl (prV F T j) _ (fun w' hw' i v hv => (hw'.cell (p := ⟨b2, o2 + j * 2 + i, none⟩) hb2).trans (hr2 j hlt i v hv)) Tryz.underlying134 rfl (by kernel_rfl) ?_
      simp only [Act.put, List.setIfInBounds_toArray, List.set_cons_succ, List.set_cons_zero]
      refine q_neq 134 134 (.tmp 31) (.tmp 36) rfl rfl (prV F T j).toArray rfl rfl (by kernel_rfl) (fun w' _ => eq_pr (F j) (T j) w') ?_
      simp only [Act.put, List.setIfInBounds_toArray, List.set_cons_succ, List.set_cons_zero]
      refine wpQuiet_nil ?_
      intro w' hw'
      go_wp2_with fail
      go_roundw
      case rel => exact ⟨j + 1, by omega, by go_num, hw'⟩
      case measure => simp [intOf]; omega
    · obtain rfl : j = n := by omega
      have hB' := hb.trans (hB.mono (by omega))
      go_wp2_with fail
      go_ret
      exact ⟨rfl, hB'⟩
end Rm
end Go.Proofs.YtebgaafaokiigaaGreatDoor
