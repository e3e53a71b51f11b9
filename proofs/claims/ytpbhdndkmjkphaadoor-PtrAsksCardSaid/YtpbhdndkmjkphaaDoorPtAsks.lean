/- PtrAsks: the law's walk (made by tools/gen_pasks.py). -/
import Derived.Test.YtpbhdndkmjkphaaDoorPtMakes
namespace Go.Proofs.YtpbhdndkmjkphaaDoor
set_option maxRecDepth 20000
namespace Pt
open Go.RowKit Dk Eqb Byt

attribute [local irreducible] wpQuiet
set_option maxRecDepth 100000 in
set_option maxHeartbeats 1000000 in
theorem asks_any (p : Pn) (D : Nat → Int) (w : World) (hD : Bytes D) (hk : Kp w) : Calls Tryd.prog 4 #[.agg (pV p).toArray, .agg (bl D).toArray] w fun e w' => e = .returned (.bool true) ∧ Below w.heap.size w w' := by
  have HK := Lib.hid (fun W (hb : Below w.heap.size w W) => hk.below hb)
  have HI := Lib.hid (fun W => ishole_any p W)
  have HE := Lib.hid (fun W => eq_pt p hole W)
  rw [show eqP p hole = isHole p from rfl] at HE
  have HR1 := Lib.hid (fun W => right_any p W)
  have HR2 := Lib.hid (fun W => refright_any p W)
  have HF1 := Lib.hid (fun W (hk : Kp W) => fits_any p D W hD hk)
  have HF2 := Lib.hid (fun (W : World) (hk : Kp W) => reffits_any p D W hD hk.2)
  generalize isHole p = h at *
  generalize rightB p = r at *
  generalize fitsB p D = f at *
  clear hD hk
  obtain ⟨W, hW, hB0, hs0, hx0, hr0⟩ := box_pb w p D
  go_enter Tryd.func4, Tryd.ntmps4
  go_wp2_with fail
  rw [← hW]
  clear hW
  have HX := Lib.hid (fun w' (hw' : Below W.heap.size W w') => row_pt ((hw'.block w.heap.size (by omega)).trans hx0))
  have HB := Lib.hid (fun w' (hw' : Below W.heap.size W w') => row_range (hr0.block (hw'.block (w.heap.size + 1) (by omega))))
  have HKW := Lib.hid (fun w' (hw' : Below W.heap.size W w') => HK.out w' (hB0.trans (hw'.mono (by omega))))
  clear hx0 hr0 HK
  refine wp_region_quiet (C := fun w' => Below W.heap.size W w') (by kernel_rfl) (by kernel_rfl) ⟨rfl, rfl, rfl, Nat.le_refl _, fun _ _ => rfl⟩ ?_
  refine q_call 9 _ (.bool true) rfl (fun w' => by go_simp) (fun w' hw' => (alive5_any w' (HKW.out w' hw')).mono fun e w'' ⟨he, hb⟩ => ⟨he, hw'.trans (hb.mono hw'.size)⟩) ?_
  simp only [Act.put, List.setIfInBounds_toArray, List.set_cons_succ, List.set_cons_zero]
  refine q_move _ rfl rfl ?_
  simp only [Act.put, List.setIfInBounds_toArray, List.set_cons_succ, List.set_cons_zero]
  refine q_loadB 26 (.tmp 2) rfl (by kernel_rfl) w.heap.size 0 rfl (pV p) _ (fun w' hw' => HX.out w' hw') undP rfl (sizeP p) ?_
  simp only [Act.put, List.setIfInBounds_toArray, List.set_cons_succ, List.set_cons_zero]
  refine q_call 14 _ (.bool h) (by kernel_rfl) (fun w' => by go_simp) (fun w' hw' => (HI.out w').mono fun e w'' ⟨he, hb⟩ => ⟨he, hw'.trans (hb.mono hw'.size)⟩) ?_
  simp only [Act.put, List.setIfInBounds_toArray, List.set_cons_succ, List.set_cons_zero]
  refine q_loadB 26 (.tmp 2) rfl (by kernel_rfl) w.heap.size 0 rfl (pV p) _ (fun w' hw' => HX.out w' hw') undP rfl (sizeP p) ?_
  simp only [Act.put, List.setIfInBounds_toArray, List.set_cons_succ, List.set_cons_zero]
  refine q_call 13 _ (.agg (pV hole).toArray) (by kernel_rfl) (fun w' => by go_simp) (fun w' hw' => (refhole_any w').mono fun e w'' ⟨he, hb⟩ => ⟨he, hw'.trans (hb.mono hw'.size)⟩) ?_
  simp only [Act.put, List.setIfInBounds_toArray, List.set_cons_succ, List.set_cons_zero]
  refine q_eqlV 26 _ (.tmp 9) (.tmp 10) rfl (by kernel_rfl) ((pV p).toArray) ((pV hole).toArray) rfl rfl h guardP (fun w' _ => HE.out w') ?_
  simp only [Act.put, List.setIfInBounds_toArray, List.set_cons_succ, List.set_cons_zero]
  refine q_val (.bool true) (by kernel_rfl) (fun w' hw' => by go_simp) ?_
  simp only [Act.put, List.setIfInBounds_toArray, List.set_cons_succ, List.set_cons_zero]
  refine q_val (.bool true) rfl (fun w' hw' => by go_simp) ?_
  simp only [Act.put, List.setIfInBounds_toArray, List.set_cons_succ, List.set_cons_zero]
  refine q_move _ rfl rfl ?_
  simp only [Act.put, List.setIfInBounds_toArray, List.set_cons_succ, List.set_cons_zero]
  refine q_loadB 26 (.tmp 2) rfl (by kernel_rfl) w.heap.size 0 rfl (pV p) _ (fun w' hw' => HX.out w' hw') undP rfl (sizeP p) ?_
  simp only [Act.put, List.setIfInBounds_toArray, List.set_cons_succ, List.set_cons_zero]
  refine q_call 15 _ (.bool r) (by kernel_rfl) (fun w' => by go_simp) (fun w' hw' => (HR1.out w').mono fun e w'' ⟨he, hb⟩ => ⟨he, hw'.trans (hb.mono hw'.size)⟩) ?_
  simp only [Act.put, List.setIfInBounds_toArray, List.set_cons_succ, List.set_cons_zero]
  refine q_loadB 26 (.tmp 2) rfl (by kernel_rfl) w.heap.size 0 rfl (pV p) _ (fun w' hw' => HX.out w' hw') undP rfl (sizeP p) ?_
  simp only [Act.put, List.setIfInBounds_toArray, List.set_cons_succ, List.set_cons_zero]
  refine q_call 16 _ (.bool r) (by kernel_rfl) (fun w' => by go_simp) (fun w' hw' => (HR2.out w').mono fun e w'' ⟨he, hb⟩ => ⟨he, hw'.trans (hb.mono hw'.size)⟩) ?_
  simp only [Act.put, List.setIfInBounds_toArray, List.set_cons_succ, List.set_cons_zero]
  refine q_val (.bool true) (by kernel_rfl) (fun w' hw' => by go_simp) ?_
  simp only [Act.put, List.setIfInBounds_toArray, List.set_cons_succ, List.set_cons_zero]
  refine q_val (.bool true) rfl (fun w' hw' => by go_simp) ?_
  simp only [Act.put, List.setIfInBounds_toArray, List.set_cons_succ, List.set_cons_zero]
  refine q_move _ rfl rfl ?_
  simp only [Act.put, List.setIfInBounds_toArray, List.set_cons_succ, List.set_cons_zero]
  refine q_loadB 26 (.tmp 2) rfl (by kernel_rfl) w.heap.size 0 rfl (pV p) _ (fun w' hw' => HX.out w' hw') undP rfl (sizeP p) ?_
  simp only [Act.put, List.setIfInBounds_toArray, List.set_cons_succ, List.set_cons_zero]
  refine q_loadB 22 (.tmp 3) rfl (by kernel_rfl) (w.heap.size + 1) 0 rfl (bl D) _ (fun w' hw' => HB.out w' hw') undB rfl (size_bl D) ?_
  simp only [Act.put, List.setIfInBounds_toArray, List.set_cons_succ, List.set_cons_zero]
  refine q_call 17 _ (.bool f) (by kernel_rfl) (fun w' => by go_simp) (fun w' hw' => (HF1.out w' (HKW.out w' hw')).mono fun e w'' ⟨he, hb⟩ => ⟨he, hw'.trans (hb.mono hw'.size)⟩) ?_
  simp only [Act.put, List.setIfInBounds_toArray, List.set_cons_succ, List.set_cons_zero]
  refine q_loadB 26 (.tmp 2) rfl (by kernel_rfl) w.heap.size 0 rfl (pV p) _ (fun w' hw' => HX.out w' hw') undP rfl (sizeP p) ?_
  simp only [Act.put, List.setIfInBounds_toArray, List.set_cons_succ, List.set_cons_zero]
  refine q_loadB 22 (.tmp 3) rfl (by kernel_rfl) (w.heap.size + 1) 0 rfl (bl D) _ (fun w' hw' => HB.out w' hw') undB rfl (size_bl D) ?_
  simp only [Act.put, List.setIfInBounds_toArray, List.set_cons_succ, List.set_cons_zero]
  refine q_call 18 _ (.bool f) (by kernel_rfl) (fun w' => by go_simp) (fun w' hw' => (HF2.out w' (HKW.out w' hw')).mono fun e w'' ⟨he, hb⟩ => ⟨he, hw'.trans (hb.mono hw'.size)⟩) ?_
  simp only [Act.put, List.setIfInBounds_toArray, List.set_cons_succ, List.set_cons_zero]
  refine q_val (.bool true) (by kernel_rfl) (fun w' hw' => by go_simp) ?_
  simp only [Act.put, List.setIfInBounds_toArray, List.set_cons_succ, List.set_cons_zero]
  refine q_val (.bool true) rfl (fun w' hw' => by go_simp) ?_
  simp only [Act.put, List.setIfInBounds_toArray, List.set_cons_succ, List.set_cons_zero]
  refine q_val (.bool true) rfl (fun w' hw' => by go_simp) ?_
  simp only [Act.put, List.setIfInBounds_toArray, List.set_cons_succ, List.set_cons_zero]
  refine wpQuiet_nil ?_
  intro w' hw'
  go_wp2_with fail
  go_ret
  exact ⟨rfl, hB0.trans (hw'.mono (by omega))⟩
end Pt
end Go.Proofs.YtpbhdndkmjkphaaDoor
