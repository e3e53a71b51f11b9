/- geom: the law GeomAsks. -/
import Derived.Test.YtaocglbibnjjoaaGmAlive
import Derived.Test.YtaocglbibnjjoaaGmRWhat
namespace Go.Proofs.Ytaocglbibnjjoaa
set_option maxRecDepth 20000
namespace Gm
open Go.RowKit

attribute [local irreducible] wpQuiet
set_option maxRecDepth 100000 in
set_option maxHeartbeats 4000000 in
theorem asks8_any (g : Gg) (x : Int) (w : World) (hS : i64 g.S) (hx : i64 x) : Calls Try.prog 4 #[.agg (gA g), .int .i64 x] w fun e w' => e = .returned (.bool true) ∧ Below w.heap.size w w' := by
  have HA := Lib.hid alive8_any
  have H1 := Lib.hid (fun w => what_any g x w hS hx)
  have H2 := Lib.hid (fun w => refwhat_any g x w hx)
  have H3 := Lib.hid (fun w => quota_any g w hS)
  have H4 := Lib.hid (fun w => refquota_any g w)
  generalize wha g x = v at *
  generalize qn g = d at *
  obtain ⟨W, hW, HX⟩ := box_g w g
  have hws := HX.out.2.1
  obtain ⟨S, H, R, L, J, Z⟩ := g
  obtain ⟨a, b, c⟩ := v
  dsimp only [gA] at hW H1 H2 H3 H4 ⊢
  clear hS hx
  have HC := Lib.hid (fun w' (h : Below W.heap.size W w') => HX.out.1.below h (by omega))
  go_enter Try.func4, Try.ntmps4
  go_wp2_with (rw [← hW])
  clear hW
  refine (HA.out _).mono ?_
  rintro _ w1 ⟨rfl, hb1⟩
  dsimp only
  have HB1 := Lib.hid hb1
  have hs1 := hb1.size
  have d0 := (HC.out w1 hb1).c0
  have d1 := (HC.out w1 hb1).c1
  have d2 := (HC.out w1 hb1).c2
  have d3 := (HC.out w1 hb1).c3
  have d4 := (HC.out w1 hb1).c4
  have d5 := (HC.out w1 hb1).c5
  dsimp only at d0 d1 d2 d3 d4 d5
  clear hb1 HA
  go_wp2_with fail
  refine (H1.out _).mono ?_
  rintro _ w2 ⟨rfl, hb2⟩
  dsimp only
  have HB2 := Lib.hid (HB1.out.trans (hb2.mono hs1))
  have hs2 := hb2.size
  clear d0 d1 d2 d3 d4 d5 hb2
  have d0 := (HC.out w2 HB2.out).c0
  have d1 := (HC.out w2 HB2.out).c1
  have d2 := (HC.out w2 HB2.out).c2
  have d3 := (HC.out w2 HB2.out).c3
  have d4 := (HC.out w2 HB2.out).c4
  have d5 := (HC.out w2 HB2.out).c5
  dsimp only at d0 d1 d2 d3 d4 d5
  go_wp2_with fail
  refine (H2.out _).mono ?_
  rintro _ w3 ⟨rfl, hb3⟩
  dsimp only
  have HB3 := Lib.hid (HB2.out.trans (hb3.mono (by omega)))
  have hs3 := hb3.size
  clear d0 d1 d2 d3 d4 d5 hb3
  go_wp2_with fail
  refine wp_region_quiet (C := fun w' => Below W.heap.size W w') (by kernel_rfl) (by kernel_rfl) (HB3.out.trans ⟨rfl, rfl, rfl, Nat.le_refl _, fun _ _ => rfl⟩) ?_
  refine q_val (.agg #[.int .i64 S, .int .i64 H, .int .i64 R, .int .i64 L, .int .i64 J, .int .i64 Z]) (by kernel_rfl) (fun w' hw' => by have k0 := (HC.out w' hw').c0; have k1 := (HC.out w' hw').c1; have k2 := (HC.out w' hw').c2; have k3 := (HC.out w' hw').c3; have k4 := (HC.out w' hw').c4; have k5 := (HC.out w' hw').c5; dsimp only at k0 k1 k2 k3 k4 k5; go_simp) ?_
  simp only [Act.put, List.setIfInBounds_toArray, List.set_cons_succ, List.set_cons_zero]
  refine q_call 14 _ (.int .i64 d) (by kernel_rfl) (fun w' => by go_simp) (fun w' hw' => (H3.out w').mono fun e w'' ⟨he, hb⟩ => ⟨he, hw'.trans (hb.mono hw'.size)⟩) ?_
  simp only [Act.put, List.setIfInBounds_toArray, List.set_cons_succ, List.set_cons_zero]
  refine q_val (.agg #[.int .i64 S, .int .i64 H, .int .i64 R, .int .i64 L, .int .i64 J, .int .i64 Z]) (by kernel_rfl) (fun w' hw' => by have k0 := (HC.out w' hw').c0; have k1 := (HC.out w' hw').c1; have k2 := (HC.out w' hw').c2; have k3 := (HC.out w' hw').c3; have k4 := (HC.out w' hw').c4; have k5 := (HC.out w' hw').c5; dsimp only at k0 k1 k2 k3 k4 k5; go_simp) ?_
  simp only [Act.put, List.setIfInBounds_toArray, List.set_cons_succ, List.set_cons_zero]
  refine q_call 15 _ (.int .i64 d) (by kernel_rfl) (fun w' => by go_simp) (fun w' hw' => (H4.out w').mono fun e w'' ⟨he, hb⟩ => ⟨he, hw'.trans (hb.mono hw'.size)⟩) ?_
  simp only [Act.put, List.setIfInBounds_toArray, List.set_cons_succ, List.set_cons_zero]
  refine q_val (.bool true) (by kernel_rfl) (fun w' hw' => by go_simp) ?_
  simp only [Act.put, List.setIfInBounds_toArray, List.set_cons_succ, List.set_cons_zero]
  refine q_move _ rfl rfl ?_
  simp only [Act.put, List.setIfInBounds_toArray, List.set_cons_succ, List.set_cons_zero]
  refine q_move _ rfl (by kernel_rfl) ?_
  simp only [Act.put, List.setIfInBounds_toArray, List.set_cons_succ, List.set_cons_zero]
  refine q_move _ rfl (by kernel_rfl) ?_
  simp only [Act.put, List.setIfInBounds_toArray, List.set_cons_succ, List.set_cons_zero]
  refine q_val (.bool true) (by kernel_rfl) (fun w' hw' => by go_simp) ?_
  simp only [Act.put, List.setIfInBounds_toArray, List.set_cons_succ, List.set_cons_zero]
  refine q_val (.bool true) rfl (fun w' hw' => by go_simp) ?_
  simp only [Act.put, List.setIfInBounds_toArray, List.set_cons_succ, List.set_cons_zero]
  refine q_move _ rfl rfl ?_
  simp only [Act.put, List.setIfInBounds_toArray, List.set_cons_succ, List.set_cons_zero]
  refine q_move _ rfl (by kernel_rfl) ?_
  simp only [Act.put, List.setIfInBounds_toArray, List.set_cons_succ, List.set_cons_zero]
  refine q_move _ rfl (by kernel_rfl) ?_
  simp only [Act.put, List.setIfInBounds_toArray, List.set_cons_succ, List.set_cons_zero]
  refine q_val (.bool true) (by kernel_rfl) (fun w' hw' => by go_simp) ?_
  simp only [Act.put, List.setIfInBounds_toArray, List.set_cons_succ, List.set_cons_zero]
  refine q_val (.bool true) rfl (fun w' hw' => by go_simp) ?_
  simp only [Act.put, List.setIfInBounds_toArray, List.set_cons_succ, List.set_cons_zero]
  refine q_move _ rfl rfl ?_
  simp only [Act.put, List.setIfInBounds_toArray, List.set_cons_succ, List.set_cons_zero]
  refine q_move _ rfl (by kernel_rfl) ?_
  simp only [Act.put, List.setIfInBounds_toArray, List.set_cons_succ, List.set_cons_zero]
  refine q_move _ rfl (by kernel_rfl) ?_
  simp only [Act.put, List.setIfInBounds_toArray, List.set_cons_succ, List.set_cons_zero]
  refine q_val (.bool true) (by kernel_rfl) (fun w' hw' => by go_simp) ?_
  simp only [Act.put, List.setIfInBounds_toArray, List.set_cons_succ, List.set_cons_zero]
  refine q_val (.bool true) rfl (fun w' hw' => by go_simp) ?_
  simp only [Act.put, List.setIfInBounds_toArray, List.set_cons_succ, List.set_cons_zero]
  refine q_val (.bool true) rfl (fun w' hw' => by go_simp) ?_
  simp only [Act.put, List.setIfInBounds_toArray, List.set_cons_succ, List.set_cons_zero]
  refine wpQuiet_nil ?_
  intro w' hw'
  go_wp2_with fail
  go_ret
  exact ⟨rfl, HX.out.2.2.trans (hw'.mono (by omega))⟩
end Gm
end Go.Proofs.Ytaocglbibnjjoaa
