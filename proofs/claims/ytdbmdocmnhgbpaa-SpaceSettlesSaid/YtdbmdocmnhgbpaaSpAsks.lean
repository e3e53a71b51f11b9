/- SpaceAsks: the law's walk (made by tools/gen_spasks.py). -/
import Derived.Test.YtdbmdocmnhgbpaaSpAlive
namespace Go.Proofs.Ytdbmdocmnhgbpaa
set_option maxRecDepth 20000
namespace Sp
open Go.RowKit Dk Eqb Byt

theorem guardT : Try.prog.eqGuardType Try.prog.depth 23 = false := by kernel_rfl
attribute [local irreducible] wpQuiet
section
attribute [local go_sem] zvSp
set_option maxRecDepth 100000 in
set_option maxHeartbeats 4000000 in
theorem asks7_any (A B Z x : Int) (ao : Option Addr) (n cap : Nat) (f : Nat → Int) (w : World) (hB : i64 B) (hx : i64 x) (hs : St w w.heap.size ao n cap f) : Calls Try.prog 4 #[.agg #[.int .i64 A, .int .i64 B, .int .i64 Z, .slice ao n cap], .int .i64 x] w fun e w' => e = .returned (.bool true) ∧ Below w.heap.size w w' := by
  obtain ⟨W, hW, hbW, hsW, hxW⟩ := box_sp w A B Z ao n cap
  have HA := Lib.hid (alive7_any W)
  have hby := hs.byte
  have hrm := hs.room
  have HST := Lib.hid (fun w' (hb : Below w.heap.size w w') => hs.later hb)
  clear hs
  go_enter Try.func4, Try.ntmps4
  go_wp2_with (rw [← hW])
  clear hW
  refine HA.out.mono ?_
  rintro _ w1 ⟨rfl, hb1⟩
  dsimp only
  have HB1 := Lib.hid (hbW.trans (hb1.mono (by omega)))
  have y1 := hxW.below hb1 (by omega)
  have c0 := y1.c0
  have c1 := y1.c1
  have c2 := y1.c2
  have c3 := y1.c3
  have HY1 := Lib.hid y1
  have hs1 := hb1.size
  clear y1 hxW hb1 HA
  go_wp2_with fail
  refine (Copy_any A B Z ao n cap f w1 (HST.out w1 HB1.out)).mono ?_
  rintro _ w2 ⟨ao5, cap5, rfl, hO, hb2⟩
  dsimp only
  obtain ⟨w3, hw3⟩ : ∃ w3, w3 = w2.alloc (.cells #[.int .i64 A, .int .i64 B, .int .i64 Z, .slice ao5 n cap5] 26) := ⟨_, rfl⟩
  have hb3 : Below w2.heap.size w2 w3 := by rw [hw3]; exact (Below.refl _ _).alloc (Nat.le_refl _) _
  have hx5 : Bs w3 w2.heap.size A B Z ao5 n cap5 := by rw [hw3]; exact heap_alloc_new _ _
  have hs5 : St w3 w3.heap.size ao5 n cap5 f := (hO.below hb3).st hby hrm
  have hB13 := hb2.trans (hb3.mono hb2.size)
  have HB3 := Lib.hid (HB1.out.trans (hB13.mono HB1.out.size))
  have hy3 := HY1.out.below hB13 (by omega)
  have HW3 := Lib.hid hw3
  have hq : w2.heap.size < w3.heap.size := hx5.lt
  have hq2 : w.heap.size < w3.heap.size := hy3.lt
  have HST5 := Lib.hid (fun w' (hb : Below w3.heap.size w3 w') => hs5.later hb)
  have HX5 := Lib.hid (fun w' (hb : Below w3.heap.size w3 w') => hx5.below hb hq)
  have HX2 := Lib.hid (fun w' (hb : Below w3.heap.size w3 w') => hy3.below hb hq2)
  have HST2 := Lib.hid (fun w' (hb : Below w3.heap.size w3 w') => HST.out w' (HB3.out.trans (hb.mono HB3.out.size)))
  have HS1 := Lib.hid (fun w' (hb : Below w3.heap.size w3 w') => State_any A B Z x ao5 n cap5 f w' hB hx (HST5.out w' hb))
  have HS2 := Lib.hid (fun w' (hb : Below w3.heap.size w3 w') => refState_any A B Z x ao n cap f w' hx (HST2.out w' hb))
  have HF := Lib.hid (fun w' (hb : Below w3.heap.size w3 w') => Formed_any A B Z ao5 n cap5 f w' hB hrm (HST5.out w' hb).lies)
  have HRF := Lib.hid (fun w' (hb : Below w3.heap.size w3 w') => refFormed_any A B Z ao n cap f w' hrm (HST2.out w' hb).lies)
  have HU := Lib.hid (fun w' (hb : Below w3.heap.size w3 w') => Used_any A B Z ao5 n cap5 f w' hB (HST5.out w' hb))
  have HRU := Lib.hid (fun w' (hb : Below w3.heap.size w3 w') => refUsed_any A B Z ao n cap f w' (HST2.out w' hb))
  have HR := Lib.hid (fun w' (hb : Below w3.heap.size w3 w') => Room_any A B Z ao5 n cap5 f w' hB (HST5.out w' hb))
  have HRR := Lib.hid (fun w' (hb : Below w3.heap.size w3 w') => refRoom_any A B Z ao n cap f w' (HST2.out w' hb))
  have HS := Lib.hid (fun w' (hb : Below w3.heap.size w3 w') => Same_any A B Z ao5 ao n cap5 cap f f w' (HST5.out w' hb) (HST2.out w' hb) (fun _ _ => rfl))
  generalize stN A B Z n f x = sn at *
  generalize stE A B Z n f x = se at *
  generalize formB A B Z n f = fb at *
  generalize usedN A B Z n f = ud at *
  generalize rm0 A B Z n f = r0 at *
  generalize rm1 A B Z n f = r1 at *
  have e0 := (HX5.out w3 (Below.refl _ _)).c0
  have e1 := (HX5.out w3 (Below.refl _ _)).c1
  have e2 := (HX5.out w3 (Below.refl _ _)).c2
  have e3 := (HX5.out w3 (Below.refl _ _)).c3
  clear hw3 hx5 hs5 hO hb2 hb3 hB13 hy3 c0 c1 c2 c3
  go_wp2_with (rw [← HW3.out])
  refine (HS1.out w3 (Below.refl _ _)).mono ?_
  rintro _ w4 ⟨rfl, hb4⟩
  dsimp only
  have d0 := (HX2.out w4 hb4).c0
  have d1 := (HX2.out w4 hb4).c1
  have d2 := (HX2.out w4 hb4).c2
  have d3 := (HX2.out w4 hb4).c3
  have HB4 := Lib.hid hb4
  clear e0 e1 e2 e3 hb4
  go_wp2_with fail
  refine (HS2.out w4 HB4.out).mono ?_
  rintro _ w5 ⟨rfl, hb5⟩
  dsimp only
  have HB5 := Lib.hid (HB4.out.trans (hb5.mono HB4.out.size))
  clear d0 d1 d2 d3 hb5
  go_wp2_with fail
  refine wp_region_quiet (C := fun w' => Below w3.heap.size w3 w') (by kernel_rfl) (by kernel_rfl) (HB5.out.trans ⟨rfl, rfl, rfl, Nat.le_refl _, fun _ _ => rfl⟩) ?_
  refine q_move _ rfl rfl ?_
  simp only [Act.put, List.setIfInBounds_toArray, List.set_cons_succ, List.set_cons_zero]
  refine q_move _ rfl rfl ?_
  simp only [Act.put, List.setIfInBounds_toArray, List.set_cons_succ, List.set_cons_zero]
  refine q_val (.bool true) rfl (fun w' hw' => by go_simp) ?_
  simp only [Act.put, List.setIfInBounds_toArray, List.set_cons_succ, List.set_cons_zero]
  refine q_move _ rfl rfl ?_
  simp only [Act.put, List.setIfInBounds_toArray, List.set_cons_succ, List.set_cons_zero]
  refine q_move _ rfl (by kernel_rfl) ?_
  simp only [Act.put, List.setIfInBounds_toArray, List.set_cons_succ, List.set_cons_zero]
  refine q_move _ rfl (by kernel_rfl) ?_
  simp only [Act.put, List.setIfInBounds_toArray, List.set_cons_succ, List.set_cons_zero]
  refine q_val (.bool true) (by kernel_rfl) (fun w' hw' => by go_simp) ?_
  simp only [Act.put, List.setIfInBounds_toArray, List.set_cons_succ, List.set_cons_zero]
  refine q_val (.bool true) rfl (fun w' hw' => by go_simp) ?_
  simp only [Act.put, List.setIfInBounds_toArray, List.set_cons_succ, List.set_cons_zero]
  refine q_move _ rfl rfl ?_
  simp only [Act.put, List.setIfInBounds_toArray, List.set_cons_succ, List.set_cons_zero]
  refine q_val (.agg #[.int .i64 A, .int .i64 B, .int .i64 Z, .slice ao5 n cap5]) (by kernel_rfl) (fun w' hw' => by have k0 := (HX5.out w' hw').c0; have k1 := (HX5.out w' hw').c1; have k2 := (HX5.out w' hw').c2; have k3 := (HX5.out w' hw').c3; go_simp) ?_
  simp only [Act.put, List.setIfInBounds_toArray, List.set_cons_succ, List.set_cons_zero]
  refine q_call 16 _ (.bool fb) (by kernel_rfl) (fun w' => by go_simp) (fun w' hw' => (HF.out w' hw').mono fun e w'' ⟨he, hb⟩ => ⟨he, hw'.trans (hb.mono hw'.size)⟩) ?_
  simp only [Act.put, List.setIfInBounds_toArray, List.set_cons_succ, List.set_cons_zero]
  refine q_val (.agg #[.int .i64 A, .int .i64 B, .int .i64 Z, .slice ao n cap]) (by kernel_rfl) (fun w' hw' => by have k0 := (HX2.out w' hw').c0; have k1 := (HX2.out w' hw').c1; have k2 := (HX2.out w' hw').c2; have k3 := (HX2.out w' hw').c3; go_simp) ?_
  simp only [Act.put, List.setIfInBounds_toArray, List.set_cons_succ, List.set_cons_zero]
  refine q_call 17 _ (.bool fb) (by kernel_rfl) (fun w' => by go_simp) (fun w' hw' => (HRF.out w' hw').mono fun e w'' ⟨he, hb⟩ => ⟨he, hw'.trans (hb.mono hw'.size)⟩) ?_
  simp only [Act.put, List.setIfInBounds_toArray, List.set_cons_succ, List.set_cons_zero]
  refine q_val (.bool true) (by kernel_rfl) (fun w' hw' => by go_simp) ?_
  simp only [Act.put, List.setIfInBounds_toArray, List.set_cons_succ, List.set_cons_zero]
  refine q_val (.bool true) rfl (fun w' hw' => by go_simp) ?_
  simp only [Act.put, List.setIfInBounds_toArray, List.set_cons_succ, List.set_cons_zero]
  refine q_move _ rfl rfl ?_
  simp only [Act.put, List.setIfInBounds_toArray, List.set_cons_succ, List.set_cons_zero]
  refine q_val (.agg #[.int .i64 A, .int .i64 B, .int .i64 Z, .slice ao5 n cap5]) (by kernel_rfl) (fun w' hw' => by have k0 := (HX5.out w' hw').c0; have k1 := (HX5.out w' hw').c1; have k2 := (HX5.out w' hw').c2; have k3 := (HX5.out w' hw').c3; go_simp) ?_
  simp only [Act.put, List.setIfInBounds_toArray, List.set_cons_succ, List.set_cons_zero]
  refine q_call 18 _ (.int .i64 ud) (by kernel_rfl) (fun w' => by go_simp) (fun w' hw' => (HU.out w' hw').mono fun e w'' ⟨he, hb⟩ => ⟨he, hw'.trans (hb.mono hw'.size)⟩) ?_
  simp only [Act.put, List.setIfInBounds_toArray, List.set_cons_succ, List.set_cons_zero]
  refine q_val (.agg #[.int .i64 A, .int .i64 B, .int .i64 Z, .slice ao n cap]) (by kernel_rfl) (fun w' hw' => by have k0 := (HX2.out w' hw').c0; have k1 := (HX2.out w' hw').c1; have k2 := (HX2.out w' hw').c2; have k3 := (HX2.out w' hw').c3; go_simp) ?_
  simp only [Act.put, List.setIfInBounds_toArray, List.set_cons_succ, List.set_cons_zero]
  refine q_call 19 _ (.int .i64 ud) (by kernel_rfl) (fun w' => by go_simp) (fun w' hw' => (HRU.out w' hw').mono fun e w'' ⟨he, hb⟩ => ⟨he, hw'.trans (hb.mono hw'.size)⟩) ?_
  simp only [Act.put, List.setIfInBounds_toArray, List.set_cons_succ, List.set_cons_zero]
  refine q_val (.bool true) (by kernel_rfl) (fun w' hw' => by go_simp) ?_
  simp only [Act.put, List.setIfInBounds_toArray, List.set_cons_succ, List.set_cons_zero]
  refine q_val (.bool true) rfl (fun w' hw' => by go_simp) ?_
  simp only [Act.put, List.setIfInBounds_toArray, List.set_cons_succ, List.set_cons_zero]
  refine q_move _ rfl rfl ?_
  simp only [Act.put, List.setIfInBounds_toArray, List.set_cons_succ, List.set_cons_zero]
  refine q_val (.agg #[.int .i64 A, .int .i64 B, .int .i64 Z, .slice ao5 n cap5]) (by kernel_rfl) (fun w' hw' => by have k0 := (HX5.out w' hw').c0; have k1 := (HX5.out w' hw').c1; have k2 := (HX5.out w' hw').c2; have k3 := (HX5.out w' hw').c3; go_simp) ?_
  simp only [Act.put, List.setIfInBounds_toArray, List.set_cons_succ, List.set_cons_zero]
  refine q_call 20 _ (.agg #[.int .i64 r0, .int .i64 r1]) (by kernel_rfl) (fun w' => by go_simp) (fun w' hw' => (HR.out w' hw').mono fun e w'' ⟨he, hb⟩ => ⟨he, hw'.trans (hb.mono hw'.size)⟩) ?_
  simp only [Act.put, List.setIfInBounds_toArray, List.set_cons_succ, List.set_cons_zero]
  refine q_val (.agg #[.int .i64 A, .int .i64 B, .int .i64 Z, .slice ao n cap]) (by kernel_rfl) (fun w' hw' => by have k0 := (HX2.out w' hw').c0; have k1 := (HX2.out w' hw').c1; have k2 := (HX2.out w' hw').c2; have k3 := (HX2.out w' hw').c3; go_simp) ?_
  simp only [Act.put, List.setIfInBounds_toArray, List.set_cons_succ, List.set_cons_zero]
  refine q_call 21 _ (.agg #[.int .i64 r0, .int .i64 r1]) (by kernel_rfl) (fun w' => by go_simp) (fun w' hw' => (HRR.out w' hw').mono fun e w'' ⟨he, hb⟩ => ⟨he, hw'.trans (hb.mono hw'.size)⟩) ?_
  simp only [Act.put, List.setIfInBounds_toArray, List.set_cons_succ, List.set_cons_zero]
  refine q_eqlV 23 _ (.tmp 50) (.tmp 52) rfl (by kernel_rfl) (#[.int .i64 r0, .int .i64 r1]) (#[.int .i64 r0, .int .i64 r1]) rfl rfl true guardT (fun w' _ => eq_two r0 r1 w') ?_
  simp only [Act.put, List.setIfInBounds_toArray, List.set_cons_succ, List.set_cons_zero]
  refine q_val (.bool true) rfl (fun w' hw' => by go_simp) ?_
  simp only [Act.put, List.setIfInBounds_toArray, List.set_cons_succ, List.set_cons_zero]
  refine q_move _ rfl rfl ?_
  simp only [Act.put, List.setIfInBounds_toArray, List.set_cons_succ, List.set_cons_zero]
  refine q_val (.agg #[.int .i64 A, .int .i64 B, .int .i64 Z, .slice ao5 n cap5]) (by kernel_rfl) (fun w' hw' => by have k0 := (HX5.out w' hw').c0; have k1 := (HX5.out w' hw').c1; have k2 := (HX5.out w' hw').c2; have k3 := (HX5.out w' hw').c3; go_simp) ?_
  simp only [Act.put, List.setIfInBounds_toArray, List.set_cons_succ, List.set_cons_zero]
  refine q_val (.agg #[.int .i64 A, .int .i64 B, .int .i64 Z, .slice ao n cap]) (by kernel_rfl) (fun w' hw' => by have k0 := (HX2.out w' hw').c0; have k1 := (HX2.out w' hw').c1; have k2 := (HX2.out w' hw').c2; have k3 := (HX2.out w' hw').c3; go_simp) ?_
  simp only [Act.put, List.setIfInBounds_toArray, List.set_cons_succ, List.set_cons_zero]
  refine q_call 12 _ (.bool true) (by kernel_rfl) (fun w' => by go_simp) (fun w' hw' => (HS.out w' hw').mono fun e w'' ⟨he, hb⟩ => ⟨he, hw'.trans (hb.mono hw'.size)⟩) ?_
  simp only [Act.put, List.setIfInBounds_toArray, List.set_cons_succ, List.set_cons_zero]
  refine q_val (.bool true) rfl (fun w' hw' => by go_simp) ?_
  simp only [Act.put, List.setIfInBounds_toArray, List.set_cons_succ, List.set_cons_zero]
  refine q_val (.bool true) rfl (fun w' hw' => by go_simp) ?_
  simp only [Act.put, List.setIfInBounds_toArray, List.set_cons_succ, List.set_cons_zero]
  refine wpQuiet_nil ?_
  intro w' hw'
  go_wp2_with fail
  go_ret
  exact ⟨rfl, HB3.out.trans (hw'.mono HB3.out.size)⟩
end
end Sp
end Go.Proofs.Ytdbmdocmnhgbpaa
