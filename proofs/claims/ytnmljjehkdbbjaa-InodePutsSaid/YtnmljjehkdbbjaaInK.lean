/- inode: the law InodePuts (made by tools/gen_ink.py). -/
import Derived.Test.YtnmljjehkdbbjaaInJ
namespace Go.Proofs.Ytnmljjehkdbbjaa
set_option maxRecDepth 20000
namespace In
open Go.RowKit Dk Eqb Byt Pt

attribute [local irreducible] wpQuiet
set_option maxRecDepth 100000 in
set_option maxHeartbeats 8000000 in
theorem puts_any (n : Nd) (k : Int) (w : World) : Calls Try.prog 3 #[.agg (nV n).toArray, .int .i64 k] w fun e w' => e = .returned (.bool true) ∧ Below w.heap.size w w' := by
  obtain ⟨W, hW, hbw, hq, hsw⟩ := box1 w n
  have HA := Lib.hid (fun W => alive_any W)
  have H1 := Lib.hid (fun W => put_any n W)
  have H2 := Lib.hid (fun W => refput_any n W)
  have H3 := Lib.hid (fun W => stat_any n k W)
  have H4 := Lib.hid (fun W => refstat_any n k W)
  have HR := Lib.hid (fun W => right_any n W)
  have HS := Lib.hid (fun W => refright_any n W)
  have hL1 := stR_len n k
  have hL2 := stR_one n k
  have HEQ := Lib.hid (fun W => eq_stR n k W)
  generalize ptF n = F at *
  generalize ptE n = E at *
  generalize stR n k = L at *
  generalize stE n k = G at *
  generalize rtB n = r at *
  have HL1 := Lib.hid (sizeT L hL1)
  have HL3 : Hid ((Try.prog.info? 35).map (·.size) = some L.length) := Lib.hid (by have := sizeT L hL1; rwa [List.size_toArray] at this)
  have HL2 := Lib.hid hL2
  have HL4 : Hid ((#[Value.int .i64 0, .int .i64 0, .int .i64 0, .int .i64 0, .int .i64 0, .int .i64 0] : Array Value).size = L.toArray.size) := Lib.hid (by simp [hL1])
  clear hL1 hL2
  go_enter Try.func3, Try.ntmps3
  go_upto_region 1 with fail
  rw [← hW]
  clear hW
  go_wp2_with fail
  refine (HA.out W).mono ?_
  rintro _ w0 ⟨rfl, hb0'⟩
  have hB0 := hbw.trans (hb0'.mono hbw.size)
  have hx0 := hq.keep (hb0'.block _ hq.lt)
  have hlt0 := hx0.lt
  have hal0 := hx0.all
  clear HA hq hbw hb0'
  dsimp only
  go_wp2_with (first | (refine wpList_load_mid rfl 28 (.tmp 2) rfl (w.heap.size) 0 rfl (nV n) _ (by exact hal0) undN rfl (sizeN _) ?_; simp only [Act.put, List.setIfInBounds_toArray, List.set_cons_succ, List.set_cons_zero]))
  refine (H1.out w0).mono ?_
  rintro _ w1 ⟨rfl, hb1⟩
  obtain ⟨w2, hW2, hb2, hq2, hs2⟩ := box_b w1 F
  have hs1 := hb1.size
  have hx2 := (hx0.keep (hb1.block _ hlt0)).keep (hb2.block _ (by omega))
  have hlt2 := hx2.lt
  have hal2 := hx2.all
  have hB2 := (hB0.trans (hb1.mono hB0.size)).trans (hb2.mono (by have := hB0.size; omega))
  dsimp only
  go_upto_region 4 with (refine @wpList_store_row _ _ _ _ _ _ _ rfl 30 (.tmp 5) (.tmp 18) rfl (w1.heap.size) (b64 F) rfl rfl 30 _ (heap_alloc_new w1 _) (size64 _) (by first | (simp only [b64_size]; done) | (rw [b64_size]; rfl)) (b64_all _) ?_; simp only [Act.put]; rw [World.setRow_alloc_new])
  rw [← hW2]
  clear hW2 hb1 hb2 hx0 hlt0 hal0 hB0 H1
  go_wp2_with (first | (refine wpList_load_mid rfl 28 (.tmp 2) rfl (w.heap.size) 0 rfl (nV n) _ (by exact hal2) undN rfl (sizeN _) ?_; simp only [Act.put, List.setIfInBounds_toArray, List.set_cons_succ, List.set_cons_zero]))
  refine (H2.out w2).mono ?_
  rintro _ w3 ⟨rfl, hb3⟩
  obtain ⟨w4, hW4, hb4, hq4, hs4⟩ := box_b w3 F
  have hs3 := hb3.size
  have hx4 := (hx2.keep (hb3.block _ hlt2)).keep (hb4.block _ (by omega))
  have hlt4 := hx4.lt
  have hal4 := hx4.all
  have hB4 := (hB2.trans (hb3.mono hB2.size)).trans (hb4.mono (by have := hB2.size; omega))
  have hq2 := (hq2.keep (hb3.block _ (by omega))).keep (hb4.block _ (by omega))
  dsimp only
  go_upto_region 5 with (refine @wpList_store_row _ _ _ _ _ _ _ rfl 30 (.tmp 7) (.tmp 23) rfl (w3.heap.size) (b64 F) rfl rfl 30 _ (heap_alloc_new w3 _) (size64 _) (by first | (simp only [b64_size]; done) | (rw [b64_size]; rfl)) (b64_all _) ?_; simp only [Act.put]; rw [World.setRow_alloc_new])
  rw [← hW4]
  clear hW4 hb3 hb4 hx2 hlt2 hal2 hB2 H2
  go_wp2_with (first | (refine wpList_load_mid rfl 28 (.tmp 2) rfl (w.heap.size) 0 rfl (nV n) _ (by exact hal4) undN rfl (sizeN _) ?_; simp only [Act.put, List.setIfInBounds_toArray, List.set_cons_succ, List.set_cons_zero]))
  refine (H3.out w4).mono ?_
  rintro _ w5 ⟨rfl, hb5⟩
  obtain ⟨w6, hW6, hb6, hq6, hs6⟩ := box_t w5 L
  have hs5 := hb5.size
  have hx6 := (hx4.keep (hb5.block _ hlt4)).keep (hb6.block _ (by omega))
  have hlt6 := hx6.lt
  have hal6 := hx6.all
  have hB6 := (hB4.trans (hb5.mono hB4.size)).trans (hb6.mono (by have := hB4.size; omega))
  have hq2 := (hq2.keep (hb5.block _ (by omega))).keep (hb6.block _ (by omega))
  have hq4 := (hq4.keep (hb5.block _ (by omega))).keep (hb6.block _ (by omega))
  dsimp only
  go_upto_region 6 with (refine @wpList_store_row _ _ _ _ _ _ _ rfl 35 (.tmp 9) (.tmp 29) rfl (w5.heap.size) (L.toArray) rfl rfl 35 _ (heap_alloc_new w5 _) (HL1.out) HL4.out HL2.out ?_; simp only [Act.put]; rw [World.setRow_alloc_new])
  rw [← hW6]
  clear hW6 hb5 hb6 hx4 hlt4 hal4 hB4 H3
  go_wp2_with (first | (refine wpList_load_mid rfl 28 (.tmp 2) rfl (w.heap.size) 0 rfl (nV n) _ (by exact hal6) undN rfl (sizeN _) ?_; simp only [Act.put, List.setIfInBounds_toArray, List.set_cons_succ, List.set_cons_zero]))
  refine (H4.out w6).mono ?_
  rintro _ w7 ⟨rfl, hb7⟩
  obtain ⟨w8, hW8, hb8, hq8, hs8⟩ := box_t w7 L
  have hs7 := hb7.size
  have hx8 := (hx6.keep (hb7.block _ hlt6)).keep (hb8.block _ (by omega))
  have hlt8 := hx8.lt
  have hal8 := hx8.all
  have hB8 := (hB6.trans (hb7.mono hB6.size)).trans (hb8.mono (by have := hB6.size; omega))
  have hq2 := (hq2.keep (hb7.block _ (by omega))).keep (hb8.block _ (by omega))
  have hq4 := (hq4.keep (hb7.block _ (by omega))).keep (hb8.block _ (by omega))
  have hq6 := (hb8.block _ (by omega)).trans ((hb7.block _ (by omega)).trans hq6)
  dsimp only
  go_upto_region 7 with (refine @wpList_store_row _ _ _ _ _ _ _ rfl 35 (.tmp 11) (.tmp 35) rfl (w7.heap.size) (L.toArray) rfl rfl 35 _ (heap_alloc_new w7 _) (HL1.out) HL4.out HL2.out ?_; simp only [Act.put]; rw [World.setRow_alloc_new])
  rw [← hW8]
  clear hW8 hb7 hb8 hx6 hlt6 hal6 hB6 H4
  have HX := Lib.hid (fun w' (hb : Below w8.heap.size w8 w') => (hx8.keep (hb.block _ hx8.lt)).all)
  have HQ2 := Lib.hid (fun w' (hb : Below w8.heap.size w8 w') => (hq2.keep (hb.block _ hq2.lt)).all)
  have HQ4 := Lib.hid (fun w' (hb : Below w8.heap.size w8 w') => (hq4.keep (hb.block _ hq4.lt)).all)
  have HQ6 := Lib.hid (fun w' (hb : Below w8.heap.size w8 w') => row_all ((hb.block _ (by omega)).trans hq6))
  have HQ8 := Lib.hid (fun w' (hb : Below w8.heap.size w8 w') => row_all ((hb.block _ (by omega)).trans hq8))
  have HB8 := Lib.hid hB8
  clear hx8 hlt8 hal8 hB8 hq2 hq4 hq6 hq8
  generalize w1.heap.size = b1 at *
  generalize w3.heap.size = b3 at *
  generalize w5.heap.size = b5 at *
  generalize w7.heap.size = b7 at *
  refine wp_region_quiet (C := fun w' => Below w8.heap.size w8 w') (by kernel_rfl) (by kernel_rfl) ⟨rfl, rfl, rfl, Nat.le_refl _, fun _ _ => rfl⟩ ?_
  refine q_loadB 30 (.tmp 5) rfl rfl b1 0 rfl ((b64 F).toList) _ (fun w' hw' => (HQ2.out w' hw')) und64 rfl (by rw [Array.length_toList]; exact size64 _) ?_
  simp only [Act.put, List.setIfInBounds_toArray, List.set_cons_succ, List.set_cons_zero]
  refine q_loadB 30 (.tmp 7) rfl rfl b3 0 rfl ((b64 F).toList) _ (fun w' hw' => (HQ4.out w' hw')) und64 rfl (by rw [Array.length_toList]; exact size64 _) ?_
  simp only [Act.put, List.setIfInBounds_toArray, List.set_cons_succ, List.set_cons_zero]
  refine q_eqlV 30 _ (.tmp 37) (.tmp 38) rfl rfl (b64 F) (b64 F) (by simp only [Array.toArray_toList]; rfl) (by simp only [Array.toArray_toList]; rfl) true guard64 (fun w' _ => by rw [eq_64, eqB_same]) ?_
  simp only [Act.put, List.setIfInBounds_toArray, List.set_cons_succ, List.set_cons_zero]
  refine q_move _ rfl rfl ?_
  simp only [Act.put, List.setIfInBounds_toArray, List.set_cons_succ, List.set_cons_zero]
  refine q_move _ rfl (by kernel_rfl) ?_
  simp only [Act.put, List.setIfInBounds_toArray, List.set_cons_succ, List.set_cons_zero]
  refine q_move _ rfl (by kernel_rfl) ?_
  simp only [Act.put, List.setIfInBounds_toArray, List.set_cons_succ, List.set_cons_zero]
  refine q_val (.bool true) (by kernel_rfl) (fun w' hw' => by go_simp) ?_
  simp only [Act.put, List.setIfInBounds_toArray, List.set_cons_succ, List.set_cons_zero]
  refine q_val (.bool true) rfl (fun w' hw' => by go_simp) ?_
  simp only [Act.put, List.setIfInBounds_toArray, List.set_cons_succ, List.set_cons_zero]
  refine q_move _ rfl rfl ?_
  simp only [Act.put, List.setIfInBounds_toArray, List.set_cons_succ, List.set_cons_zero]
  refine q_loadB 35 (.tmp 9) rfl (by kernel_rfl) b5 0 rfl (L) _ (fun w' hw' => (HQ6.out w' hw')) undT rfl (HL3.out) ?_
  simp only [Act.put, List.setIfInBounds_toArray, List.set_cons_succ, List.set_cons_zero]
  refine q_loadB 35 (.tmp 11) rfl (by kernel_rfl) b7 0 rfl (L) _ (fun w' hw' => (HQ8.out w' hw')) undT rfl (HL3.out) ?_
  simp only [Act.put, List.setIfInBounds_toArray, List.set_cons_succ, List.set_cons_zero]
  refine q_eqlV 35 _ (.tmp 46) (.tmp 47) rfl (by kernel_rfl) (L.toArray) (L.toArray) rfl rfl true guardT (fun w' _ => HEQ.out _) ?_
  simp only [Act.put, List.setIfInBounds_toArray, List.set_cons_succ, List.set_cons_zero]
  refine q_val (.bool true) rfl (fun w' hw' => by go_simp) ?_
  simp only [Act.put, List.setIfInBounds_toArray, List.set_cons_succ, List.set_cons_zero]
  refine q_move _ rfl rfl ?_
  simp only [Act.put, List.setIfInBounds_toArray, List.set_cons_succ, List.set_cons_zero]
  refine q_move _ rfl (by kernel_rfl) ?_
  simp only [Act.put, List.setIfInBounds_toArray, List.set_cons_succ, List.set_cons_zero]
  refine q_move _ rfl (by kernel_rfl) ?_
  simp only [Act.put, List.setIfInBounds_toArray, List.set_cons_succ, List.set_cons_zero]
  refine q_val (.bool true) (by kernel_rfl) (fun w' hw' => by go_simp) ?_
  simp only [Act.put, List.setIfInBounds_toArray, List.set_cons_succ, List.set_cons_zero]
  refine q_val (.bool true) rfl (fun w' hw' => by go_simp) ?_
  simp only [Act.put, List.setIfInBounds_toArray, List.set_cons_succ, List.set_cons_zero]
  refine q_move _ rfl rfl ?_
  simp only [Act.put, List.setIfInBounds_toArray, List.set_cons_succ, List.set_cons_zero]
  refine q_loadB 28 (.tmp 2) rfl (by kernel_rfl) w.heap.size 0 rfl (nV n) _ (fun w' hw' => (HX.out w' hw')) undN rfl (sizeN _) ?_
  simp only [Act.put, List.setIfInBounds_toArray, List.set_cons_succ, List.set_cons_zero]
  refine q_call 12 _ (.bool r) (by kernel_rfl) (fun w' => by go_simp) (fun w' hw' => (HR.out w').mono fun e w'' ⟨he, hb⟩ => ⟨he, hw'.trans (hb.mono hw'.size)⟩) ?_
  simp only [Act.put, List.setIfInBounds_toArray, List.set_cons_succ, List.set_cons_zero]
  refine q_loadB 28 (.tmp 2) rfl (by kernel_rfl) w.heap.size 0 rfl (nV n) _ (fun w' hw' => (HX.out w' hw')) undN rfl (sizeN _) ?_
  simp only [Act.put, List.setIfInBounds_toArray, List.set_cons_succ, List.set_cons_zero]
  refine q_call 13 _ (.bool r) (by kernel_rfl) (fun w' => by go_simp) (fun w' hw' => (HS.out w').mono fun e w'' ⟨he, hb⟩ => ⟨he, hw'.trans (hb.mono hw'.size)⟩) ?_
  simp only [Act.put, List.setIfInBounds_toArray, List.set_cons_succ, List.set_cons_zero]
  refine q_val (.bool true) (by kernel_rfl) (fun w' hw' => by go_simp) ?_
  simp only [Act.put, List.setIfInBounds_toArray, List.set_cons_succ, List.set_cons_zero]
  refine q_val (.bool true) rfl (fun w' hw' => by go_simp) ?_
  simp only [Act.put, List.setIfInBounds_toArray, List.set_cons_succ, List.set_cons_zero]
  refine q_val (.bool true) rfl (fun w' hw' => by go_simp) ?_
  simp only [Act.put, List.setIfInBounds_toArray, List.set_cons_succ, List.set_cons_zero]
  refine wpQuiet_nil ?_
  intro w9 hw9
  go_wp2_with fail
  go_ret
  exact ⟨rfl, HB8.out.trans (hw9.mono HB8.out.size)⟩
end In
end Go.Proofs.Ytnmljjehkdbbjaa
