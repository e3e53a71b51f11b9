/- inode: the fixed fact and the laws (made by tools/gen_inj.py). -/
import Derived.Test.YtnmljjehkdbbjaaInM
namespace Go.Proofs.Ytnmljjehkdbbjaa
set_option maxRecDepth 20000
namespace In
open Go.RowKit Dk Eqb Byt Pt

theorem right_hole : rightB hole = true := by
  unfold rightB isHole
  rw [eqP_same]
  rfl
def aN : Nd := ⟨7, 1, 0, hole, 0, 1⟩
theorem rt_a : rtB aN = true := rtB_iff.2 ⟨⟨by decide, by decide⟩, .inl rfl, by decide, by decide, ⟨right_hole, by decide, by decide, by decide, by decide⟩, .inl rfl⟩
theorem nw_a : nwR 7 1 = aN ∧ nwE 7 1 = 0 := by
  have e : nwN 7 1 = aN := by unfold nwN; rw [if_pos rfl]; rfl
  unfold nwR nwE
  rw [e, rt_a]
  exact ⟨rfl, rfl⟩
theorem sb_a : SB aN.p := fun _ _ => ⟨Int.le_refl _, by show (0 : Int) < 256; omega⟩
theorem ly_a : lyF aN 0 = 1 ∧ lyF aN 2 = 1 ∧ lyF aN 8 = 255 := by
  refine ⟨by decide, by decide, ?_⟩
  obtain ⟨_, hp⟩ := right_lay rt_a
  have hg1 : Wd.putGood 64 8 4 (side aN.p.A) := side_good (by omega) (by omega) (right_bd right_hole).1
  have hg2 : Wd.putGood 64 (8 + 4) 4 (side aN.p.B) := side_good (by omega) (by omega) (right_bd right_hole).2
  have e : lyF aN 8 = ppF 64 8 aN.p (fun _ => 0) 8 := rfl
  rw [e]
  unfold ppF
  rw [if_pos hp]
  unfold mix Wd.putF
  rw [if_pos hg1, if_pos hg2]
  rfl
set_option maxRecDepth 100000 in
set_option maxHeartbeats 4000000 in
theorem alive_any (w : World) : Calls Try.prog 7 #[] w fun e w' => e = .returned (.bool true) ∧ Below w.heap.size w w' := by
  have HN := Lib.hid (fun W => new_any 7 1 W)
  rw [nw_a.1, nw_a.2] at HN
  have HP := Lib.hid (fun W => put_any aN W)
  rw [show ptF aN = lyF aN by unfold ptF; rw [rt_a]; rfl, show ptE aN = 0 by unfold ptE; rw [rt_a]; rfl] at HP
  have HT := Lib.hid (fun W => take_any (lyF aN) (fun i _ => ly_bytes rt_a sb_a i) 7 W)
  obtain ⟨ht1, ht2⟩ := tk_ly rt_a sb_a
  rw [show nV (tkR (lyF aN) 7) = nV aN from ht1, show tkX (lyF aN) 7 = 0 from ht2] at HT
  obtain ⟨l0, l2, l8⟩ := ly_a
  clear ht1 ht2
  go_enter Try.func7, Try.ntmps7
  go_wp2_with fail
  refine (HN.out w).mono ?_
  rintro _ w1 ⟨rfl, hb1⟩
  obtain ⟨w2, hW2, hb2, hn2, hs2⟩ := box1 w1 aN
  have hB2 := hb1.trans (hb2.mono hb1.size)
  dsimp only
  go_upto_region 2 with (refine @wpList_store_row _ _ _ _ _ _ _ rfl 28 (.tmp 1) (.tmp 9) rfl (w1.heap.size) ((nV aN).toArray) rfl rfl 28 _ (heap_alloc_new w1 _) (sizeN' _) rfl (nV_all _) ?_; simp only [Act.put]; rw [World.setRow_alloc_new])
  rw [← hW2]
  have hal := hn2.all
  have hs1 := hb1.size
  clear hW2 hb1 hb2 HN
  go_wp2_with (first | (refine wpList_load_mid rfl 28 (.tmp 1) rfl (w1.heap.size) 0 rfl (nV aN) _ (by exact hal) undN rfl (sizeN _) ?_; simp only [Act.put, List.setIfInBounds_toArray, List.set_cons_succ, List.set_cons_zero]))
  refine (HP.out w2).mono ?_
  rintro _ w3 ⟨rfl, hb3⟩
  obtain ⟨w4, hW4, hb4, hq4, hs4⟩ := box_b w3 (lyF aN)
  have hn4 := (hn2.keep (hb3.block _ hn2.lt)).keep (hb4.block _ (by have := hb3.size; omega))
  have hB4 := (hB2.trans (hb3.mono hB2.size)).trans (hb4.mono (by have := hB2.size; have := hb3.size; omega))
  have hs3 := hb3.size
  dsimp only
  go_upto_region 3 with (refine @wpList_store_row _ _ _ _ _ _ _ rfl 30 (.tmp 3) (.tmp 14) rfl (w3.heap.size) (b64 (lyF aN)) rfl rfl 30 _ (heap_alloc_new w3 _) (size64 _) (by first | (simp only [b64_size]; done) | (rw [b64_size]; rfl)) (b64_all _) ?_; simp only [Act.put]; rw [World.setRow_alloc_new])
  rw [← hW4]
  have hal4 := hq4.all
  clear hW4 hb3 hb4 HP hn2 hB2 hal
  go_wp2_with (first | (refine wpList_load_mid rfl 30 (.tmp 3) rfl (w3.heap.size) 0 rfl ((b64 (lyF aN)).toList) _ (by exact hal4) und64 rfl (by rw [Array.length_toList]; exact size64 _) ?_; simp only [Act.put, List.setIfInBounds_toArray, List.set_cons_succ, List.set_cons_zero, Array.toArray_toList]))
  refine (HT.out w4).mono ?_
  rintro _ w5 ⟨rfl, hb5⟩
  obtain ⟨w6, hW6, hb6, hm6, hs6⟩ := box1 w5 aN
  have hs5 := hb5.size
  have hn6 := (hn4.keep (hb5.block _ (by omega))).keep (hb6.block _ (by omega))
  have hq6 := (hq4.keep (hb5.block _ (by omega))).keep (hb6.block _ (by omega))
  have hB6 := (hB4.trans (hb5.mono hB4.size)).trans (hb6.mono (by have := hB4.size; omega))
  dsimp only
  go_upto_region 4 with (refine @wpList_store_row _ _ _ _ _ _ _ rfl 28 (.tmp 5) (.tmp 19) rfl (w5.heap.size) ((nV aN).toArray) rfl rfl 28 _ (heap_alloc_new w5 _) (sizeN' _) rfl (nV_all _) ?_; simp only [Act.put]; rw [World.setRow_alloc_new])
  rw [← hW6]
  have hal1 := hn6.all
  have hal5 := hm6.all
  have c0 := hq6.cell (j := 0) (by omega)
  have c2 := hq6.cell (j := 2) (by omega)
  have c8 := hq6.cell (j := 8) (by omega)
  rw [l0] at c0
  rw [l2] at c2
  rw [l8] at c8
  clear hW6 hb5 hb6 HT hn4 hB4 hq4 hn6 hm6 hq6 hal4 l0 l2 l8
  generalize w1.heap.size = b1 at *
  generalize w3.heap.size = b3 at *
  generalize w5.heap.size = b5 at *
  go_wp2_with (first | (refine @wpList_loadG _ _ _ _ _ _ _ (by kernel_rfl) 28 (.tmp 5) rfl (b5) 0 rfl (nV aN) _ (by exact hal5) undN rfl (sizeN _) ?_; simp only [Act.put, List.setIfInBounds_toArray, List.set_cons_succ, List.set_cons_zero]) | (refine @wpList_loadG _ _ _ _ _ _ _ (by kernel_rfl) 28 (.tmp 1) rfl (b1) 0 rfl (nV aN) _ (by exact hal1) undN rfl (sizeN _) ?_; simp only [Act.put, List.setIfInBounds_toArray, List.set_cons_succ, List.set_cons_zero]) | (refine @wpList_eqlV _ _ _ _ _ _ _ 28 _ (.tmp 32) (.tmp 33) rfl (by kernel_rfl) ((nV aN).toArray) ((nV aN).toArray) rfl rfl true guardN (by rw [eq_nd, eqN_same]) ?_; simp only [Act.put, List.setIfInBounds_toArray, List.set_cons_succ, List.set_cons_zero]))
  go_ret
  exact ⟨rfl, hB6⟩
theorem eqN_congr {n m : Nd} (h : nV n = nV m) : eqN n m = true := by
  have h0 : n.N = m.N := by have := congrArg (·[0]?) h; simp [nV] at this; exact this
  have h1 : n.K = m.K := by have := congrArg (·[1]?) h; simp [nV] at this; exact this
  have h2 : n.L = m.L := by have := congrArg (·[2]?) h; simp [nV] at this; exact this
  have hs : sV n.p n.z n.c = sV m.p m.z m.c := by
    unfold nV at h
    rw [h0, h1, h2] at h
    simpa using h
  unfold sV at hs
  obtain ⟨hp, hz⟩ := List.append_inj hs (by rw [pV_length, pV_length])
  simp at hz
  unfold eqN eqS
  rw [h0, h1, h2, eqP_congr hp, hz.1, hz.2]
  simp
set_option maxRecDepth 100000 in
set_option maxHeartbeats 4000000 in
theorem news_any (N K : Int) (w : World) : Calls Try.prog 5 #[.int .i64 N, .int .i64 K] w fun e w' => e = .returned (.bool true) ∧ Below w.heap.size w w' := by
  have HA := Lib.hid (fun W => alive_any W)
  have HN := Lib.hid (fun W => new_any N K W)
  have HM := Lib.hid (fun W => refnew_any N K W)
  generalize nwR N K = R at *
  generalize nwE N K = E at *
  go_enter Try.func5, Try.ntmps5
  go_wp2_with fail
  refine (HA.out w).mono ?_
  rintro _ w0 ⟨rfl, hb0⟩
  clear HA
  dsimp only
  go_wp2_with fail
  refine (HN.out w0).mono ?_
  rintro _ w1 ⟨rfl, hb1⟩
  obtain ⟨w2, hW2, hb2, hn2, hs2⟩ := box1 w1 R
  have hs0 := hb0.size
  have hs1 := hb1.size
  have hB2 := (hb0.trans (hb1.mono hs0)).trans (hb2.mono (by omega))
  dsimp only
  go_upto_region 4 with (refine @wpList_store_row _ _ _ _ _ _ _ rfl 28 (.tmp 5) (.tmp 15) rfl (w1.heap.size) ((nV R).toArray) rfl rfl 28 _ (heap_alloc_new w1 _) (sizeN' _) rfl (nV_all _) ?_; simp only [Act.put]; rw [World.setRow_alloc_new])
  rw [← hW2]
  clear hW2 hb0 hb1 hb2 HN
  go_wp2_with fail
  refine (HM.out w2).mono ?_
  rintro _ w3 ⟨rfl, hb3⟩
  obtain ⟨w4, hW4, hb4, hm4, hs4⟩ := box1 w3 R
  have hs3 := hb3.size
  have hn4 := (hn2.keep (hb3.block _ hn2.lt)).keep (hb4.block _ (by omega))
  have hB4 := (hB2.trans (hb3.mono hB2.size)).trans (hb4.mono (by omega))
  dsimp only
  go_upto_region 5 with (refine @wpList_store_row _ _ _ _ _ _ _ rfl 28 (.tmp 7) (.tmp 21) rfl (w3.heap.size) ((nV R).toArray) rfl rfl 28 _ (heap_alloc_new w3 _) (sizeN' _) rfl (nV_all _) ?_; simp only [Act.put]; rw [World.setRow_alloc_new])
  rw [← hW4]
  have hal1 := hn4.all
  have hal3 := hm4.all
  clear hW4 hb3 hb4 HM hn2 hB2 hn4 hm4
  generalize w1.heap.size = b1 at *
  generalize w3.heap.size = b3 at *
  go_wp2_with (first | (refine wpList_load_mid rfl 28 (.tmp 5) rfl (b1) 0 rfl (nV R) _ (by exact hal1) undN rfl (sizeN _) ?_; simp only [Act.put, List.setIfInBounds_toArray, List.set_cons_succ, List.set_cons_zero]) | (refine wpList_load_mid rfl 28 (.tmp 7) rfl (b3) 0 rfl (nV R) _ (by exact hal3) undN rfl (sizeN _) ?_; simp only [Act.put, List.setIfInBounds_toArray, List.set_cons_succ, List.set_cons_zero]) | (refine @wpList_eqlV _ _ _ _ _ _ _ 28 _ (.tmp 23) (.tmp 24) rfl (by kernel_rfl) ((nV R).toArray) ((nV R).toArray) rfl rfl true guardN (by rw [eq_nd, eqN_same]) ?_; simp only [Act.put, List.setIfInBounds_toArray, List.set_cons_succ, List.set_cons_zero]))
  go_ret
  exact ⟨rfl, hB4⟩
set_option maxRecDepth 100000 in
set_option maxHeartbeats 4000000 in
theorem takes_any (f : Nat → Int) (hf : ∀ i, i < 64 → 0 ≤ f i ∧ f i < 256) (N : Int) (w : World) : Calls Try.prog 4 #[.agg (b64 f), .int .i64 N] w fun e w' => e = .returned (.bool true) ∧ Below w.heap.size w w' := by
  obtain ⟨W, hW, hbw, hq, hsw⟩ := box_b w f
  have HA := Lib.hid (fun W => alive_any W)
  have HN := Lib.hid (fun W => take_any f hf N W)
  have HM := Lib.hid (fun W => reftake_any f hf N W)
  generalize tkR f N = R at *
  generalize tkX f N = E at *
  go_enter Try.func4, Try.ntmps4
  go_upto_region 1 with fail
  rw [← hW]
  clear hW
  go_wp2_with fail
  refine (HA.out W).mono ?_
  rintro _ w0 ⟨rfl, hb0'⟩
  have hb0 := hbw.trans (hb0'.mono hbw.size)
  have hq0 := hq.keep (hb0'.block _ hq.lt)
  have hal0 := hq0.all
  have hlt := hq0.lt
  clear HA hq hbw hb0'
  dsimp only
  go_wp2_with (first | (refine wpList_load_mid rfl 30 (.tmp 2) rfl (w.heap.size) 0 rfl ((b64 f).toList) _ (by exact hal0) und64 rfl (by rw [Array.length_toList]; exact size64 _) ?_; simp only [Act.put, List.setIfInBounds_toArray, List.set_cons_succ, List.set_cons_zero, Array.toArray_toList]))
  refine (HN.out w0).mono ?_
  rintro _ w1 ⟨rfl, hb1⟩
  have hq1 := hq0.keep (hb1.block _ hlt)
  clear hal0 hq0
  obtain ⟨w2, hW2, hb2, hn2, hs2⟩ := box1 w1 R
  have hs0 := hb0.size
  have hs1 := hb1.size
  have hB2 := (hb0.trans (hb1.mono hs0)).trans (hb2.mono (by omega))
  have hal2 := (hq1.keep (hb2.block _ hq1.lt)).all
  dsimp only
  go_upto_region 4 with (refine @wpList_store_row _ _ _ _ _ _ _ rfl 28 (.tmp 5) (.tmp 15) rfl (w1.heap.size) ((nV R).toArray) rfl rfl 28 _ (heap_alloc_new w1 _) (sizeN' _) rfl (nV_all _) ?_; simp only [Act.put]; rw [World.setRow_alloc_new])
  rw [← hW2]
  clear hW2 hb0 hb1 hb2 HN hq1
  go_wp2_with (first | (refine wpList_load_mid rfl 30 (.tmp 2) rfl (w.heap.size) 0 rfl ((b64 f).toList) _ (by exact hal2) und64 rfl (by rw [Array.length_toList]; exact size64 _) ?_; simp only [Act.put, List.setIfInBounds_toArray, List.set_cons_succ, List.set_cons_zero, Array.toArray_toList]))
  refine (HM.out w2).mono ?_
  rintro _ w3 ⟨rfl, hb3⟩
  obtain ⟨w4, hW4, hb4, hm4, hs4⟩ := box1 w3 R
  have hs3 := hb3.size
  have hn4 := (hn2.keep (hb3.block _ hn2.lt)).keep (hb4.block _ (by omega))
  have hB4 := (hB2.trans (hb3.mono hB2.size)).trans (hb4.mono (by omega))
  dsimp only
  go_upto_region 5 with (refine @wpList_store_row _ _ _ _ _ _ _ rfl 28 (.tmp 7) (.tmp 21) rfl (w3.heap.size) ((nV R).toArray) rfl rfl 28 _ (heap_alloc_new w3 _) (sizeN' _) rfl (nV_all _) ?_; simp only [Act.put]; rw [World.setRow_alloc_new])
  rw [← hW4]
  have hal1 := hn4.all
  have hal3 := hm4.all
  clear hW4 hb3 hb4 HM hn2 hB2 hn4 hm4 hal2
  generalize w1.heap.size = b1 at *
  generalize w3.heap.size = b3 at *
  go_wp2_with (first | (refine wpList_load_mid rfl 28 (.tmp 5) rfl (b1) 0 rfl (nV R) _ (by exact hal1) undN rfl (sizeN _) ?_; simp only [Act.put, List.setIfInBounds_toArray, List.set_cons_succ, List.set_cons_zero]) | (refine wpList_load_mid rfl 28 (.tmp 7) rfl (b3) 0 rfl (nV R) _ (by exact hal3) undN rfl (sizeN _) ?_; simp only [Act.put, List.setIfInBounds_toArray, List.set_cons_succ, List.set_cons_zero]) | (refine @wpList_eqlV _ _ _ _ _ _ _ 28 _ (.tmp 23) (.tmp 24) rfl (by kernel_rfl) ((nV R).toArray) ((nV R).toArray) rfl rfl true guardN (by rw [eq_nd, eqN_same]) ?_; simp only [Act.put, List.setIfInBounds_toArray, List.set_cons_succ, List.set_cons_zero]))
  go_ret
  exact ⟨rfl, hB4⟩
end In
end Go.Proofs.Ytnmljjehkdbbjaa
