/- inode: the law InodeBack (made by tools/gen_inl.py). -/
import Derived.Test.YtnmljjehkdbbjaaInJ
namespace Go.Proofs.Ytnmljjehkdbbjaa
set_option maxRecDepth 20000
namespace In
open Go.RowKit Dk Eqb Byt Pt

theorem xor_bd (a b : Int) : 0 ≤ bits .xor .u8 a b ∧ bits .xor .u8 a b < 256 := by
  unfold bits
  rw [IntKind.wrap_u8]
  omega
theorem bb_set {w : World} {b : Nat} {f : Nat → Int} (h : Bb w b f) (j : Nat) (v : Int) : Bb (w.setCell ⟨b, j, none⟩ (.int .u8 v)) b (put f j v) := by
  refine ⟨?_⟩
  rw [heap_setCell_same w b j _ _ _ h.row]
  have e : (b64 f).setIfInBounds j (.int .u8 v) = b64 (put f j v) := by
    unfold b64
    rw [Sha.arr_set]
    apply Array.ext_getElem?
    intro i
    by_cases hi : i < 64
    · rw [Sha.arr_get _ hi, Sha.arr_get _ hi]
      unfold Sha.vu8 put
      split <;> rfl
    · rw [Array.getElem?_eq_none (by rw [Sha.arr_size]; omega), Array.getElem?_eq_none (by rw [Sha.arr_size]; omega)]
  rw [e]
set_option maxRecDepth 100000 in
set_option maxHeartbeats 8000000 in
theorem back_any (n : Nd) (hS : SB n.p) (y1 y2 : Int) (h10 : 0 ≤ y1) (h11 : y1 < 256) (_h20 : 0 ≤ y2) (_h21 : y2 < 256) (w : World) : Calls Try.prog 6 #[.agg (nV n).toArray, .int .u8 y1, .int .u8 y2] w fun e w' => e = .returned (.bool true) ∧ Below w.heap.size w w' := by
  obtain ⟨W, hW, hbw, hq, hsw⟩ := box1 w n
  have HA := Lib.hid (fun W => alive_any W)
  have HP := Lib.hid (fun W => put_any n W)
  cases hr : rtB n with
  | false =>
    have HR := Lib.hid (fun W => refright_any n W)
    rw [hr] at HR
    rw [show ptF n = fun _ => 0 by unfold ptF; rw [hr]; rfl, show ptE n = 1 by unfold ptE; rw [hr]; rfl] at HP
    clear hr hS
    go_enter Try.func6, Try.ntmps6
    go_upto_region 1 with fail
    rw [← hW]
    clear hW
    go_wp2_with fail
    refine (HA.out W).mono ?_
    rintro _ w0 ⟨rfl, hb0'⟩
    have hB0 := hbw.trans (hb0'.mono hbw.size)
    have hx0 := hq.keep (hb0'.block _ hq.lt)
    have hlt0 := hx0.lt
    have hal0 := hx0.all
    clear HA hq hbw hb0'
    dsimp only
    go_wp2_with (first | (refine wpList_load_mid rfl 28 (.tmp 3) rfl (w.heap.size) 0 rfl (nV n) _ (by exact hal0) undN rfl (sizeN _) ?_; simp only [Act.put, List.setIfInBounds_toArray, List.set_cons_succ, List.set_cons_zero]))
    refine (HP.out w0).mono ?_
    rintro _ w1 ⟨rfl, hb1⟩
    obtain ⟨w2, hW2, hb2, hq2, hs2⟩ := box_b w1 (fun _ => 0)
    have hs1 := hb1.size
    have hx2 := (hx0.keep (hb1.block _ hlt0)).keep (hb2.block _ (by omega))
    have hB2 := (hB0.trans (hb1.mono hB0.size)).trans (hb2.mono (by have := hB0.size; omega))
    have hlt2 := hx2.lt
    have hal2 := hx2.all
    have hc2 := hx2.N
    have hr2 := hq2.all
    dsimp only
    go_upto_region 4 with (refine @wpList_store_row _ _ _ _ _ _ _ rfl 30 (.tmp 7) (.tmp 21) rfl (w1.heap.size) (b64 (fun _ => 0)) rfl rfl 30 _ (heap_alloc_new w1 _) (size64 _) (by first | (simp only [b64_size]; done) | (rw [b64_size]; rfl)) (b64_all _) ?_; simp only [Act.put]; rw [World.setRow_alloc_new])
    rw [← hW2]
    have hb1lt : w.heap.size < w1.heap.size := by omega
    clear hW2 hb1 hb2 hx0 hlt0 hal0 hB0 HP
    clear hc2
    go_wp2_with (first | (refine wpList_load_mid rfl 30 (.tmp 7) rfl (w1.heap.size) 0 rfl ((b64 (fun _ => 0)).toList) _ (by exact hr2) und64 rfl (by rw [Array.length_toList]; exact size64 _) ?_; simp only [Act.put, List.setIfInBounds_toArray, List.set_cons_succ, List.set_cons_zero, Array.toArray_toList]) | (refine @wpList_buildG _ _ _ _ _ _ _ (by kernel_rfl) 30 #[] rfl (b64 fun _ => 0) (by kernel_rfl) ?_; simp only [Act.put, List.setIfInBounds_toArray, List.set_cons_succ, List.set_cons_zero]) | (refine @wpList_eqlV _ _ _ _ _ _ _ 30 _ (.tmp 25) (.tmp 26) rfl (by kernel_rfl) (b64 fun _ => 0) (b64 fun _ => 0) rfl rfl true guard64 (by rw [eq_64, eqB_same]) ?_; simp only [Act.put, List.setIfInBounds_toArray, List.set_cons_succ, List.set_cons_zero]) | (refine @wpList_loadG _ _ _ _ _ _ _ (by kernel_rfl) 28 (.tmp 3) rfl (w.heap.size) 0 rfl (nV n) _ (by exact hal2) undN rfl (sizeN _) ?_; simp only [Act.put, List.setIfInBounds_toArray, List.set_cons_succ, List.set_cons_zero]))
    refine (HR.out w2).mono ?_
    rintro _ w3 ⟨rfl, hb3⟩
    have hB3 := hB2.trans (hb3.mono hB2.size)
    dsimp only
    go_wp2_with fail
    go_ret
    exact ⟨rfl, hB3⟩
  | true =>
    obtain ⟨ht1, ht2⟩ := tk_ly hr hS
    have hby := ly_bytes hr hS
    have HT := Lib.hid (fun W => take_any (lyF n) (fun i _ => hby i) n.N W)
    rw [ht1, ht2] at HT
    rw [show ptF n = lyF n by unfold ptF; rw [hr]; rfl, show ptE n = 0 by unfold ptE; rw [hr]; rfl] at HP
    have HBY := Lib.hid hby
    clear hr hS ht1 ht2 hby
    generalize lyF n = F at *
    go_enter Try.func6, Try.ntmps6
    go_upto_region 1 with fail
    rw [← hW]
    clear hW
    go_wp2_with fail
    refine (HA.out W).mono ?_
    rintro _ w0 ⟨rfl, hb0'⟩
    have hB0 := hbw.trans (hb0'.mono hbw.size)
    have hx0 := hq.keep (hb0'.block _ hq.lt)
    have hlt0 := hx0.lt
    have hal0 := hx0.all
    clear HA hq hbw hb0'
    dsimp only
    go_wp2_with (first | (refine wpList_load_mid rfl 28 (.tmp 3) rfl (w.heap.size) 0 rfl (nV n) _ (by exact hal0) undN rfl (sizeN _) ?_; simp only [Act.put, List.setIfInBounds_toArray, List.set_cons_succ, List.set_cons_zero]))
    refine (HP.out w0).mono ?_
    rintro _ w1 ⟨rfl, hb1⟩
    obtain ⟨w2, hW2, hb2, hq2, hs2⟩ := box_b w1 F
    have hs1 := hb1.size
    have hx2 := (hx0.keep (hb1.block _ hlt0)).keep (hb2.block _ (by omega))
    have hB2 := (hB0.trans (hb1.mono hB0.size)).trans (hb2.mono (by have := hB0.size; omega))
    have hlt2 := hx2.lt
    have hal2 := hx2.all
    have hc2 := hx2.N
    have hr2 := hq2.all
    dsimp only
    go_upto_region 4 with (refine @wpList_store_row _ _ _ _ _ _ _ rfl 30 (.tmp 7) (.tmp 21) rfl (w1.heap.size) (b64 F) rfl rfl 30 _ (heap_alloc_new w1 _) (size64 _) (by first | (simp only [b64_size]; done) | (rw [b64_size]; rfl)) (b64_all _) ?_; simp only [Act.put]; rw [World.setRow_alloc_new])
    rw [← hW2]
    have hb1lt : w.heap.size < w1.heap.size := by omega
    clear hW2 hb1 hb2 hx0 hlt0 hal0 hB0 HP
    go_wp2_with (first | (refine wpList_load_mid rfl 30 (.tmp 7) rfl (w1.heap.size) 0 rfl ((b64 F).toList) _ (by exact hr2) und64 rfl (by rw [Array.length_toList]; exact size64 _) ?_; simp only [Act.put, List.setIfInBounds_toArray, List.set_cons_succ, List.set_cons_zero, Array.toArray_toList]))
    refine (HT.out w2).mono ?_
    rintro _ w3 ⟨rfl, hb3⟩
    obtain ⟨w4, hW4, hb4, hm4, hs4⟩ := box1 w3 n
    have hs3 := hb3.size
    have hx4 := (hx2.keep (hb3.block _ hlt2)).keep (hb4.block _ (by omega))
    have hq4 := (hq2.keep (hb3.block _ (by omega))).keep (hb4.block _ (by omega))
    have hB4 := (hB2.trans (hb3.mono hB2.size)).trans (hb4.mono (by have := hB2.size; omega))
    have hr4 := hq4.all
    dsimp only
    go_upto_region 7 with (refine @wpList_store_row _ _ _ _ _ _ _ rfl 28 (.tmp 9) (.tmp 38) rfl (w3.heap.size) ((nV n).toArray) rfl rfl 28 _ (heap_alloc_new w3 _) (sizeN' _) rfl (nV_all _) ?_; simp only [Act.put]; rw [World.setRow_alloc_new])
    rw [← hW4]
    clear hW4 hb3 hb4 hx2 hlt2 hal2 hB2 HT hq2 hc2 hr2
    have hb3lt : w1.heap.size < w3.heap.size := by omega
    obtain ⟨w5, hW5, hb5, hz5, hs5⟩ := box_b w4 F
    have hx5 := hx4.keep (hb5.block _ (by omega))
    have hm5 := hm4.keep (hb5.block _ (by omega))
    have hB5 := hB4.trans (hb5.mono hB4.size)
    have hb4lt : w3.heap.size < w4.heap.size := by omega
    have hsz5 : w4.heap.size < w5.heap.size := by omega
    clear hs4 hs5 hs2 hs3 hs1
    go_upto_region 8 with (first | (refine wpList_load_mid rfl 30 (.tmp 7) rfl (w1.heap.size) 0 rfl ((b64 F).toList) _ (by exact hr4) und64 rfl (by rw [Array.length_toList]; exact size64 _) ?_; simp only [Act.put, List.setIfInBounds_toArray, List.set_cons_succ, List.set_cons_zero, Array.toArray_toList]) | (refine @wpList_store_row _ _ _ _ _ _ _ rfl 30 (.tmp 11) (.tmp 40) rfl (w4.heap.size) (b64 F) rfl rfl 30 _ (heap_alloc_new w4 _) (size64 _) (by first | (simp only [b64_size]; done) | (rw [b64_size]; rfl)) (b64_all _) ?_; simp only [Act.put]; rw [World.setRow_alloc_new]))
    rw [← hW5]
    clear hW5 hb5 hx4 hm4 hB4 hr4 hq4
    generalize w1.heap.size = b1 at *
    generalize w3.heap.size = b3 at *
    generalize w4.heap.size = b5 at *
    obtain ⟨j, hj, hj64⟩ : ∃ j : Nat, y1 % 64 = (j : Int) ∧ j < 64 := ⟨(y1 % 64).toNat, by omega, by omega⟩
    have hcj := hz5.cell hj64
    have hfj : w5.frozen? ⟨b5, j, none⟩ = false := frozen_of_row _ _ j _ _ hz5.row
    have hF0 := (HBY.out j).1
    have hF1 := (HBY.out j).2
    have hj2 : (j : Int) < 64 := by omega
    go_upto_region 9 with fail
    obtain ⟨hv0, hv1⟩ := xor_bd (F j) y2
    generalize bits BinOp.xor IntKind.u8 (F j) y2 = v at *
    obtain ⟨w6, hw6⟩ : ∃ w6, w6 = w5.setCell ⟨b5, j, none⟩ (.int .u8 v) := ⟨_, rfl⟩
    have hg6 := grown_setCell w5 b5 j (.int .u8 v)
    have hz6 : Bb w6 b5 (put F j v) := by rw [hw6]; exact bb_set hz5 j v
    rw [← hw6] at hg6 ⊢
    have hx6 := hx5.keep (hg6.block _ hx5.lt (by simp; omega))
    have hm6 := hm5.keep (hg6.block _ hm5.lt (by simp; omega))
    have hB6 := hB5.grown hg6 hB5.size (fun i hi => by cases hi; omega)
    have hpx : ∀ i, i < 64 → 0 ≤ put F j v i ∧ put F j v i < 256 := fun i _ => by
      unfold put
      split
      · exact ⟨hv0, hv1⟩
      · exact HBY.out i
    clear hw6 hg6 hcj hfj hF0 hF1 hj2 hj hj64 hz5 hx5 hm5 hB5 hv0 hv1 HBY hsz5
    generalize put F j v = x at *
    have HU := Lib.hid (fun W => take_any x hpx n.N W)
    have HOK := Lib.hid (fun (h : tkX x n.N = 0) => tk_ok h)
    clear hpx
    have hc6 := hx6.N
    have hlt6 := hx6.lt
    have hlz6 := hz6.lt
    have hr6 := hz6.all
    generalize tkR x n.N = R at *
    generalize tkX x n.N = X at *
    go_wp2_with (first | (refine wpList_load_mid rfl 30 (.tmp 11) rfl (b5) 0 rfl ((b64 x).toList) _ (by exact hr6) und64 rfl (by rw [Array.length_toList]; exact size64 _) ?_; simp only [Act.put, List.setIfInBounds_toArray, List.set_cons_succ, List.set_cons_zero, Array.toArray_toList]))
    refine (HU.out w6).mono ?_
    rintro _ w7 ⟨rfl, hb7⟩
    obtain ⟨w8, hW8, hb8, ho8, hs8⟩ := box1 w7 R
    have hs7 := hb7.size
    have hx8 := (hx6.keep (hb7.block _ hlt6)).keep (hb8.block _ (by omega))
    have hm8 := (hm6.keep (hb7.block _ hm6.lt)).keep (hb8.block _ (by have := hm6.lt; omega))
    have hz8 := (hz6.keep (hb7.block _ hlz6)).keep (hb8.block _ (by omega))
    have hB8 := (hB6.trans (hb7.mono hB6.size)).trans (hb8.mono (by have := hB6.size; omega))
    dsimp only
    go_upto_region 10 with (refine @wpList_store_row _ _ _ _ _ _ _ rfl 28 (.tmp 12) (.tmp 54) rfl (w7.heap.size) ((nV R).toArray) rfl rfl 28 _ (heap_alloc_new w7 _) (sizeN' _) rfl (nV_all _) ?_; simp only [Act.put]; rw [World.setRow_alloc_new])
    rw [← hW8]
    have ho8a := ho8.all
    have hl1 := hx8.lt
    have hl2 := hm8.lt
    have hl3 := hz8.lt
    have hl4 := ho8.lt
    clear hW8 hb7 hb8 hx6 hm6 hz6 hB6 HU hc6 hr6 hlt6 hlz6 hs8 hs7
    have HPR := Lib.hid (fun W => put_any R W)
    generalize w7.heap.size = b12 at *
    go_wp2_with (first | (refine wpList_load_mid rfl 28 (.tmp 12) rfl (b12) 0 rfl (nV R) _ (by exact ho8a) undN rfl (sizeN _) ?_; simp only [Act.put, List.setIfInBounds_toArray, List.set_cons_succ, List.set_cons_zero]))
    refine (HPR.out w8).mono ?_
    rintro _ w9 ⟨rfl, hb9⟩
    obtain ⟨wA, hWA, hbA, hoA, hsA⟩ := box_b w9 (ptF R)
    have hs9 := hb9.size
    have hxA := ((hx8.keep (hb9.block _ hl1)).keep (hbA.block _ (by omega))).all
    have hmA := ((hm8.keep (hb9.block _ hl2)).keep (hbA.block _ (by omega))).all
    have hzA := ((hz8.keep (hb9.block _ hl3)).keep (hbA.block _ (by omega))).all
    have hoA' := hoA.all
    have hBA := (hB8.trans (hb9.mono hB8.size)).trans (hbA.mono (by have := hB8.size; omega))
    dsimp only
    go_upto_region 11 with (refine @wpList_store_row _ _ _ _ _ _ _ rfl 30 (.tmp 14) (.tmp 59) rfl (w9.heap.size) (b64 (ptF R)) rfl rfl 30 _ (heap_alloc_new w9 _) (size64 _) (by first | (simp only [b64_size]; done) | (rw [b64_size]; rfl)) (b64_all _) ?_; simp only [Act.put]; rw [World.setRow_alloc_new])
    rw [← hWA]
    clear hWA hb9 hbA hx8 hm8 hz8 hB8 HPR ho8a hl1 hl2 hl3 hl4 hsA hs9 hoA ho8
    generalize w9.heap.size = b14 at *
    by_cases hX : X = 0
    · subst hX
      obtain ⟨hrR, heR⟩ := HOK.out rfl
      have hpe : ptE R = 0 := by unfold ptE; rw [hrR]; rfl
      have hpf : ptF R = lyF R := by unfold ptF; rw [hrR]; rfl
      rw [hpe]
      rw [hpf] at hoA'
      have HER := Lib.hid heR
      clear HOK hrR heR hpe hpf
      go_wp2_with (first | (refine @wpList_loadG _ _ _ _ _ _ _ (by kernel_rfl) 28 (.tmp 9) rfl (b3) 0 rfl (nV n) _ (by exact hmA) undN rfl (sizeN _) ?_; simp only [Act.put, List.setIfInBounds_toArray, List.set_cons_succ, List.set_cons_zero]) | (refine @wpList_loadG _ _ _ _ _ _ _ (by kernel_rfl) 28 (.tmp 3) rfl (w.heap.size) 0 rfl (nV n) _ (by exact hxA) undN rfl (sizeN _) ?_; simp only [Act.put, List.setIfInBounds_toArray, List.set_cons_succ, List.set_cons_zero]) | (refine @wpList_eqlV _ _ _ _ _ _ _ 28 _ (.tmp 64) (.tmp 65) rfl (by kernel_rfl) ((nV n).toArray) ((nV n).toArray) rfl rfl true guardN (by rw [eq_nd, eqN_same]) ?_; simp only [Act.put, List.setIfInBounds_toArray, List.set_cons_succ, List.set_cons_zero]) | (refine @wpList_loadG _ _ _ _ _ _ _ (by kernel_rfl) 30 (.tmp 14) rfl (b14) 0 rfl ((b64 (lyF R)).toList) _ (by exact hoA') und64 rfl (by rw [Array.length_toList]; exact size64 _) ?_; simp only [Act.put, List.setIfInBounds_toArray, List.set_cons_succ, List.set_cons_zero, Array.toArray_toList]) | (refine @wpList_loadG _ _ _ _ _ _ _ (by kernel_rfl) 30 (.tmp 11) rfl (b5) 0 rfl ((b64 x).toList) _ (by exact hzA) und64 rfl (by rw [Array.length_toList]; exact size64 _) ?_; simp only [Act.put, List.setIfInBounds_toArray, List.set_cons_succ, List.set_cons_zero, Array.toArray_toList]) | (refine @wpList_eqlV _ _ _ _ _ _ _ 30 _ (.tmp 75) (.tmp 76) rfl (by kernel_rfl) (b64 (lyF R)) (b64 x) rfl rfl true guard64 (by rw [← HER.out]; exact eq_64 _ _ _) ?_; simp only [Act.put, List.setIfInBounds_toArray, List.set_cons_succ, List.set_cons_zero]))
      go_ret
      exact ⟨rfl, hBA⟩
    · have hX2 : (X != 0) = true := by simp [hX]
      clear hX HOK hoA' hzA
      generalize ptE R = e2 at *
      generalize ptF R = f2 at *
      go_wp2_with (first | (refine @wpList_loadG _ _ _ _ _ _ _ (by kernel_rfl) 28 (.tmp 9) rfl (b3) 0 rfl (nV n) _ (by exact hmA) undN rfl (sizeN _) ?_; simp only [Act.put, List.setIfInBounds_toArray, List.set_cons_succ, List.set_cons_zero]) | (refine @wpList_loadG _ _ _ _ _ _ _ (by kernel_rfl) 28 (.tmp 3) rfl (w.heap.size) 0 rfl (nV n) _ (by exact hxA) undN rfl (sizeN _) ?_; simp only [Act.put, List.setIfInBounds_toArray, List.set_cons_succ, List.set_cons_zero]) | (refine @wpList_eqlV _ _ _ _ _ _ _ 28 _ (.tmp 64) (.tmp 65) rfl (by kernel_rfl) ((nV n).toArray) ((nV n).toArray) rfl rfl true guardN (by rw [eq_nd, eqN_same]) ?_; simp only [Act.put, List.setIfInBounds_toArray, List.set_cons_succ, List.set_cons_zero]))
      go_ret
      exact ⟨rfl, hBA⟩
end In
end Go.Proofs.Ytnmljjehkdbbjaa
