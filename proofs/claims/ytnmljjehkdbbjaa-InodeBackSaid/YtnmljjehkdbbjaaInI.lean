/- inode: Take, the document's (made by tools/gen_ini.py). -/
import Derived.Test.YtnmljjehkdbbjaaInH
namespace Go.Proofs.Ytnmljjehkdbbjaa
set_option maxRecDepth 20000
namespace In
open Go.RowKit Dk Eqb Byt Pt

theorem nm_byte {f : Nat → Int} (hf : ∀ i, i < 64 → 0 ≤ f i ∧ f i < 256) {k : Nat} (hk : k < 3) : nmF f k = f k := by
  have key : ∀ j : Nat, j < 64 → Wd.takeN 64 j 1 f = f j := fun j hj => by
    have hb := hf j hj
    have hr : Wd.rightAt 64 (j : Int) 1 8 := ⟨by omega, by omega, by omega, by omega⟩
    have e : Wd.takeS (j : Int) 1 f = f j := by
      unfold Wd.takeS
      show Wd.sumLE (fun i => f (((j : Int)).toNat + i)) 1 = f j
      simp [Wd.sumLE]
    unfold Wd.takeN
    rw [if_pos hr, e, if_pos (by omega)]
  match k, hk with
  | 0, _ => exact key 0 (by omega)
  | 1, _ => exact key 1 (by omega)
  | 2, _ => exact key 2 (by omega)
  | j + 3, h => omega
/-- the node of bytes, as the document's Take makes it -/
def rkN (f : Nat → Int) (N : Int) : Nd := ⟨N, f 0, f 1, tkV 64 8 f, Wd.takeN 64 4 4 f, f 2⟩
theorem rkN_tk {f : Nat → Int} (hf : ∀ i, i < 64 → 0 ≤ f i ∧ f i < 256) (N : Int) : tkN f N = rkN f N := by
  unfold tkN rkN
  rw [nm_byte hf (k := 0) (by omega), nm_byte hf (k := 1) (by omega), nm_byte hf (k := 2) (by omega)]
  rfl
theorem box_p (w : World) (p : Pn) : ∃ W, W = w.alloc (.cells (pV p).toArray 24) ∧ Below w.heap.size w W ∧ W.heap[w.heap.size]? = some (.cells (pV p).toArray 24 (0, 0)) ∧ W.heap.size = w.heap.size + 1 := ⟨_, rfl, box_pt w p⟩
theorem box_b (w : World) (f : Nat → Int) : ∃ W, W = w.alloc (.cells (b64 f) 30) ∧ Below w.heap.size w W ∧ Bb W w.heap.size f ∧ W.heap.size = w.heap.size + 1 := ⟨_, rfl, bb_new w f⟩
set_option maxRecDepth 100000 in
set_option maxHeartbeats 8000000 in
theorem reftake_any (f : Nat → Int) (hf : ∀ i, i < 64 → 0 ≤ f i ∧ f i < 256) (N : Int) (w : World) : Calls Try.prog 15 #[.agg (b64 f), .int .i64 N] w fun e w' => e = .returned (.tuple #[.agg (nV (tkR f N)).toArray, .int .i64 (tkX f N)]) ∧ Below w.heap.size w w' := by
  obtain ⟨W, hW, hb0, hs0, hx0, hx1⟩ := boxes2 w f
  obtain ⟨R, hR⟩ : ∃ R, tkR f N = R := ⟨_, rfl⟩
  obtain ⟨X, hX⟩ : ∃ X, tkX f N = X := ⟨_, rfl⟩
  rw [hR, hX]
  have hB := hb0
  have hz := hx1.row
  by_cases a1 : 1 ≤ N
  · by_cases a2 : N ≤ 64
    · have hn : nbB N = true := nbB_iff.2 ⟨a1, a2⟩
      have hal := hx0.all
      cases hz0 : eqB 64 f (fun _ => 0) with
      | true =>
        have HV : Hid (nz = R ∧ (4 : Int) = X) := Lib.hid (by rw [← hR, ← hX]; unfold tkR tkX; rw [hn, hz0]; exact ⟨rfl, rfl⟩)
        have HZ := Lib.hid hz0
        clear hR hX hn hz0 hx0 hx1 hb0 hf
        go_enter Try.func15, Try.ntmps15
        go_upto_region 1 with fail
        rw [znode, ← hW]
        clear hW
        go_wp2_with (first | (refine wpList_load_mid rfl 30 (.tmp 2) rfl (w.heap.size) 0 rfl ((b64 f).toList) _ (by exact hal) und64 rfl (by rw [Array.length_toList]; exact size64 _) ?_; simp only [Act.put, List.setIfInBounds_toArray, List.set_cons_succ, List.set_cons_zero, Array.toArray_toList]) | (refine @wpList_buildG _ _ _ _ _ _ _ (by kernel_rfl) 30 #[] rfl (b64 fun _ => 0) (by kernel_rfl) ?_; simp only [Act.put, List.setIfInBounds_toArray, List.set_cons_succ, List.set_cons_zero]) | (refine @wpList_eqlV _ _ _ _ _ _ _ 30 _ (.tmp 20) (.tmp 21) rfl (by kernel_rfl) (b64 f) (b64 fun _ => 0) rfl rfl true guard64 (by rw [← HZ.out]; exact eq_64 _ _ _) ?_; simp only [Act.put, List.setIfInBounds_toArray, List.set_cons_succ, List.set_cons_zero]) | (refine @wpList_buildG _ _ _ _ _ _ _ (by kernel_rfl) 28 #[] rfl (nV nz).toArray (by kernel_rfl) ?_; simp only [Act.put, List.setIfInBounds_toArray, List.set_cons_succ, List.set_cons_zero]) | (refine @wpList_store_row _ _ _ _ _ _ _ rfl 28 (.tmp 4) (.tmp 23) rfl (w.heap.size + 1) ((nV nz).toArray) rfl rfl 28 _ hz (sizeN' _) rfl (nV_all _) ?_; simp only [Act.put]))
        refine bodyPost_ret (results_2n rfl rfl rfl (setRow_heap _ _ _ _ _ _ hz)) rfl ?_
        exact ⟨by rw [HV.out.1, HV.out.2], below_row hB (by omega) _⟩
      | false =>
        have HZ := Lib.hid hz0
        have HRX : Hid ((if ((tkE 64 8 f == 0) && (rtB (rkN f N) && eqB 64 (lyF (rkN f N)) f)) = true then rkN f N else nz) = R ∧ (if ((tkE 64 8 f == 0) && (rtB (rkN f N) && eqB 64 (lyF (rkN f N)) f)) = true then (0 : Int) else 15) = X) := Lib.hid (by rw [← hR, ← hX]; unfold tkR tkX tkG; rw [hn, hz0, rkN_tk hf]; exact ⟨rfl, rfl⟩)
        have HT2 := Lib.hid (fun W (h : Wd.Reads W (some ⟨w.heap.size, 0, none⟩) 64 64 f) => Wd.reftake_any W (some ⟨w.heap.size, 0, none⟩) 64 64 f 4 4 h hf (by omega))
        have HT5 := Lib.hid (fun W (h : Wd.Own W w.heap.size (some ⟨w.heap.size, 0, none⟩) 64 64 f) => Pt.reftake_any W w.heap.size (some ⟨w.heap.size, 0, none⟩) 64 64 f 8 h hf (by omega) (by omega) (by omega))
        have HF := Lib.hid hf
        clear hR hX hn hz0 hf
        go_enter Try.func15, Try.ntmps15
        go_upto_region 1 with fail
        rw [znode, ← hW]
        clear hW
        go_wp2_with (first | (refine wpList_load_mid rfl 30 (.tmp 2) rfl (w.heap.size) 0 rfl ((b64 f).toList) _ (by exact hal) und64 rfl (by rw [Array.length_toList]; exact size64 _) ?_; simp only [Act.put, List.setIfInBounds_toArray, List.set_cons_succ, List.set_cons_zero, Array.toArray_toList]) | (refine @wpList_buildG _ _ _ _ _ _ _ (by kernel_rfl) 30 #[] rfl (b64 fun _ => 0) (by kernel_rfl) ?_; simp only [Act.put, List.setIfInBounds_toArray, List.set_cons_succ, List.set_cons_zero]) | (refine @wpList_eqlV _ _ _ _ _ _ _ 30 _ (.tmp 20) (.tmp 21) rfl (by kernel_rfl) (b64 f) (b64 fun _ => 0) rfl rfl false guard64 (by rw [← HZ.out]; exact eq_64 _ _ _) ?_; simp only [Act.put, List.setIfInBounds_toArray, List.set_cons_succ, List.set_cons_zero]))
        refine (HT2.out W hx0.own.reads).mono ?_
        rintro _ _ ⟨rfl, rfl⟩
        clear HT2 hal HZ
        dsimp only
        go_wp2_with fail
        refine (HT5.out W hx0.own).mono ?_
        rintro _ w1 ⟨rfl, hb1⟩
        have hy1 := hx0.keep (hb1.block _ (by omega))
        have hz1 := hx1.keep (hb1.block _ (by omega))
        have hB1 := hb0.trans (hb1.mono hb0.size)
        have hs1 := hb1.size
        obtain ⟨w2, hW2, hb2, hp2, hs2⟩ := box_p w1 (tkV 64 8 f)
        clear HT5 hb1 hb0 hx0 hx1 hB hz
        dsimp only
        go_upto_region 7 with (refine @wpList_store_row _ _ _ _ _ _ _ rfl 24 (.tmp 8) (.tmp 32) rfl (w1.heap.size) ((pV (tkV 64 8 f)).toArray) rfl rfl 24 _ (heap_alloc_new w1 _) (sizeP' _) rfl (pV_all _) ?_; simp only [Act.put]; rw [World.setRow_alloc_new])
        rw [← hW2]
        have hy2 := hy1.keep (hb2.block _ (by omega))
        have hz2 := hz1.keep (hb2.block _ (by omega))
        have hB2 := hB1.trans (hb2.mono hB1.size)
        have c0 := hy2.cell (j := 0) (by omega)
        have c1 := hy2.cell (j := 1) (by omega)
        have c2 := hy2.cell (j := 2) (by omega)
        have hrp := row_pt hp2
        have h00 := (HF.out 0 (by omega)).1
        have h01 := (HF.out 0 (by omega)).2
        have h10 := (HF.out 1 (by omega)).1
        have h11 := (HF.out 1 (by omega)).2
        have h20 := (HF.out 2 (by omega)).1
        have h21 := (HF.out 2 (by omega)).2
        obtain ⟨w3, hW3, hb3, hn3, hs3⟩ := box1 w2 (rkN f N)
        have HRK : Hid (rkN f N = ⟨N, f 0, f 1, tkV 64 8 f, Wd.takeN 64 4 4 f, f 2⟩) := Lib.hid rfl
        have hW3' := hW3
        rw [HRK.out] at hW3'
        clear hW2 hy1 hz1 hB1 hb2
        have hb10 : w.heap.size + 1 < w2.heap.size := by omega
        clear hs2 hs1
        generalize w1.heap.size = b8 at *
        go_upto_region 8 with (first | (refine wpList_load_mid rfl 24 (.tmp 8) rfl (b8) 0 rfl (pV (tkV 64 8 f)) _ (by exact hrp) undP rfl (sizeP _) ?_; simp only [Act.put, List.setIfInBounds_toArray, List.set_cons_succ, List.set_cons_zero]) | (refine wpList_buildL rfl 26 [(0, .tmp 41), (1, .tmp 42), (2, .tmp 45)] rfl _ rfl [(0, .agg (pV (tkV 64 8 f)).toArray), (1, .int .i64 (Wd.takeN 64 4 4 f)), (2, .int .i64 (f 2))] (by rfl) _ (builtS3 _ _ _) ?_; simp only [Act.put, List.setIfInBounds_toArray, List.set_cons_succ, List.set_cons_zero]) | (refine wpList_buildL rfl 28 [(0, .tmp 34), (1, .tmp 37), (2, .tmp 40), (3, .tmp 46)] rfl _ rfl [(0, .int .i64 N), (1, .int .i64 (f 0)), (2, .int .i64 (f 1)), (3, .agg (sV (tkV 64 8 f) (Wd.takeN 64 4 4 f) (f 2)).toArray)] (by rfl) _ (builtN4 _ _ _ _ _ _) ?_; simp only [Act.put, List.setIfInBounds_toArray, List.set_cons_succ, List.set_cons_zero]) | (refine @wpList_store_row _ _ _ _ _ _ _ rfl 28 (.tmp 10) (.tmp 47) rfl (w2.heap.size) ((nV ⟨N, f 0, f 1, tkV 64 8 f, Wd.takeN 64 4 4 f, f 2⟩).toArray) rfl rfl 28 _ (heap_alloc_new w2 _) (sizeN' _) rfl (nV_all _) ?_; simp only [Act.put]; rw [World.setRow_alloc_new]))
        rw [← hW3']
        have hy3 := hy2.keep (hb3.block _ (by omega))
        have hz3 := hz2.keep (hb3.block _ (by omega))
        have hB3 := hB2.trans (hb3.mono hB2.size)
        clear hW3 hW3' hy2 hz2 hB2 hb3 c0 c1 c2 hrp hp2 h00 h01 h10 h11 h20 h21 HF HRK
        obtain ⟨m, hm⟩ : ∃ m, rkN f N = m := ⟨_, rfl⟩
        rw [hm] at HRX hn3
        clear hm
        have HPF := Lib.hid (fun W => refput_any m W)
        have hal3 := hn3.all
        generalize w2.heap.size = b10 at *
        go_wp2_with (first | (refine wpList_load_mid rfl 28 (.tmp 10) rfl (b10) 0 rfl (nV m) _ (by exact hal3) undN rfl (sizeN _) ?_; simp only [Act.put, List.setIfInBounds_toArray, List.set_cons_succ, List.set_cons_zero]))
        refine (HPF.out w3).mono ?_
        rintro _ w4 ⟨rfl, hb4⟩
        have hn4 := hn3.keep (hb4.block _ hn3.lt)
        have hy4 := hy3.keep (hb4.block _ hy3.lt)
        have hz4 := hz3.keep (hb4.block _ hz3.lt)
        have hB4 := hB3.trans (hb4.mono hB3.size)
        have hs4 := hb4.size
        obtain ⟨w5, hW5, hb5, hq5, hs5⟩ := box_b w4 (ptF m)
        clear HPF hb4 hn3 hy3 hz3 hB3 hal3
        dsimp only
        go_upto_region 9 with (refine @wpList_store_row _ _ _ _ _ _ _ rfl 30 (.tmp 11) (.tmp 51) rfl (w4.heap.size) (b64 (ptF m)) rfl rfl 30 _ (heap_alloc_new w4 _) (size64 _) (by first | (simp only [b64_size]; done) | (rw [b64_size]; rfl)) (b64_all _) ?_; simp only [Act.put]; rw [World.setRow_alloc_new])
        rw [← hW5]
        have hn5 := hn4.keep (hb5.block _ hn4.lt)
        have hy5 := hy4.keep (hb5.block _ hy4.lt)
        have hz := (hz4.keep (hb5.block _ hz4.lt)).row
        have hB := hB4.trans (hb5.mono hB4.size)
        have hal5 := hn5.all
        have hr5 := hq5.all
        have hr2 := hy5.all
        clear hW5 hn4 hy4 hz4 hB4 hb5 hn5 hy5 hq5
        generalize w4.heap.size = b11 at *
        rcases tkE_or f with hE | hE
        · rw [hE] at HRX ⊢
          clear hE
          cases hr : rtB m with
          | false =>
            have HV : Hid (nz = R ∧ (15 : Int) = X) := Lib.hid (by have := HRX.out; rw [hr] at this; exact this)
            have hF : ptE m = 1 := by unfold ptE; rw [hr]; rfl
            rw [hF]
            clear HRX hr hF hr5 hr2 hal5
            go_wp2_with (first | (refine @wpList_buildG _ _ _ _ _ _ _ (by kernel_rfl) 28 #[] rfl (nV nz).toArray (by kernel_rfl) ?_; simp only [Act.put, List.setIfInBounds_toArray, List.set_cons_succ, List.set_cons_zero]) | (refine @wpList_store_row _ _ _ _ _ _ _ rfl 28 (.tmp 4) (.tmp 64) rfl (w.heap.size + 1) ((nV nz).toArray) rfl rfl 28 _ hz (sizeN' _) rfl (nV_all _) ?_; simp only [Act.put]))
            refine bodyPost_ret (results_2n rfl rfl rfl (setRow_heap _ _ _ _ _ _ hz)) rfl ?_
            exact ⟨by rw [HV.out.1, HV.out.2], below_row hB (by omega) _⟩
          | true =>
            have hF : ptE m = 0 := by unfold ptE; rw [hr]; rfl
            have hG : ptF m = lyF m := by unfold ptF; rw [hr]; rfl
            rw [hF]
            rw [hG] at hr5
            clear hF
            cases hq : eqB 64 (lyF m) f with
            | false =>
              have HV : Hid (nz = R ∧ (15 : Int) = X) := Lib.hid (by have := HRX.out; rw [hr, hq] at this; exact this)
              have HQ := Lib.hid hq
              clear HRX hr hq hG hal5
              go_wp2_with (first | (refine @wpList_loadG _ _ _ _ _ _ _ (by kernel_rfl) 30 (.tmp 11) rfl (b11) 0 rfl ((b64 (lyF m)).toList) _ (by exact hr5) und64 rfl (by rw [Array.length_toList]; exact size64 _) ?_; simp only [Act.put, List.setIfInBounds_toArray, List.set_cons_succ, List.set_cons_zero, Array.toArray_toList]) | (refine @wpList_loadG _ _ _ _ _ _ _ (by kernel_rfl) 30 (.tmp 2) rfl (w.heap.size) 0 rfl ((b64 f).toList) _ (by exact hr2) und64 rfl (by rw [Array.length_toList]; exact size64 _) ?_; simp only [Act.put, List.setIfInBounds_toArray, List.set_cons_succ, List.set_cons_zero, Array.toArray_toList]) | (refine @wpList_neqV _ _ _ _ _ _ _ 30 _ (.tmp 60) (.tmp 61) rfl (by kernel_rfl) (b64 (lyF m)) (b64 f) rfl rfl false guard64 (by rw [← HQ.out]; exact eq_64 _ _ _) ?_; simp only [Act.put, List.setIfInBounds_toArray, List.set_cons_succ, List.set_cons_zero]) | (refine @wpList_buildG _ _ _ _ _ _ _ (by kernel_rfl) 28 #[] rfl (nV nz).toArray (by kernel_rfl) ?_; simp only [Act.put, List.setIfInBounds_toArray, List.set_cons_succ, List.set_cons_zero]) | (refine @wpList_store_row _ _ _ _ _ _ _ rfl 28 (.tmp 4) (.tmp 64) rfl (w.heap.size + 1) ((nV nz).toArray) rfl rfl 28 _ hz (sizeN' _) rfl (nV_all _) ?_; simp only [Act.put]))
              refine bodyPost_ret (results_2n rfl rfl rfl (setRow_heap _ _ _ _ _ _ hz)) rfl ?_
              exact ⟨by rw [HV.out.1, HV.out.2], below_row hB (by omega) _⟩
            | true =>
              have HV : Hid (m = R ∧ (0 : Int) = X) := Lib.hid (by have := HRX.out; rw [hr, hq] at this; exact this)
              have HQ := Lib.hid hq
              clear HRX hr hq hG
              go_wp2_with (first | (refine @wpList_loadG _ _ _ _ _ _ _ (by kernel_rfl) 30 (.tmp 11) rfl (b11) 0 rfl ((b64 (lyF m)).toList) _ (by exact hr5) und64 rfl (by rw [Array.length_toList]; exact size64 _) ?_; simp only [Act.put, List.setIfInBounds_toArray, List.set_cons_succ, List.set_cons_zero, Array.toArray_toList]) | (refine @wpList_loadG _ _ _ _ _ _ _ (by kernel_rfl) 30 (.tmp 2) rfl (w.heap.size) 0 rfl ((b64 f).toList) _ (by exact hr2) und64 rfl (by rw [Array.length_toList]; exact size64 _) ?_; simp only [Act.put, List.setIfInBounds_toArray, List.set_cons_succ, List.set_cons_zero, Array.toArray_toList]) | (refine @wpList_neqV _ _ _ _ _ _ _ 30 _ (.tmp 60) (.tmp 61) rfl (by kernel_rfl) (b64 (lyF m)) (b64 f) rfl rfl true guard64 (by rw [← HQ.out]; exact eq_64 _ _ _) ?_; simp only [Act.put, List.setIfInBounds_toArray, List.set_cons_succ, List.set_cons_zero]) | (refine wpList_load_mid rfl 28 (.tmp 10) rfl (b10) 0 rfl (nV m) _ (by exact hal5) undN rfl (sizeN _) ?_; simp only [Act.put, List.setIfInBounds_toArray, List.set_cons_succ, List.set_cons_zero]) | (refine @wpList_store_row _ _ _ _ _ _ _ rfl 28 (.tmp 4) (.tmp 65) rfl (w.heap.size + 1) ((nV m).toArray) rfl rfl 28 _ hz (sizeN' _) rfl (nV_all _) ?_; simp only [Act.put]))
              refine bodyPost_ret (results_2n rfl rfl rfl (setRow_heap _ _ _ _ _ _ hz)) rfl ?_
              exact ⟨by rw [HV.out.1, HV.out.2], below_row hB (by omega) _⟩
        · rw [hE] at HRX ⊢
          clear hE
          have HV : Hid (nz = R ∧ (15 : Int) = X) := HRX
          clear HRX hr5 hr2 hal5
          go_wp2_with (first | (refine @wpList_buildG _ _ _ _ _ _ _ (by kernel_rfl) 28 #[] rfl (nV nz).toArray (by kernel_rfl) ?_; simp only [Act.put, List.setIfInBounds_toArray, List.set_cons_succ, List.set_cons_zero]) | (refine @wpList_store_row _ _ _ _ _ _ _ rfl 28 (.tmp 4) (.tmp 64) rfl (w.heap.size + 1) ((nV nz).toArray) rfl rfl 28 _ hz (sizeN' _) rfl (nV_all _) ?_; simp only [Act.put]))
          refine bodyPost_ret (results_2n rfl rfl rfl (setRow_heap _ _ _ _ _ _ hz)) rfl ?_
          exact ⟨by rw [HV.out.1, HV.out.2], below_row hB (by omega) _⟩
    · have HV : Hid (nz = R ∧ (1 : Int) = X) := Lib.hid (by rw [← hR, ← hX]; unfold tkR tkX; rw [show nbB N = false by simp [nbB, a2]]; exact ⟨rfl, rfl⟩)
      clear hR hX hx0 hx1 hb0 hf
      go_enter Try.func15, Try.ntmps15
      go_upto_region 1 with fail
      rw [znode, ← hW]
      clear hW
      go_wp2_with (first | (refine @wpList_buildG _ _ _ _ _ _ _ (by kernel_rfl) 28 #[] rfl (nV nz).toArray (by kernel_rfl) ?_; simp only [Act.put, List.setIfInBounds_toArray, List.set_cons_succ, List.set_cons_zero]) | (refine @wpList_store_row _ _ _ _ _ _ _ rfl 28 (.tmp 4) (.tmp 19) rfl (w.heap.size + 1) ((nV nz).toArray) rfl rfl 28 _ hz (sizeN' _) rfl (nV_all _) ?_; simp only [Act.put]))
      refine bodyPost_ret (results_2n rfl rfl rfl (setRow_heap _ _ _ _ _ _ hz)) rfl ?_
      exact ⟨by rw [HV.out.1, HV.out.2], below_row hB (by omega) _⟩
  · have HV : Hid (nz = R ∧ (1 : Int) = X) := Lib.hid (by rw [← hR, ← hX]; unfold tkR tkX; rw [show nbB N = false by simp [nbB, a1]]; exact ⟨rfl, rfl⟩)
    clear hR hX hx0 hx1 hb0 hf
    go_enter Try.func15, Try.ntmps15
    go_upto_region 1 with fail
    rw [znode, ← hW]
    clear hW
    go_wp2_with (first | (refine @wpList_buildG _ _ _ _ _ _ _ (by kernel_rfl) 28 #[] rfl (nV nz).toArray (by kernel_rfl) ?_; simp only [Act.put, List.setIfInBounds_toArray, List.set_cons_succ, List.set_cons_zero]) | (refine @wpList_store_row _ _ _ _ _ _ _ rfl 28 (.tmp 4) (.tmp 19) rfl (w.heap.size + 1) ((nV nz).toArray) rfl rfl 28 _ hz (sizeN' _) rfl (nV_all _) ?_; simp only [Act.put]))
    refine bodyPost_ret (results_2n rfl rfl rfl (setRow_heap _ _ _ _ _ _ hz)) rfl ?_
    exact ⟨by rw [HV.out.1, HV.out.2], below_row hB (by omega) _⟩
end In
end Go.Proofs.Ytnmljjehkdbbjaa
