/- inode: Take, the program's (made by tools/gen_inh.py). -/
import Derived.Test.YtnmljjehkdbbjaaInG
namespace Go.Proofs.Ytnmljjehkdbbjaa
set_option maxRecDepth 20000
namespace In
open Go.RowKit Dk Eqb Byt Pt

/-- the node of bytes, if it is one -/
def tkN (f : Nat → Int) (N : Int) : Nd := ⟨N, nmF f 0, nmF f 1, tkV 64 8 f, nmF f 3, nmF f 2⟩
def tkG (f : Nat → Int) (N : Int) : Bool := (tkE 64 8 f == 0) && (rtB (tkN f N) && eqB 64 (lyF (tkN f N)) f)
def tkR (f : Nat → Int) (N : Int) : Nd := if nbB N = true then if eqB 64 f (fun _ => 0) = true then nz else if tkG f N = true then tkN f N else nz else nz
def tkX (f : Nat → Int) (N : Int) : Int := if nbB N = true then if eqB 64 f (fun _ => 0) = true then 4 else if tkG f N = true then 0 else 15 else 1
theorem tkE_or (f : Nat → Int) : tkE 64 8 f = 0 ∨ tkE 64 8 f = 15 := by
  unfold tkE
  rw [if_pos (by decide)]
  split
  · exact .inl rfl
  · exact .inr rfl
theorem Below.drawn (W : World) : Below W.heap.size W W := ⟨rfl, rfl, rfl, Nat.le_refl _, fun _ _ => rfl⟩
attribute [local irreducible] wpQuiet
set_option maxRecDepth 100000 in
set_option maxHeartbeats 8000000 in
theorem take_any (f : Nat → Int) (hf : ∀ i, i < 64 → 0 ≤ f i ∧ f i < 256) (N : Int) (w : World) : Calls Try.prog 14 #[.agg (b64 f), .int .i64 N] w fun e w' => e = .returned (.tuple #[.agg (nV (tkR f N)).toArray, .int .i64 (tkX f N)]) ∧ Below w.heap.size w w' := by
  obtain ⟨W, hW, hb0, hs0, hx0, hx1⟩ := boxes2 w f
  have HA := Lib.hid (fun W => numbered_any N W)
  have HP := Lib.hid (fun W => parts_any f hf W)
  obtain ⟨R, hR⟩ : ∃ R, tkR f N = R := ⟨_, rfl⟩
  obtain ⟨X, hX⟩ : ∃ X, tkX f N = X := ⟨_, rfl⟩
  rw [hR, hX]
  clear hf
  cases hn : nbB N with
  | false =>
    have HV : Hid (nz = R ∧ (1 : Int) = X) := Lib.hid (by rw [← hR, ← hX]; unfold tkR tkX; rw [hn]; exact ⟨rfl, rfl⟩)
    rw [hn] at HA
    clear hR hX hn HP
    go_enter Try.func14, Try.ntmps14
    go_upto_region 1 with fail
    rw [znode, ← hW]
    clear hW
    go_wp2_with fail
    refine (HA.out W).mono ?_
    rintro _ _ ⟨rfl, rfl⟩
    have hz := hx1.row
    have hB := hb0
    clear HA hx0 hx1
    dsimp only
    go_wp2_with (first | (refine @wpList_buildG _ _ _ _ _ _ _ (by kernel_rfl) 28 #[] rfl (nV nz).toArray (by kernel_rfl) ?_; simp only [Act.put, List.setIfInBounds_toArray, List.set_cons_succ, List.set_cons_zero]) | (refine @wpList_store_row _ _ _ _ _ _ _ rfl 28 (.tmp 4) (.tmp 11) rfl (w.heap.size + 1) ((nV nz).toArray) rfl rfl 28 _ hz (sizeN' _) rfl (nV_all _) ?_; simp only [Act.put]))
    refine bodyPost_ret (results_2n rfl rfl rfl (setRow_heap _ _ _ _ _ _ hz)) rfl ?_
    exact ⟨by rw [HV.out.1, HV.out.2], below_row hB (by omega) _⟩
  | true =>
    rw [hn] at HA
    have hal := hx0.all
    cases hz0 : eqB 64 f (fun _ => 0) with
    | true =>
      have HV : Hid (nz = R ∧ (4 : Int) = X) := Lib.hid (by rw [← hR, ← hX]; unfold tkR tkX; rw [hn, hz0]; exact ⟨rfl, rfl⟩)
      have HZ := Lib.hid hz0
      clear hR hX hn HP hz0
      go_enter Try.func14, Try.ntmps14
      go_upto_region 1 with fail
      rw [znode, ← hW]
      clear hW
      go_wp2_with fail
      refine (HA.out W).mono ?_
      rintro _ _ ⟨rfl, rfl⟩
      have hz := hx1.row
      have hB := hb0
      clear HA hx0 hx1
      dsimp only
      go_wp2_with (first | (refine wpList_load_mid rfl 30 (.tmp 2) rfl (w.heap.size) 0 rfl ((b64 f).toList) _ (by exact hal) und64 rfl (by rw [Array.length_toList]; exact size64 _) ?_; simp only [Act.put, List.setIfInBounds_toArray, List.set_cons_succ, List.set_cons_zero, Array.toArray_toList]) | (refine @wpList_buildG _ _ _ _ _ _ _ (by kernel_rfl) 30 #[] rfl (b64 fun _ => 0) (by kernel_rfl) ?_; simp only [Act.put, List.setIfInBounds_toArray, List.set_cons_succ, List.set_cons_zero]) | (refine @wpList_eqlV _ _ _ _ _ _ _ 30 _ (.tmp 12) (.tmp 13) rfl (by kernel_rfl) (b64 f) (b64 fun _ => 0) rfl rfl true guard64 (by rw [← HZ.out]; exact eq_64 _ _ _) ?_; simp only [Act.put, List.setIfInBounds_toArray, List.set_cons_succ, List.set_cons_zero]) | (refine @wpList_buildG _ _ _ _ _ _ _ (by kernel_rfl) 28 #[] rfl (nV nz).toArray (by kernel_rfl) ?_; simp only [Act.put, List.setIfInBounds_toArray, List.set_cons_succ, List.set_cons_zero]) | (refine @wpList_store_row _ _ _ _ _ _ _ rfl 28 (.tmp 4) (.tmp 15) rfl (w.heap.size + 1) ((nV nz).toArray) rfl rfl 28 _ hz (sizeN' _) rfl (nV_all _) ?_; simp only [Act.put]))
      refine bodyPost_ret (results_2n rfl rfl rfl (setRow_heap _ _ _ _ _ _ hz)) rfl ?_
      exact ⟨by rw [HV.out.1, HV.out.2], below_row hB (by omega) _⟩
    | false =>
      have HZ := Lib.hid hz0
      have HRX : Hid ((if tkG f N = true then tkN f N else nz) = R ∧ (if tkG f N = true then (0 : Int) else 15) = X) := Lib.hid (by rw [← hR, ← hX]; unfold tkR tkX; rw [hn, hz0]; exact ⟨rfl, rfl⟩)
      clear hR hX hn hz0
      go_enter Try.func14, Try.ntmps14
      go_upto_region 1 with fail
      rw [znode, ← hW]
      clear hW
      go_wp2_with fail
      refine (HA.out W).mono ?_
      rintro _ _ ⟨rfl, rfl⟩
      clear HA
      dsimp only
      go_wp2_with (first | (refine wpList_load_mid rfl 30 (.tmp 2) rfl (w.heap.size) 0 rfl ((b64 f).toList) _ (by exact hal) und64 rfl (by rw [Array.length_toList]; exact size64 _) ?_; simp only [Act.put, List.setIfInBounds_toArray, List.set_cons_succ, List.set_cons_zero, Array.toArray_toList]) | (refine @wpList_buildG _ _ _ _ _ _ _ (by kernel_rfl) 30 #[] rfl (b64 fun _ => 0) (by kernel_rfl) ?_; simp only [Act.put, List.setIfInBounds_toArray, List.set_cons_succ, List.set_cons_zero]) | (refine @wpList_eqlV _ _ _ _ _ _ _ 30 _ (.tmp 12) (.tmp 13) rfl (by kernel_rfl) (b64 f) (b64 fun _ => 0) rfl rfl false guard64 (by rw [← HZ.out]; exact eq_64 _ _ _) ?_; simp only [Act.put, List.setIfInBounds_toArray, List.set_cons_succ, List.set_cons_zero]))
      refine (HP.out W).mono ?_
      rintro _ w1 ⟨rfl, hb1⟩
      have hy1 := hx0.keep (hb1.block _ (by omega))
      have hz1 := hx1.keep (hb1.block _ (by omega))
      have hB1 := hb0.trans (hb1.mono hb0.size)
      have hs1 := hb1.size
      obtain ⟨w2, hW2, hb2, hn2, hs2⟩ := box1 w1 (paN f)
      clear HP hb1 hb0 hx0 hx1 hal HZ
      dsimp only
      go_upto_region 6 with (refine @wpList_store_row _ _ _ _ _ _ _ rfl 28 (.tmp 6) (.tmp 19) rfl (w1.heap.size) ((nV (paN f)).toArray) rfl rfl 28 _ (heap_alloc_new w1 _) (sizeN' _) rfl (nV_all _) ?_; simp only [Act.put]; rw [World.setRow_alloc_new])
      rw [← hW2]
      have hy2 := hy1.keep (hb2.block _ (by omega))
      have hz2 := hz1.keep (hb2.block _ (by omega))
      have hB2 := hB1.trans (hb2.mono hB1.size)
      have hm3 : ∃ w3, w3 = w2.setCell ⟨w1.heap.size, 0, none⟩ (.int .i64 N) ∧ Bn w3 w1.heap.size (tkN f N) ∧ Bb w3 w.heap.size f ∧ Bn w3 (w.heap.size + 1) nz ∧ Below w.heap.size w w3 :=
        ⟨_, rfl, bn_set hn2 0 _ _ (set_N _ _), hy2.keep ((grown_setCell _ _ _ _).block _ hy2.lt (by simp; omega)), hz2.keep ((grown_setCell _ _ _ _).block _ hz2.lt (by simp; omega)), hB2.grown (grown_setCell _ _ _ _) hB2.size (fun j hj => by cases hj; omega)⟩
      obtain ⟨w3, hw3, hn3, hy3, hz3, hB3⟩ := hm3
      have hcc := hn2.N
      have hff := hn2.free 0
      clear hW2 hy1 hz1 hB1 hb2 hy2 hz2 hB2 hn2
      have hb6 : w.heap.size + 1 < w1.heap.size := by omega
      generalize w1.heap.size = b6 at *
      go_upto_region 7 with fail
      rw [← hw3]
      clear hw3 hcc hff
      obtain ⟨m, hm⟩ : ∃ m, tkN f N = m := ⟨_, rfl⟩
      have HRX2 : Hid ((if ((tkE 64 8 f == 0) && (rtB m && eqB 64 (lyF m) f)) = true then m else nz) = R ∧ (if ((tkE 64 8 f == 0) && (rtB m && eqB 64 (lyF m) f)) = true then (0 : Int) else 15) = X) := Lib.hid (by rw [← hm]; exact HRX.out)
      rw [hm] at hn3
      have HN := Lib.hid (fun w' (hb : Below w3.heap.size w3 w') => hn3.keep (hb.block _ hn3.lt))
      have HB := Lib.hid (fun w' (hb : Below w3.heap.size w3 w') => hy3.keep (hb.block _ hy3.lt))
      have HC := Lib.hid (fun w' (hb : Below w3.heap.size w3 w') => hz3.keep (hb.block _ hz3.lt))
      have HB3 := Lib.hid hB3
      have HR := Lib.hid (fun W => right_any m W)
      clear hm HRX hn3 hy3 hz3 hB3 hs2 hs1
      rcases tkE_or f with hE | hE
      · rw [hE] at HRX2 ⊢
        clear hE
        cases hr : rtB m with
        | false =>
          have HV : Hid (nz = R ∧ (15 : Int) = X) := Lib.hid (by have := HRX2.out; rw [hr] at this; exact this)
          rw [hr] at HR
          clear HRX2 hr
          refine wp_region_quiet (C := fun w' => Below w3.heap.size w3 w') (by kernel_rfl) (by kernel_rfl) ⟨rfl, rfl, rfl, Nat.le_refl _, fun _ _ => rfl⟩ ?_
          refine q_move _ rfl rfl ?_
          simp only [Act.put, List.setIfInBounds_toArray, List.set_cons_succ, List.set_cons_zero]
          refine q_val (.bool false) rfl (fun w' hw' => by go_simp) ?_
          simp only [Act.put, List.setIfInBounds_toArray, List.set_cons_succ, List.set_cons_zero]
          refine q_move _ rfl rfl ?_
          simp only [Act.put, List.setIfInBounds_toArray, List.set_cons_succ, List.set_cons_zero]
          refine q_loadB 28 (.tmp 6) rfl (by kernel_rfl) b6 0 rfl (nV m) _ (fun w' hw' => (HN.out w' hw').all) undN rfl (sizeN _) ?_
          simp only [Act.put, List.setIfInBounds_toArray, List.set_cons_succ, List.set_cons_zero]
          refine q_call 12 _ (.bool false) (by kernel_rfl) (fun w' => by go_simp) (fun w' hw' => (HR.out w').mono fun e w'' ⟨he, hb⟩ => ⟨he, hw'.trans (hb.mono hw'.size)⟩) ?_
          simp only [Act.put, List.setIfInBounds_toArray, List.set_cons_succ, List.set_cons_zero]
          refine q_val (.bool true) (by kernel_rfl) (fun w' hw' => by go_simp) ?_
          simp only [Act.put, List.setIfInBounds_toArray, List.set_cons_succ, List.set_cons_zero]
          refine q_val (.bool true) rfl (fun w' hw' => by go_simp) ?_
          simp only [Act.put, List.setIfInBounds_toArray, List.set_cons_succ, List.set_cons_zero]
          refine q_move _ rfl rfl ?_
          simp only [Act.put, List.setIfInBounds_toArray, List.set_cons_succ, List.set_cons_zero]
          refine BigFrame.wpQuiet_skip (by kernel_rfl) ?_
          simp only [Act.put, List.setIfInBounds_toArray, List.set_cons_succ, List.set_cons_zero]
          refine BigFrame.wpQuiet_skip (by kernel_rfl) ?_
          simp only [Act.put, List.setIfInBounds_toArray, List.set_cons_succ, List.set_cons_zero]
          refine BigFrame.wpQuiet_skip (by kernel_rfl) ?_
          simp only [Act.put, List.setIfInBounds_toArray, List.set_cons_succ, List.set_cons_zero]
          refine BigFrame.wpQuiet_skip (by kernel_rfl) ?_
          simp only [Act.put, List.setIfInBounds_toArray, List.set_cons_succ, List.set_cons_zero]
          refine q_val (.bool true) rfl (fun w' hw' => by go_simp) ?_
          simp only [Act.put, List.setIfInBounds_toArray, List.set_cons_succ, List.set_cons_zero]
          refine wpQuiet_nil ?_
          intro w4 hw4
          have hz := (HC.out w4 hw4).row
          have hB := HB3.out.trans (hw4.mono HB3.out.size)
          clear HN HB HC HR hw4
          go_wp2_with (first | (refine @wpList_buildG _ _ _ _ _ _ _ (by kernel_rfl) 28 #[] rfl (nV nz).toArray (by kernel_rfl) ?_; simp only [Act.put, List.setIfInBounds_toArray, List.set_cons_succ, List.set_cons_zero]) | (refine @wpList_store_row _ _ _ _ _ _ _ rfl 28 (.tmp 4) (.tmp 36) rfl (w.heap.size + 1) ((nV nz).toArray) rfl rfl 28 _ hz (sizeN' _) rfl (nV_all _) ?_; simp only [Act.put]))
          refine bodyPost_ret (results_2n rfl rfl rfl (setRow_heap _ _ _ _ _ _ hz)) rfl ?_
          exact ⟨by rw [HV.out.1, HV.out.2], below_row hB (by omega) _⟩
        | true =>
          have HL := Lib.hid (fun W => lay_any m hr W)
          rw [hr] at HR
          cases hq : eqB 64 (lyF m) f with
          | false =>
            have HV : Hid (nz = R ∧ (15 : Int) = X) := Lib.hid (by have := HRX2.out; rw [hr, hq] at this; exact this)
            have HQ := Lib.hid hq
            clear HRX2 hr hq
            refine wp_region_quiet (C := fun w' => Below w3.heap.size w3 w') (by kernel_rfl) (by kernel_rfl) ⟨rfl, rfl, rfl, Nat.le_refl _, fun _ _ => rfl⟩ ?_
            refine q_move _ rfl rfl ?_
            simp only [Act.put, List.setIfInBounds_toArray, List.set_cons_succ, List.set_cons_zero]
            refine q_val (.bool false) rfl (fun w' hw' => by go_simp) ?_
            simp only [Act.put, List.setIfInBounds_toArray, List.set_cons_succ, List.set_cons_zero]
            refine q_move _ rfl rfl ?_
            simp only [Act.put, List.setIfInBounds_toArray, List.set_cons_succ, List.set_cons_zero]
            refine q_loadB 28 (.tmp 6) rfl (by kernel_rfl) b6 0 rfl (nV m) _ (fun w' hw' => (HN.out w' hw').all) undN rfl (sizeN _) ?_
            simp only [Act.put, List.setIfInBounds_toArray, List.set_cons_succ, List.set_cons_zero]
            refine q_call 12 _ (.bool true) (by kernel_rfl) (fun w' => by go_simp) (fun w' hw' => (HR.out w').mono fun e w'' ⟨he, hb⟩ => ⟨he, hw'.trans (hb.mono hw'.size)⟩) ?_
            simp only [Act.put, List.setIfInBounds_toArray, List.set_cons_succ, List.set_cons_zero]
            refine q_val (.bool false) (by kernel_rfl) (fun w' hw' => by go_simp) ?_
            simp only [Act.put, List.setIfInBounds_toArray, List.set_cons_succ, List.set_cons_zero]
            refine q_val (.bool false) rfl (fun w' hw' => by go_simp) ?_
            simp only [Act.put, List.setIfInBounds_toArray, List.set_cons_succ, List.set_cons_zero]
            refine q_move _ rfl rfl ?_
            simp only [Act.put, List.setIfInBounds_toArray, List.set_cons_succ, List.set_cons_zero]
            refine q_loadB 28 (.tmp 6) rfl (by kernel_rfl) b6 0 rfl (nV m) _ (fun w' hw' => (HN.out w' hw').all) undN rfl (sizeN _) ?_
            simp only [Act.put, List.setIfInBounds_toArray, List.set_cons_succ, List.set_cons_zero]
            refine q_call 18 _ (.agg (b64 (lyF m))) (by kernel_rfl) (fun w' => by go_simp) (fun w' hw' => (HL.out w').mono fun e w'' ⟨he, hb⟩ => ⟨he, hw'.trans (hb.mono hw'.size)⟩) ?_
            simp only [Act.put, List.setIfInBounds_toArray, List.set_cons_succ, List.set_cons_zero]
            refine q_loadB 30 (.tmp 2) rfl (by kernel_rfl) w.heap.size 0 rfl ((b64 f).toList) _ (fun w' hw' => (HB.out w' hw').all) und64 rfl (by rw [Array.length_toList]; exact size64 _) ?_
            simp only [Act.put, List.setIfInBounds_toArray, List.set_cons_succ, List.set_cons_zero]
            refine q_neqV 30 _ (.tmp 32) (.tmp 33) rfl (by kernel_rfl) (b64 (lyF m)) (b64 f) rfl (by simp only [Array.toArray_toList]; rfl) (false) guard64 (fun w' _ => by rw [← HQ.out]; exact eq_64 _ _ _) ?_
            simp only [Act.put, List.setIfInBounds_toArray, List.set_cons_succ, List.set_cons_zero]
            refine q_val (.bool true) rfl (fun w' hw' => by go_simp) ?_
            simp only [Act.put, List.setIfInBounds_toArray, List.set_cons_succ, List.set_cons_zero]
            refine wpQuiet_nil ?_
            intro w4 hw4
            have hz := (HC.out w4 hw4).row
            have hB := HB3.out.trans (hw4.mono HB3.out.size)
            clear HN HB HC HR hw4 HL HQ
            go_wp2_with (first | (refine @wpList_buildG _ _ _ _ _ _ _ (by kernel_rfl) 28 #[] rfl (nV nz).toArray (by kernel_rfl) ?_; simp only [Act.put, List.setIfInBounds_toArray, List.set_cons_succ, List.set_cons_zero]) | (refine @wpList_store_row _ _ _ _ _ _ _ rfl 28 (.tmp 4) (.tmp 36) rfl (w.heap.size + 1) ((nV nz).toArray) rfl rfl 28 _ hz (sizeN' _) rfl (nV_all _) ?_; simp only [Act.put]))
            refine bodyPost_ret (results_2n rfl rfl rfl (setRow_heap _ _ _ _ _ _ hz)) rfl ?_
            exact ⟨by rw [HV.out.1, HV.out.2], below_row hB (by omega) _⟩
          | true =>
            have HV : Hid (m = R ∧ (0 : Int) = X) := Lib.hid (by have := HRX2.out; rw [hr, hq] at this; exact this)
            have HQ := Lib.hid hq
            clear HRX2 hr hq
            refine wp_region_quiet (C := fun w' => Below w3.heap.size w3 w') (by kernel_rfl) (by kernel_rfl) ⟨rfl, rfl, rfl, Nat.le_refl _, fun _ _ => rfl⟩ ?_
            refine q_move _ rfl rfl ?_
            simp only [Act.put, List.setIfInBounds_toArray, List.set_cons_succ, List.set_cons_zero]
            refine q_val (.bool false) rfl (fun w' hw' => by go_simp) ?_
            simp only [Act.put, List.setIfInBounds_toArray, List.set_cons_succ, List.set_cons_zero]
            refine q_move _ rfl rfl ?_
            simp only [Act.put, List.setIfInBounds_toArray, List.set_cons_succ, List.set_cons_zero]
            refine q_loadB 28 (.tmp 6) rfl (by kernel_rfl) b6 0 rfl (nV m) _ (fun w' hw' => (HN.out w' hw').all) undN rfl (sizeN _) ?_
            simp only [Act.put, List.setIfInBounds_toArray, List.set_cons_succ, List.set_cons_zero]
            refine q_call 12 _ (.bool true) (by kernel_rfl) (fun w' => by go_simp) (fun w' hw' => (HR.out w').mono fun e w'' ⟨he, hb⟩ => ⟨he, hw'.trans (hb.mono hw'.size)⟩) ?_
            simp only [Act.put, List.setIfInBounds_toArray, List.set_cons_succ, List.set_cons_zero]
            refine q_val (.bool false) (by kernel_rfl) (fun w' hw' => by go_simp) ?_
            simp only [Act.put, List.setIfInBounds_toArray, List.set_cons_succ, List.set_cons_zero]
            refine q_val (.bool false) rfl (fun w' hw' => by go_simp) ?_
            simp only [Act.put, List.setIfInBounds_toArray, List.set_cons_succ, List.set_cons_zero]
            refine q_move _ rfl rfl ?_
            simp only [Act.put, List.setIfInBounds_toArray, List.set_cons_succ, List.set_cons_zero]
            refine q_loadB 28 (.tmp 6) rfl (by kernel_rfl) b6 0 rfl (nV m) _ (fun w' hw' => (HN.out w' hw').all) undN rfl (sizeN _) ?_
            simp only [Act.put, List.setIfInBounds_toArray, List.set_cons_succ, List.set_cons_zero]
            refine q_call 18 _ (.agg (b64 (lyF m))) (by kernel_rfl) (fun w' => by go_simp) (fun w' hw' => (HL.out w').mono fun e w'' ⟨he, hb⟩ => ⟨he, hw'.trans (hb.mono hw'.size)⟩) ?_
            simp only [Act.put, List.setIfInBounds_toArray, List.set_cons_succ, List.set_cons_zero]
            refine q_loadB 30 (.tmp 2) rfl (by kernel_rfl) w.heap.size 0 rfl ((b64 f).toList) _ (fun w' hw' => (HB.out w' hw').all) und64 rfl (by rw [Array.length_toList]; exact size64 _) ?_
            simp only [Act.put, List.setIfInBounds_toArray, List.set_cons_succ, List.set_cons_zero]
            refine q_neqV 30 _ (.tmp 32) (.tmp 33) rfl (by kernel_rfl) (b64 (lyF m)) (b64 f) rfl (by simp only [Array.toArray_toList]; rfl) (true) guard64 (fun w' _ => by rw [← HQ.out]; exact eq_64 _ _ _) ?_
            simp only [Act.put, List.setIfInBounds_toArray, List.set_cons_succ, List.set_cons_zero]
            refine q_val (.bool false) rfl (fun w' hw' => by go_simp) ?_
            simp only [Act.put, List.setIfInBounds_toArray, List.set_cons_succ, List.set_cons_zero]
            refine wpQuiet_nil ?_
            intro w4 hw4
            have hz := (HC.out w4 hw4).row
            have hal4 := (HN.out w4 hw4).all
            have hB := HB3.out.trans (hw4.mono HB3.out.size)
            clear HN HB HC HR hw4 HL HQ
            go_wp2_with (first | (refine wpList_load_mid rfl 28 (.tmp 6) rfl (b6) 0 rfl (nV m) _ (by exact hal4) undN rfl (sizeN _) ?_; simp only [Act.put, List.setIfInBounds_toArray, List.set_cons_succ, List.set_cons_zero]) | (refine @wpList_store_row _ _ _ _ _ _ _ rfl 28 (.tmp 4) (.tmp 37) rfl (w.heap.size + 1) ((nV m).toArray) rfl rfl 28 _ hz (sizeN' _) rfl (nV_all _) ?_; simp only [Act.put]))
            refine bodyPost_ret (results_2n rfl rfl rfl (setRow_heap _ _ _ _ _ _ hz)) rfl ?_
            exact ⟨by rw [HV.out.1, HV.out.2], below_row hB (by omega) _⟩
      · rw [hE] at HRX2 ⊢
        clear hE
        have HV : Hid (nz = R ∧ (15 : Int) = X) := HRX2
        clear HRX2
        refine wp_region_quiet (C := fun w' => Below w3.heap.size w3 w') (by kernel_rfl) (by kernel_rfl) ⟨rfl, rfl, rfl, Nat.le_refl _, fun _ _ => rfl⟩ ?_
        refine q_move _ rfl rfl ?_
        simp only [Act.put, List.setIfInBounds_toArray, List.set_cons_succ, List.set_cons_zero]
        refine q_val (.bool true) rfl (fun w' hw' => by go_simp) ?_
        simp only [Act.put, List.setIfInBounds_toArray, List.set_cons_succ, List.set_cons_zero]
        refine q_move _ rfl rfl ?_
        simp only [Act.put, List.setIfInBounds_toArray, List.set_cons_succ, List.set_cons_zero]
        refine BigFrame.wpQuiet_skip (by kernel_rfl) ?_
        simp only [Act.put, List.setIfInBounds_toArray, List.set_cons_succ, List.set_cons_zero]
        refine BigFrame.wpQuiet_skip (by kernel_rfl) ?_
        simp only [Act.put, List.setIfInBounds_toArray, List.set_cons_succ, List.set_cons_zero]
        refine BigFrame.wpQuiet_skip (by kernel_rfl) ?_
        simp only [Act.put, List.setIfInBounds_toArray, List.set_cons_succ, List.set_cons_zero]
        refine q_val (.bool true) rfl (fun w' hw' => by go_simp) ?_
        simp only [Act.put, List.setIfInBounds_toArray, List.set_cons_succ, List.set_cons_zero]
        refine q_move _ rfl rfl ?_
        simp only [Act.put, List.setIfInBounds_toArray, List.set_cons_succ, List.set_cons_zero]
        refine BigFrame.wpQuiet_skip (by kernel_rfl) ?_
        simp only [Act.put, List.setIfInBounds_toArray, List.set_cons_succ, List.set_cons_zero]
        refine BigFrame.wpQuiet_skip (by kernel_rfl) ?_
        simp only [Act.put, List.setIfInBounds_toArray, List.set_cons_succ, List.set_cons_zero]
        refine BigFrame.wpQuiet_skip (by kernel_rfl) ?_
        simp only [Act.put, List.setIfInBounds_toArray, List.set_cons_succ, List.set_cons_zero]
        refine BigFrame.wpQuiet_skip (by kernel_rfl) ?_
        simp only [Act.put, List.setIfInBounds_toArray, List.set_cons_succ, List.set_cons_zero]
        refine q_val (.bool true) rfl (fun w' hw' => by go_simp) ?_
        simp only [Act.put, List.setIfInBounds_toArray, List.set_cons_succ, List.set_cons_zero]
        refine wpQuiet_nil ?_
        intro w4 hw4
        have hz := (HC.out w4 hw4).row
        have hB := HB3.out.trans (hw4.mono HB3.out.size)
        clear HN HB HC HR hw4
        go_wp2_with (first | (refine @wpList_buildG _ _ _ _ _ _ _ (by kernel_rfl) 28 #[] rfl (nV nz).toArray (by kernel_rfl) ?_; simp only [Act.put, List.setIfInBounds_toArray, List.set_cons_succ, List.set_cons_zero]) | (refine @wpList_store_row _ _ _ _ _ _ _ rfl 28 (.tmp 4) (.tmp 36) rfl (w.heap.size + 1) ((nV nz).toArray) rfl rfl 28 _ hz (sizeN' _) rfl (nV_all _) ?_; simp only [Act.put]))
        refine bodyPost_ret (results_2n rfl rfl rfl (setRow_heap _ _ _ _ _ _ hz)) rfl ?_
        exact ⟨by rw [HV.out.1, HV.out.2], below_row hB (by omega) _⟩
end In
end Go.Proofs.Ytnmljjehkdbbjaa
