/- PtrFits: the law's walk (made by tools/gen_pfit2.py). -/
import Derived.Test.YtpbhdndkmjkphaaDoorPtMakes
import Derived.IntWalk
namespace Go.Proofs.YtpbhdndkmjkphaaDoor
set_option maxRecDepth 20000
namespace Pt
open Go.RowKit Dk Eqb Byt

attribute [local irreducible] wpQuiet
attribute [local go_sem] zvP zvB
attribute [local go_sem] zcB
theorem bits_bd (a b : Int) : 0 ≤ bits .xor .u8 a b ∧ bits .xor .u8 a b < 256 := by
  unfold bits
  rw [IntKind.wrap_u8]
  omega
def xorD (D : Nat → Int) (j : Nat) (y : Int) : Nat → Int := put D j (bits .xor .u8 (D j) y)
theorem xorD_bytes {D : Nat → Int} (h : Bytes D) (j : Nat) (y : Int) : Bytes (xorD D j y) := by
  intro i hi
  unfold xorD put
  split
  · exact bits_bd _ _
  · exact h i hi
theorem setRow_new {w : World} {g : Nat} {c c' : Array Value} {t : TypeId} (h : w.heap.size = g) : (w.alloc (.cells c t)).setRow g c' = w.alloc (.cells c' t) := by
  subst h
  exact World.setRow_alloc_new _ _ _ _
theorem heap_new {w : World} {g : Nat} {o : Obj} (h : w.heap.size = g) : (w.alloc o).heap[g]? = some o := by
  subst h
  exact heap_alloc_new _ _
theorem set_bl (f : Nat → Int) {j : Nat} (hj : j < 128) (z : Int) : (bl f).set j (.int .u8 z) = bl (put f j z) := by
  apply List.ext_getElem?
  intro i
  by_cases hi : i < 128
  · rw [bl_get _ hi]
    unfold put
    by_cases e : i = j
    · subst e
      rw [if_pos rfl, List.getElem?_set_self (by rw [bl_length]; exact hi)]
    · rw [if_neg e, List.getElem?_set_ne (fun h => e h.symm), bl_get f hi]
  · rw [List.getElem?_eq_none (by rw [List.length_set, bl_length]; omega), List.getElem?_eq_none (by rw [bl_length]; omega)]
theorem hole1 (c : Int) (q : Nat → Int) : isHole ⟨1, c, q⟩ = false := by simp [isHole, eqP, hole]
theorem right12 (q : Nat → Int) : rightB ⟨1, 2, q⟩ = true := by simp [rightB, secB]
theorem of12V (D : Nat → Int) : ofV D 1 2 = ⟨1, 2, sumD D⟩ := by
  unfold ofV
  rw [if_pos ⟨hole1 _ _, right12 _⟩]
theorem of12E (D : Nat → Int) : ofE D 1 2 = 0 := by
  unfold ofE
  rw [if_pos ⟨hole1 _ _, right12 _⟩]
theorem fits12 (q X : Nat → Int) : fitsB ⟨1, 2, q⟩ X = eqB 32 q (sumD X) := by
  unfold fitsB
  rw [hole1]
  rfl

set_option maxRecDepth 100000 in
set_option maxHeartbeats 2000000 in
theorem fitsl_any (D : Nat → Int) (z : Nat) (y : Int) (w : World) (hD : Bytes D) (hz : z < 256) (hk : Kp w) : Calls Tryd.prog 8 #[.agg (bl D).toArray, .int .u8 z, .int .u8 y] w fun e w' => e = .returned (.bool true) ∧ Below w.heap.size w w' := by
  have hj : z % 128 < 128 := by omega
  have hXb := xorD_bytes hD (z % 128) y
  have hHX : Hid (xorD D (z % 128) y = put D (z % 128) (bits .xor .u8 (D (z % 128)) y)) := Lib.hid rfl
  have HK := Lib.hid (fun W (hb : Below w.heap.size w W) => hk.below hb)
  have HO := Lib.hid (fun W (hk : Kp W) => of_any D 1 2 W hD hk)
  rw [of12V, of12E] at HO
  have HF1 := Lib.hid (fun W (hk : Kp W) => fits_any ⟨1, 2, sumD D⟩ D W hD hk)
  have HF2 := Lib.hid (fun W (hk : Kp W) => fits_any ⟨1, 2, sumD D⟩ (xorD D (z % 128) y) W hXb hk)
  have HS1 := Lib.hid (fun (W : World) (g : Nat) (hr : Row W g 0 128 D) (hz : 0 < W.heap.size) => refsum_row hr hD hz)
  have HS2 := Lib.hid (fun (W : World) (g : Nat) (hr : Row W g 0 128 (xorD D (z % 128) y)) (hz : 0 < W.heap.size) => refsum_row hr hXb hz)
  rw [fits12, eqB_same] at HF1
  rw [fits12] at HF2
  have HE2 := Lib.hid (eqB_comm 32 (sumD (xorD D (z % 128) y)) (sumD D))
  generalize sumD (xorD D (z % 128) y) = qx at *
  generalize sumD D = q at *
  have HEQ := Lib.hid (fun W => eq_sum qx q W)
  rw [HE2.out] at HEQ
  clear HE2
  generalize eqB 32 q qx = fx at *
  have HXE := Lib.hid (fun W => eq_bl (xorD D (z % 128) y) D W)
  generalize eqB 128 (xorD D (z % 128) y) D = xb at *
  clear hD hk hXb
  obtain ⟨W, hW, hB0, hr0, hs0⟩ := new_bl w D
  go_enter Tryd.func8, Tryd.ntmps8
  go_wp2_with fail
  rw [← hW]
  clear hW
  refine (alive5_any W (HK.out W hB0)).mono ?_
  rintro _ w1 ⟨rfl, hb1⟩
  have hs1 := hb1.size
  have hB1 := hB0.trans (hb1.mono (by omega))
  have hr1 := hr0.block (hb1.block w.heap.size (by omega))
  clear hr0 hb1
  dsimp only
  go_wp2_with (refine @wpList_loadG _ _ _ _ _ _ _ (by kernel_rfl) 22 (.tmp 3) rfl w.heap.size 0 rfl (bl D) _ (row_range hr1) undB rfl (size_bl D) ?_; simp only [Act.put, List.setIfInBounds_toArray, List.set_cons_succ, List.set_cons_zero])
  refine (HO.out w1 (HK.out w1 hB1)).mono ?_
  rintro _ w2 ⟨rfl, hb2⟩
  have hs2 := hb2.size
  have hB2 := hB1.trans (hb2.mono (by omega))
  have hr2 := hr1.block (hb2.block w.heap.size (by omega))
  obtain ⟨W3, hW3, hb3, hx3, hs3⟩ := new_pt w2 ⟨1, 2, q⟩
  have hr3 := hr2.block (hb3.block w.heap.size (by omega))
  have hB3 := hB2.trans (hb3.mono (by omega))
  obtain ⟨W5, hW5, hb5, hr5, hs5⟩ := new_bl W3 (xorD D (z % 128) y)
  rw [hs3] at hr5 hs5
  have hx5 := (hb5.block w2.heap.size (by omega)).trans hx3
  have hr5' := hr3.block (hb5.block w.heap.size (by omega))
  have hB5 := hB3.trans (hb5.mono (by omega))
  rw [hHX.out, ← set_bl D hj] at hW5
  obtain ⟨W4, hW4, _, hr4, _⟩ := new_bl W3 D
  rw [hs3] at hr4
  have c4 : W4.cell? ⟨w2.heap.size + 1, z % 128, none⟩ = some (.int .u8 (D (z % 128))) := by
    have := hr4.cell hj
    rwa [Nat.zero_add] at this
  have f4 := hr4.free (z % 128)
  clear hr4
  subst hW4
  clear hr1 hb2 hr2 hb3 hx3 hb5 hHX
  dsimp only
  subst hW3
  go_wp2_with (first
    | (refine @wpList_store_row _ _ _ _ _ _ _ rfl 26 (.tmp 7) (.tmp 15) rfl w2.heap.size (pV ⟨1, 2, q⟩).toArray rfl rfl 26 _ (heap_alloc_new w2 _) (sizeP' _) rfl (pV_all _) ?_; rw [World.setRow_alloc_new]; simp only [Act.put])
    | (refine @wpList_loadG _ _ _ _ _ _ _ (by kernel_rfl) 22 (.tmp 3) rfl w.heap.size 0 rfl (bl D) _ (row_range hr3) undB rfl (size_bl D) ?_; simp only [Act.put, List.setIfInBounds_toArray, List.set_cons_succ, List.set_cons_zero])
    | (refine @wpList_store_row _ _ _ _ _ _ _ rfl 22 (.tmp 9) (.tmp 17) rfl (w2.heap.size + 1) (bl D).toArray rfl rfl 22 _ (heap_new (by simp)) (sizeB D) rfl (allB D) ?_; rw [setRow_new (by simp)]; simp only [Act.put]))
  rw [← hW5]
  clear hW5
  have hs6 : W5.heap.size = w2.heap.size + 2 := hs5
  have HX := Lib.hid (fun w' (hw' : Below W5.heap.size W5 w') => row_pt ((hw'.block w2.heap.size (by omega)).trans hx5))
  have HXB := Lib.hid (fun w' (hw' : Below W5.heap.size W5 w') => hr5.block (hw'.block (w2.heap.size + 1) (by omega)))
  have HDB := Lib.hid (fun w' (hw' : Below W5.heap.size W5 w') => hr5'.block (hw'.block w.heap.size (by omega)))
  have HKW := Lib.hid (fun w' (hw' : Below W5.heap.size W5 w') => HK.out w' (hB5.trans (hw'.mono hB5.size)))
  clear hx5 hr5 hr5' HK HO hr3 c4 f4
  refine wp_region_quiet (C := fun w' => Below W5.heap.size W5 w') (by kernel_rfl) (by kernel_rfl) ⟨rfl, rfl, rfl, Nat.le_refl _, fun _ _ => rfl⟩ ?_
  cases xb with
  | true =>
    refine q_move _ rfl rfl ?_
    simp only [Act.put, List.setIfInBounds_toArray, List.set_cons_succ, List.set_cons_zero]
    refine q_val (.bool true) rfl (fun w' hw' => by go_simp) ?_
    simp only [Act.put, List.setIfInBounds_toArray, List.set_cons_succ, List.set_cons_zero]
    refine q_move _ rfl rfl ?_
    simp only [Act.put, List.setIfInBounds_toArray, List.set_cons_succ, List.set_cons_zero]
    refine q_loadB 26 (.tmp 7) rfl (by kernel_rfl) w2.heap.size 0 rfl (pV ⟨1, 2, q⟩) _ (fun w' hw' => HX.out w' hw') undP rfl (sizeP _) ?_
    simp only [Act.put, List.setIfInBounds_toArray, List.set_cons_succ, List.set_cons_zero]
    refine q_loadB 22 (.tmp 3) rfl (by kernel_rfl) w.heap.size 0 rfl (bl D) _ (fun w' hw' => row_range (HDB.out w' hw')) undB rfl (size_bl D) ?_
    simp only [Act.put, List.setIfInBounds_toArray, List.set_cons_succ, List.set_cons_zero]
    refine q_call 17 _ (.bool true) (by kernel_rfl) (fun w' => by go_simp) (fun w' hw' => (HF1.out w' (HKW.out w' hw')).mono fun e w'' ⟨he, hb⟩ => ⟨he, hw'.trans (hb.mono hw'.size)⟩) ?_
    simp only [Act.put, List.setIfInBounds_toArray, List.set_cons_succ, List.set_cons_zero]
    refine q_val (.bool true) rfl (fun w' hw' => by go_simp) ?_
    simp only [Act.put, List.setIfInBounds_toArray, List.set_cons_succ, List.set_cons_zero]
    refine q_move _ rfl rfl ?_
    simp only [Act.put, List.setIfInBounds_toArray, List.set_cons_succ, List.set_cons_zero]
    refine q_loadB 22 (.tmp 9) rfl (by kernel_rfl) (w2.heap.size + 1) 0 rfl (bl (xorD D (z % 128) y)) _ (fun w' hw' => row_range (HXB.out w' hw')) undB rfl (size_bl _) ?_
    simp only [Act.put, List.setIfInBounds_toArray, List.set_cons_succ, List.set_cons_zero]
    refine q_loadB 22 (.tmp 3) rfl (by kernel_rfl) w.heap.size 0 rfl (bl D) _ (fun w' hw' => row_range (HDB.out w' hw')) undB rfl (size_bl D) ?_
    simp only [Act.put, List.setIfInBounds_toArray, List.set_cons_succ, List.set_cons_zero]
    refine q_eqlV 22 _ (.tmp 34) (.tmp 35) rfl (by kernel_rfl) ((bl (xorD D (z % 128) y)).toArray) ((bl D).toArray) rfl rfl true guardB (fun w' _ => HXE.out w') ?_
    simp only [Act.put, List.setIfInBounds_toArray, List.set_cons_succ, List.set_cons_zero]
    refine q_move _ rfl (by kernel_rfl) ?_
    simp only [Act.put, List.setIfInBounds_toArray, List.set_cons_succ, List.set_cons_zero]
    refine BigFrame.wpQuiet_skip (by kernel_rfl) ?_
    simp only [Act.put, List.setIfInBounds_toArray, List.set_cons_succ, List.set_cons_zero]
    refine BigFrame.wpQuiet_skip (by kernel_rfl) ?_
    simp only [Act.put, List.setIfInBounds_toArray, List.set_cons_succ, List.set_cons_zero]
    refine BigFrame.wpQuiet_skip (by kernel_rfl) ?_
    simp only [Act.put, List.setIfInBounds_toArray, List.set_cons_succ, List.set_cons_zero]
    refine BigFrame.wpQuiet_skip (by kernel_rfl) ?_
    simp only [Act.put, List.setIfInBounds_toArray, List.set_cons_succ, List.set_cons_zero]
    refine q_val (.bool true) (by kernel_rfl) (fun w' hw' => by go_simp) ?_
    simp only [Act.put, List.setIfInBounds_toArray, List.set_cons_succ, List.set_cons_zero]
    refine q_move _ rfl (by kernel_rfl) ?_
    simp only [Act.put, List.setIfInBounds_toArray, List.set_cons_succ, List.set_cons_zero]
    refine BigFrame.wpQuiet_skip (by kernel_rfl) ?_
    simp only [Act.put, List.setIfInBounds_toArray, List.set_cons_succ, List.set_cons_zero]
    refine BigFrame.wpQuiet_skip (by kernel_rfl) ?_
    simp only [Act.put, List.setIfInBounds_toArray, List.set_cons_succ, List.set_cons_zero]
    refine BigFrame.wpQuiet_skip (by kernel_rfl) ?_
    simp only [Act.put, List.setIfInBounds_toArray, List.set_cons_succ, List.set_cons_zero]
    refine BigFrame.wpQuiet_skip (by kernel_rfl) ?_
    simp only [Act.put, List.setIfInBounds_toArray, List.set_cons_succ, List.set_cons_zero]
    refine BigFrame.wpQuiet_skip (by kernel_rfl) ?_
    simp only [Act.put, List.setIfInBounds_toArray, List.set_cons_succ, List.set_cons_zero]
    refine q_val (.bool true) (by kernel_rfl) (fun w' hw' => by go_simp) ?_
    simp only [Act.put, List.setIfInBounds_toArray, List.set_cons_succ, List.set_cons_zero]
    refine q_val (.bool true) rfl (fun w' hw' => by go_simp) ?_
    simp only [Act.put, List.setIfInBounds_toArray, List.set_cons_succ, List.set_cons_zero]
    refine q_val (.bool true) rfl (fun w' hw' => by go_simp) ?_
    simp only [Act.put, List.setIfInBounds_toArray, List.set_cons_succ, List.set_cons_zero]
    refine wpQuiet_nil ?_
    intro w' hw'
    go_wp2_with fail
    go_ret
    exact ⟨rfl, hB5.trans (hw'.mono hB5.size)⟩
  | false =>
    cases fx with
    | false =>
      refine q_move _ rfl rfl ?_
      simp only [Act.put, List.setIfInBounds_toArray, List.set_cons_succ, List.set_cons_zero]
      refine q_val (.bool true) rfl (fun w' hw' => by go_simp) ?_
      simp only [Act.put, List.setIfInBounds_toArray, List.set_cons_succ, List.set_cons_zero]
      refine q_move _ rfl rfl ?_
      simp only [Act.put, List.setIfInBounds_toArray, List.set_cons_succ, List.set_cons_zero]
      refine q_loadB 26 (.tmp 7) rfl (by kernel_rfl) w2.heap.size 0 rfl (pV ⟨1, 2, q⟩) _ (fun w' hw' => HX.out w' hw') undP rfl (sizeP _) ?_
      simp only [Act.put, List.setIfInBounds_toArray, List.set_cons_succ, List.set_cons_zero]
      refine q_loadB 22 (.tmp 3) rfl (by kernel_rfl) w.heap.size 0 rfl (bl D) _ (fun w' hw' => row_range (HDB.out w' hw')) undB rfl (size_bl D) ?_
      simp only [Act.put, List.setIfInBounds_toArray, List.set_cons_succ, List.set_cons_zero]
      refine q_call 17 _ (.bool true) (by kernel_rfl) (fun w' => by go_simp) (fun w' hw' => (HF1.out w' (HKW.out w' hw')).mono fun e w'' ⟨he, hb⟩ => ⟨he, hw'.trans (hb.mono hw'.size)⟩) ?_
      simp only [Act.put, List.setIfInBounds_toArray, List.set_cons_succ, List.set_cons_zero]
      refine q_val (.bool true) rfl (fun w' hw' => by go_simp) ?_
      simp only [Act.put, List.setIfInBounds_toArray, List.set_cons_succ, List.set_cons_zero]
      refine q_move _ rfl rfl ?_
      simp only [Act.put, List.setIfInBounds_toArray, List.set_cons_succ, List.set_cons_zero]
      refine q_loadB 22 (.tmp 9) rfl (by kernel_rfl) (w2.heap.size + 1) 0 rfl (bl (xorD D (z % 128) y)) _ (fun w' hw' => row_range (HXB.out w' hw')) undB rfl (size_bl _) ?_
      simp only [Act.put, List.setIfInBounds_toArray, List.set_cons_succ, List.set_cons_zero]
      refine q_loadB 22 (.tmp 3) rfl (by kernel_rfl) w.heap.size 0 rfl (bl D) _ (fun w' hw' => row_range (HDB.out w' hw')) undB rfl (size_bl D) ?_
      simp only [Act.put, List.setIfInBounds_toArray, List.set_cons_succ, List.set_cons_zero]
      refine q_eqlV 22 _ (.tmp 34) (.tmp 35) rfl (by kernel_rfl) ((bl (xorD D (z % 128) y)).toArray) ((bl D).toArray) rfl rfl false guardB (fun w' _ => HXE.out w') ?_
      simp only [Act.put, List.setIfInBounds_toArray, List.set_cons_succ, List.set_cons_zero]
      refine q_move _ rfl (by kernel_rfl) ?_
      simp only [Act.put, List.setIfInBounds_toArray, List.set_cons_succ, List.set_cons_zero]
      refine q_loadB 26 (.tmp 7) rfl (by kernel_rfl) w2.heap.size 0 rfl (pV ⟨1, 2, q⟩) _ (fun w' hw' => HX.out w' hw') undP rfl (sizeP _) ?_
      simp only [Act.put, List.setIfInBounds_toArray, List.set_cons_succ, List.set_cons_zero]
      refine q_loadB 22 (.tmp 9) rfl (by kernel_rfl) (w2.heap.size + 1) 0 rfl (bl (xorD D (z % 128) y)) _ (fun w' hw' => row_range (HXB.out w' hw')) undB rfl (size_bl _) ?_
      simp only [Act.put, List.setIfInBounds_toArray, List.set_cons_succ, List.set_cons_zero]
      refine q_call 17 _ (.bool false) (by kernel_rfl) (fun w' => by go_simp) (fun w' hw' => (HF2.out w' (HKW.out w' hw')).mono fun e w'' ⟨he, hb⟩ => ⟨he, hw'.trans (hb.mono hw'.size)⟩) ?_
      simp only [Act.put, List.setIfInBounds_toArray, List.set_cons_succ, List.set_cons_zero]
      refine q_val (.bool true) (by kernel_rfl) (fun w' hw' => by go_simp) ?_
      simp only [Act.put, List.setIfInBounds_toArray, List.set_cons_succ, List.set_cons_zero]
      refine q_val (.bool true) (by kernel_rfl) (fun w' hw' => by go_simp) ?_
      simp only [Act.put, List.setIfInBounds_toArray, List.set_cons_succ, List.set_cons_zero]
      refine q_move _ rfl (by kernel_rfl) ?_
      simp only [Act.put, List.setIfInBounds_toArray, List.set_cons_succ, List.set_cons_zero]
      refine BigFrame.wpQuiet_skip (by kernel_rfl) ?_
      simp only [Act.put, List.setIfInBounds_toArray, List.set_cons_succ, List.set_cons_zero]
      refine BigFrame.wpQuiet_skip (by kernel_rfl) ?_
      simp only [Act.put, List.setIfInBounds_toArray, List.set_cons_succ, List.set_cons_zero]
      refine BigFrame.wpQuiet_skip (by kernel_rfl) ?_
      simp only [Act.put, List.setIfInBounds_toArray, List.set_cons_succ, List.set_cons_zero]
      refine BigFrame.wpQuiet_skip (by kernel_rfl) ?_
      simp only [Act.put, List.setIfInBounds_toArray, List.set_cons_succ, List.set_cons_zero]
      refine BigFrame.wpQuiet_skip (by kernel_rfl) ?_
      simp only [Act.put, List.setIfInBounds_toArray, List.set_cons_succ, List.set_cons_zero]
      refine q_val (.bool true) (by kernel_rfl) (fun w' hw' => by go_simp) ?_
      simp only [Act.put, List.setIfInBounds_toArray, List.set_cons_succ, List.set_cons_zero]
      refine q_val (.bool true) rfl (fun w' hw' => by go_simp) ?_
      simp only [Act.put, List.setIfInBounds_toArray, List.set_cons_succ, List.set_cons_zero]
      refine q_val (.bool true) rfl (fun w' hw' => by go_simp) ?_
      simp only [Act.put, List.setIfInBounds_toArray, List.set_cons_succ, List.set_cons_zero]
      refine wpQuiet_nil ?_
      intro w' hw'
      go_wp2_with fail
      go_ret
      exact ⟨rfl, hB5.trans (hw'.mono hB5.size)⟩
    | true =>
      refine q_move _ rfl rfl ?_
      simp only [Act.put, List.setIfInBounds_toArray, List.set_cons_succ, List.set_cons_zero]
      refine q_val (.bool true) rfl (fun w' hw' => by go_simp) ?_
      simp only [Act.put, List.setIfInBounds_toArray, List.set_cons_succ, List.set_cons_zero]
      refine q_move _ rfl rfl ?_
      simp only [Act.put, List.setIfInBounds_toArray, List.set_cons_succ, List.set_cons_zero]
      refine q_loadB 26 (.tmp 7) rfl (by kernel_rfl) w2.heap.size 0 rfl (pV ⟨1, 2, q⟩) _ (fun w' hw' => HX.out w' hw') undP rfl (sizeP _) ?_
      simp only [Act.put, List.setIfInBounds_toArray, List.set_cons_succ, List.set_cons_zero]
      refine q_loadB 22 (.tmp 3) rfl (by kernel_rfl) w.heap.size 0 rfl (bl D) _ (fun w' hw' => row_range (HDB.out w' hw')) undB rfl (size_bl D) ?_
      simp only [Act.put, List.setIfInBounds_toArray, List.set_cons_succ, List.set_cons_zero]
      refine q_call 17 _ (.bool true) (by kernel_rfl) (fun w' => by go_simp) (fun w' hw' => (HF1.out w' (HKW.out w' hw')).mono fun e w'' ⟨he, hb⟩ => ⟨he, hw'.trans (hb.mono hw'.size)⟩) ?_
      simp only [Act.put, List.setIfInBounds_toArray, List.set_cons_succ, List.set_cons_zero]
      refine q_val (.bool true) rfl (fun w' hw' => by go_simp) ?_
      simp only [Act.put, List.setIfInBounds_toArray, List.set_cons_succ, List.set_cons_zero]
      refine q_move _ rfl rfl ?_
      simp only [Act.put, List.setIfInBounds_toArray, List.set_cons_succ, List.set_cons_zero]
      refine q_loadB 22 (.tmp 9) rfl (by kernel_rfl) (w2.heap.size + 1) 0 rfl (bl (xorD D (z % 128) y)) _ (fun w' hw' => row_range (HXB.out w' hw')) undB rfl (size_bl _) ?_
      simp only [Act.put, List.setIfInBounds_toArray, List.set_cons_succ, List.set_cons_zero]
      refine q_loadB 22 (.tmp 3) rfl (by kernel_rfl) w.heap.size 0 rfl (bl D) _ (fun w' hw' => row_range (HDB.out w' hw')) undB rfl (size_bl D) ?_
      simp only [Act.put, List.setIfInBounds_toArray, List.set_cons_succ, List.set_cons_zero]
      refine q_eqlV 22 _ (.tmp 34) (.tmp 35) rfl (by kernel_rfl) ((bl (xorD D (z % 128) y)).toArray) ((bl D).toArray) rfl rfl false guardB (fun w' _ => HXE.out w') ?_
      simp only [Act.put, List.setIfInBounds_toArray, List.set_cons_succ, List.set_cons_zero]
      refine q_move _ rfl (by kernel_rfl) ?_
      simp only [Act.put, List.setIfInBounds_toArray, List.set_cons_succ, List.set_cons_zero]
      refine q_loadB 26 (.tmp 7) rfl (by kernel_rfl) w2.heap.size 0 rfl (pV ⟨1, 2, q⟩) _ (fun w' hw' => HX.out w' hw') undP rfl (sizeP _) ?_
      simp only [Act.put, List.setIfInBounds_toArray, List.set_cons_succ, List.set_cons_zero]
      refine q_loadB 22 (.tmp 9) rfl (by kernel_rfl) (w2.heap.size + 1) 0 rfl (bl (xorD D (z % 128) y)) _ (fun w' hw' => row_range (HXB.out w' hw')) undB rfl (size_bl _) ?_
      simp only [Act.put, List.setIfInBounds_toArray, List.set_cons_succ, List.set_cons_zero]
      refine q_call 17 _ (.bool true) (by kernel_rfl) (fun w' => by go_simp) (fun w' hw' => (HF2.out w' (HKW.out w' hw')).mono fun e w'' ⟨he, hb⟩ => ⟨he, hw'.trans (hb.mono hw'.size)⟩) ?_
      simp only [Act.put, List.setIfInBounds_toArray, List.set_cons_succ, List.set_cons_zero]
      refine q_val (.bool false) (by kernel_rfl) (fun w' hw' => by go_simp) ?_
      simp only [Act.put, List.setIfInBounds_toArray, List.set_cons_succ, List.set_cons_zero]
      refine q_val (.bool false) (by kernel_rfl) (fun w' hw' => by go_simp) ?_
      simp only [Act.put, List.setIfInBounds_toArray, List.set_cons_succ, List.set_cons_zero]
      refine q_move _ rfl (by kernel_rfl) ?_
      simp only [Act.put, List.setIfInBounds_toArray, List.set_cons_succ, List.set_cons_zero]
      refine q_val (.slice (some ⟨w2.heap.size + 1, 0, none⟩) 128 128) (by kernel_rfl) (fun w' hw' => by go_simp) ?_
      simp only [Act.put, List.setIfInBounds_toArray, List.set_cons_succ, List.set_cons_zero]
      refine q_call 29 _ (.agg (Sha.arr 32 (Sha.vu8 qx))) (by kernel_rfl) (fun w' => by go_simp) (fun w' hw' => (HS2.out w' (w2.heap.size + 1) (HXB.out w' hw') (HKW.out w' hw').2).mono fun e w'' ⟨he, hb⟩ => ⟨he, hw'.trans (hb.mono hw'.size)⟩) ?_
      simp only [Act.put, List.setIfInBounds_toArray, List.set_cons_succ, List.set_cons_zero]
      refine q_val (.slice (some ⟨w.heap.size, 0, none⟩) 128 128) (by kernel_rfl) (fun w' hw' => by go_simp) ?_
      simp only [Act.put, List.setIfInBounds_toArray, List.set_cons_succ, List.set_cons_zero]
      refine q_call 29 _ (.agg (Sha.arr 32 (Sha.vu8 q))) (by kernel_rfl) (fun w' => by go_simp) (fun w' hw' => (HS1.out w' w.heap.size (HDB.out w' hw') (HKW.out w' hw').2).mono fun e w'' ⟨he, hb⟩ => ⟨he, hw'.trans (hb.mono hw'.size)⟩) ?_
      simp only [Act.put, List.setIfInBounds_toArray, List.set_cons_succ, List.set_cons_zero]
      refine q_eqlV 24 _ (.tmp 45) (.tmp 47) rfl (by kernel_rfl) (Sha.arr 32 (Sha.vu8 qx)) (Sha.arr 32 (Sha.vu8 q)) rfl rfl true guardS (fun w' _ => HEQ.out w') ?_
      simp only [Act.put, List.setIfInBounds_toArray, List.set_cons_succ, List.set_cons_zero]
      refine q_val (.bool true) (by kernel_rfl) (fun w' hw' => by go_simp) ?_
      simp only [Act.put, List.setIfInBounds_toArray, List.set_cons_succ, List.set_cons_zero]
      refine q_val (.bool true) rfl (fun w' hw' => by go_simp) ?_
      simp only [Act.put, List.setIfInBounds_toArray, List.set_cons_succ, List.set_cons_zero]
      refine q_val (.bool true) rfl (fun w' hw' => by go_simp) ?_
      simp only [Act.put, List.setIfInBounds_toArray, List.set_cons_succ, List.set_cons_zero]
      refine wpQuiet_nil ?_
      intro w' hw'
      go_wp2_with fail
      go_ret
      exact ⟨rfl, hB5.trans (hw'.mono hB5.size)⟩
end Pt
end Go.Proofs.YtpbhdndkmjkphaaDoor
