/- remap: the reference's Put. -/
import Derived.Test.YtlhncceajpdahaaDoorRmRefSeal
import Derived.Test.YtlhncceajpdahaaDoorRmRefRight
import Derived.Deep.RegionHeld3
namespace Go.Proofs.YtlhncceajpdahaaDoor
set_option maxRecDepth 20000
namespace Rm
open Go.RowKit Dk Byt

attribute [local go_sem] zv29
attribute [local go_sem] zc29
set_option maxRecDepth 100000 in
set_option maxHeartbeats 4000000 in
theorem refput_any (s gen : Int) (n : Nat) (F T : Nat → Int) (pa : Option Addr) (cap g : Nat) (w : World) (hl : Lay w w.heap.size g pa n cap 2 (prV F T)) (hn : n ≤ 140737488355328) (hF : ∀ i, i < n → i64 (F i) ∧ i64 (T i)) (h0 : 0 < w.heap.size) :
    Calls Tryd.prog 12 #[.agg #[.int .i64 gen, .slice pa n cap], .int .i64 s] w fun e w' => e = .returned (.tuple #[.agg (bl (putV s gen n F T)).toArray, .int .i64 (putEr s gen n F T)]) ∧ Below w.heap.size w w' := by
  have HL := Lib.hid hl
  have HF := Lib.hid hF
  have HRI := Lib.hid (fun W hl => refright_any s gen n F T pa cap g W hl hn)
  have HPR := Lib.hid (@right_parts s gen n F T)
  have HV : Hid (putV s gen n F T = if rightB s gen n F T then sealD (tabD gen n F T) else fun _ => 0) := Lib.hid rfl
  have HE : Hid (putEr s gen n F T = if rightB s gen n F T then 0 else 1) := Lib.hid rfl
  clear hl hF
  generalize putV s gen n F T = V at HV ⊢
  generalize putEr s gen n F T = E at HE ⊢
  generalize rightB s gen n F T = R at HRI HPR HV HE
  go_enter Tryd.func12, Tryd.ntmps12
  go_wp2_with fail
  generalize hW : ((w.alloc (.cells #[.int .i64 gen, .slice pa n cap] 24)).alloc (.cells (bl fun _ => 0).toArray 27)).alloc (.cells (bl fun _ => 0).toArray 27) = W
  have hB0 : Below w.heap.size w W := by rw [← hW]; exact (((Below.refl _ _).alloc (Nat.le_refl _) _).alloc (by simp) _).alloc (by simp; omega) _
  have hx0 : W.heap[w.heap.size]? = some (.cells #[.int .i64 gen, .slice pa n cap] 24 (0, 0)) := by rw [← hW]; exact (Below.heap_alloc _ _ _ (by simp; omega)).trans ((Below.heap_alloc _ _ _ (by simp)).trans (heap_alloc_new w _))
  have hr0 : W.heap[w.heap.size + 1]? = some (.cells (bl fun _ => 0).toArray 27 (0, 0)) := by
    rw [← hW]
    have := heap_alloc_new (w.alloc (.cells #[.int .i64 gen, .slice pa n cap] 24)) (.cells (bl fun _ => 0).toArray 27)
    rw [World.size_alloc] at this
    exact (Below.heap_alloc _ _ _ (by simp)).trans this
  have hR0 : Row W (w.heap.size + 1 + 1) 0 128 (fun _ => 0) := by
    rw [← hW]
    have := row_new (w := (w.alloc (.cells #[.int .i64 gen, .slice pa n cap] 24)).alloc (.cells (bl fun _ => 0).toArray 27)) (f := fun _ => 0) (t := 27)
    rw [World.size_alloc, World.size_alloc] at this
    exact this
  have hs0 : W.heap.size = w.heap.size + 3 := by rw [← hW]; simp
  clear hW
  refine (HRI.out W ((HL.out.below hB0).more (by omega))).mono ?_
  rintro _ w1 ⟨rfl, hB1⟩
  have hx1 := (hB1.block w.heap.size (by omega)).trans hx0
  have hr1 := (hB1.block (w.heap.size + 1) (by omega)).trans hr0
  have hR1 := hR0.block (hB1.block (w.heap.size + 1 + 1) (by omega))
  have hs1 := hB1.size
  have hB : Below w.heap.size w w1 := hB0.trans (hB1.mono (by omega))
  clear hB0 hB1 hx0 hr0 hR0
  dsimp only
  cases R with
  | false =>
    have HV2 : Hid (V = fun _ => 0) := Lib.hid HV.out
    have HE2 : Hid (E = 1) := Lib.hid HE.out
    have hrg := row_range hR1
    clear HV HE HPR HRI hR1
    go_wp2_with (first
      | (refine wpList_load_mid rfl 27 (.tmp 6) rfl (w.heap.size + 1 + 1) 0 rfl (bl fun _ => 0) _ (by exact hrg) und29 rfl (size_bl _) ?_; simp only [Act.put, List.setIfInBounds_toArray, List.set_cons_succ, List.set_cons_zero])
      | (refine wpList_store_row rfl 27 (.tmp 4) (.tmp 12) rfl (w.heap.size + 1) (bl fun _ => 0).toArray rfl rfl 27 _ hr1 (size_bl' _) rfl (bl_all _) ?_; simp only [Act.put]))
    have hr2 := setRow_heap w1 (w.heap.size + 1) _ (bl fun _ => 0).toArray 27 (0, 0) hr1
    refine bodyPost_ret (results_pt rfl rfl rfl hr2) rfl ?_
    exact ⟨by rw [HV2.out, HE2.out], hB.trans ⟨rfl, rfl, rfl, by simp, fun k hk => setRow_other w1 _ k _ (by omega)⟩⟩
  | true =>
    obtain ⟨_, hg0, hg1, hn20, _⟩ := HPR.out rfl
    have HV2 : Hid (V = sealD (tabD gen n F T)) := Lib.hid HV.out
    have HE2 : Hid (E = 0) := Lib.hid HE.out
    clear HV HE HPR HRI
    have c0 : w1.cell? ⟨w.heap.size, 0, none⟩ = some (.int .i64 gen) := by rw [cell_of_row _ _ _ _ _ _ hx1]; rfl
    have c1 : w1.cell? ⟨w.heap.size, 1, none⟩ = some (.slice pa n cap) := by rw [cell_of_row _ _ _ _ _ _ hx1]; rfl
    have cD := hR1.cell (j := 0) (by omega)
    rw [Nat.zero_add] at cD
    have fD := hR1.free 0
    have hbb1 : w.heap.size + 1 < w.heap.size + 1 + 1 := by omega
    have hbb2 : w.heap.size + 1 + 1 < w1.heap.size := by omega
    generalize w.heap.size + 1 + 1 = bb at hR1 cD fD hbb1 hbb2 ⊢
    go_wp2_with fail
    generalize hW2 : w1.setCell ⟨bb, 0, none⟩ (.int .u8 109) = W2
    have hR2 : Row W2 bb 0 128 (put (fun _ => 0) 0 109) := by rw [← hW2]; exact hR1.store 0 109
    have hb2 : Below bb w1 W2 := by rw [← hW2]; exact (Below.refl bb w1).setCell (Nat.le_refl _) _
    have hs2 : W2.heap.size = w1.heap.size := by rw [← hW2]; simp
    clear hW2 cD fD hR1
    have hd2 : Below bb w1 W2.drew := hb2.trans ⟨rfl, rfl, rfl, Nat.le_refl _, fun _ _ => rfl⟩
    have HO2 : Hid (Wd.Own W2.drew bb (some ⟨bb, 0, none⟩) 128 128 (put (fun _ => 0) 0 109)) := Lib.hid ((own_block hR2 (Nat.le_refl _)).same rfl)
    have d0 : W2.cell? ⟨w.heap.size, 0, none⟩ = some (.int .i64 gen) := (hb2.cell (p := ⟨w.heap.size, 0, none⟩) (show w.heap.size < bb by omega)).trans c0
    have e0 : W2.cell? ⟨w.heap.size, 1, none⟩ = some (.slice pa n cap) := (hb2.cell (p := ⟨w.heap.size, 1, none⟩) (show w.heap.size < bb by omega)).trans c1
    have HKE := Lib.hid (fun (w3 : World) (hG : Wd.Only W2.drew w3 (some ⟨bb, 0, none⟩)) => show w3.cell? ⟨w.heap.size, 0, none⟩ = some (.int .i64 gen) from (World.cell?_of_block (a := ⟨w.heap.size, 0, none⟩) (hG.block w.heap.size (by show w.heap.size < W2.heap.size; omega) (by simp; omega))).trans d0)
    have HKE1 := Lib.hid (fun (w3 : World) (hG : Wd.Only W2.drew w3 (some ⟨bb, 0, none⟩)) => show w3.cell? ⟨w.heap.size, 1, none⟩ = some (.slice pa n cap) from (World.cell?_of_block (a := ⟨w.heap.size, 1, none⟩) (hG.block w.heap.size (by show w.heap.size < W2.heap.size; omega) (by simp; omega))).trans e0)
    clear c0 c1 hb2 e0
    go_region_held3 (fun w' => w'.cell? ⟨w.heap.size, 0, none⟩ = some (.int .i64 gen))
      (first
        | exact d0
        | exact HKE.out w3 hG3)
      (first
        | ((go_at_call 37; refine (Wd.refput_any _ bb (some ⟨bb, 0, none⟩) 128 128 (put (fun _ => 0) 0 109) _ _ _ (by exact HO2.out) (by omega) (by omega)).mono ?_; rintro _ w3 ⟨rfl, hG3, hO3⟩)))
    have e1 := HKE1.out w3 hG3
    have hR3 := own_row hO3
    have hd3 : Below bb w1 w3 := HO2.out.under hd2 hG3 (by show bb ≤ W2.heap.size; omega)
    have c9 : w3.cell? ⟨bb, 9, none⟩ = some (.int .u8 (Wd.putF 128 1 8 gen (put (fun _ => 0) 0 109) 9)) := by
      have := hR3.cell (j := 9) (by omega)
      rwa [Nat.zero_add] at this
    have f9 := hR3.free 9
    have hwr : IntKind.u8.wrap (n : Int) = n := by rw [IntKind.wrap_u8]; omega
    clear HKE HKE1 HO2 hG3 d0 hO3 hR2
    go_wp2_with fail
    generalize hW4 : w3.setCell ⟨bb, 9, none⟩ (.int .u8 n) = W4
    have hR4 : Row W4 bb 0 128 (head gen n) := by rw [← hW4]; exact hR3.store 9 n
    have hd4 : Below bb w1 W4 := by rw [← hW4]; exact hd3.setCell (Nat.le_refl _) _
    have k4 : W4.cell? ⟨w.heap.size, 1, none⟩ = some (.slice pa n cap) := by rw [← hW4]; exact (World.cell?_of_block (a := ⟨w.heap.size, 1, none⟩) (Below.heap_setCell _ _ _ w.heap.size (by show w.heap.size ≠ bb; omega))).trans e1
    clear hW4 hR3 hd3 c9 f9 hwr e1
    have HI : Hid (Row W4 bb 0 128 (pairsD F T (head gen n) 0) ∧ Below bb w1 W4 ∧ W4.cell? ⟨w.heap.size, 1, none⟩ = some (.slice pa n cap)) := Lib.hid ⟨hR4, hd4, k4⟩
    clear hR4 hd4 hd2 k4
    go_loopw [7] (fun i wr => ∃ j : Nat, j ≤ n ∧ i = .int .i64 j ∧ Hid (Row wr bb 0 128 (pairsD F T (head gen n) j) ∧ Below bb w1 wr ∧ wr.cell? ⟨w.heap.size, 1, none⟩ = some (.slice pa n cap))) (fun i _ => n - (intOf i).toNat)
    case atStart => exact ⟨0, by omega, rfl, HI⟩
    case round =>
      clear HI
      obtain ⟨j, hj, rfl, hR⟩ := hrel
      have hBw : Below w.heap.size w wr := hB.trans (hR.out.2.1.mono (by omega))
      have hrl := hR.out.1.lt
      have k1 := hR.out.2.2
      by_cases hlt : j < n
      · obtain ⟨b, off, rfl, hbl, _, hrow⟩ := (HL.out.below hBw).rows.resolve_left (by omega)
        obtain ⟨dF, dT⟩ := pr_cells hrow hlt
        have hj0 : (0 : Int) ≤ (j : Int) := by omega
        have hjn : (j : Int) < (n : Int) := by omega
        have hj20 : (j : Int) ≤ 20 := by omega
        obtain ⟨⟨_, hzF⟩, ⟨_, hzT⟩⟩ := HF.out j hlt
        have HO5 : Hid (Wd.Own wr.drew bb (some ⟨bb, 0, none⟩) 128 128 (pairsD F T (head gen n) j)) := Lib.hid ((own_block hR.out.1 (Nat.le_refl _)).same rfl)
        have hd5 : Below bb w1 wr.drew := hR.out.2.1.trans ⟨rfl, rfl, rfl, Nat.le_refl _, fun _ _ => rfl⟩
        have HKE := Lib.hid (fun (u v : World) (hu : b < u.heap.size) (hG : Wd.Only u v (some ⟨bb, 0, none⟩)) (k : Nat) => World.cell?_of_block (a := ⟨b, k, none⟩) (hG.block b hu (by simp; omega)))
        have HKM := Lib.hid (fun (u v : World) (hu : w.heap.size < u.heap.size) (hG : Wd.Only u v (some ⟨bb, 0, none⟩)) (k : Nat) => World.cell?_of_block (a := ⟨w.heap.size, k, none⟩) (hG.block w.heap.size hu (by simp; omega)))
        have hu5 : b < wr.drew.heap.size := by show b < wr.heap.size; omega
        have hv5 : w.heap.size < wr.drew.heap.size := by show w.heap.size < wr.heap.size; omega
        clear hR hrow
        go_wp2_with fail
        go_region_held3 (fun w' => w'.cell? ⟨w.heap.size, 1, none⟩ = some (.slice (some ⟨b, off, none⟩) n cap) ∧ w'.cell? ⟨b, off + j * 2, none⟩ = some (.int .i64 (F j)))
          (first
            | exact ⟨k1, dF⟩
            | exact ⟨(HKM.out _ w6 hv5 hG6 1).trans k1, (HKE.out _ w6 hu5 hG6 (off + j * 2)).trans dF⟩)
          (first
            | ((go_at_call 37; refine (Wd.refput_any _ bb (some ⟨bb, 0, none⟩) 128 128 (pairsD F T (head gen n) j) _ _ _ (by exact HO5.out) (by omega) (by omega)).mono ?_; rintro _ w6 ⟨rfl, hG6, hO6⟩)))
        have hm1 : IntKind.i64.wrap (10 + IntKind.i64.wrap (4 * (j : Int))) = 10 + 4 * j := by rw [IntWalk.i64_in (4 * (j : Int)) (by omega), IntWalk.i64_in (10 + 4 * (j : Int)) (by omega)]
        have hm2 : IntKind.i64.wrap (12 + IntKind.i64.wrap (4 * (j : Int))) = 12 + 4 * j := by rw [IntWalk.i64_in (4 * (j : Int)) (by omega), IntWalk.i64_in (12 + 4 * (j : Int)) (by omega)]
        rw [hm1] at hO6
        have HM2 := Lib.hid hm2
        clear hm1 hm2
        have k1' : w6.cell? ⟨w.heap.size, 1, none⟩ = some (.slice (some ⟨b, off, none⟩) n cap) := (HKM.out _ w6 hv5 hG6 1).trans k1
        have dT' : w6.cell? ⟨b, off + j * 2 + 1, none⟩ = some (.int .i64 (T j)) := (HKE.out _ w6 hu5 hG6 (off + j * 2 + 1)).trans dT
        have hd6 : Below bb w1 w6 := HO5.out.under hd5 hG6 (by show bb ≤ wr.heap.size; omega)
        have hu6 : b < w6.drew.heap.size := Nat.lt_of_lt_of_le hu5 hG6.size
        have hv6 : w.heap.size < w6.drew.heap.size := Nat.lt_of_lt_of_le hv5 hG6.size
        have hd6' : Below bb w1 w6.drew := hd6.trans ⟨rfl, rfl, rfl, Nat.le_refl _, fun _ _ => rfl⟩
        have HO6 := Lib.hid (hO6.same (w' := w6.drew) rfl)
        clear k1 dF dT HO5 hG6 hd5 hO6
        go_wp2_with fail
        go_region_held3 (fun w' => w'.cell? ⟨w.heap.size, 1, none⟩ = some (.slice (some ⟨b, off, none⟩) n cap) ∧ w'.cell? ⟨b, off + j * 2 + 1, none⟩ = some (.int .i64 (T j)))
          (first
            | exact ⟨k1', dT'⟩
            | exact ⟨(HKM.out _ w7 hv6 hG7 1).trans k1', (HKE.out _ w7 hu6 hG7 (off + j * 2 + 1)).trans dT'⟩)
          (first
            | ((go_at_call 37; refine (Wd.refput_any _ bb (some ⟨bb, 0, none⟩) 128 128 (Wd.putF 128 (10 + 4 * (j : Int)) 2 (F j) (pairsD F T (head gen n) j)) _ _ _ (by exact HO6.out) (by omega) (by omega)).mono ?_; rintro _ w7 ⟨rfl, hG7, hO7⟩)))
        rw [HM2.out] at hO7
        have hd7 : Below bb w1 w7 := HO6.out.under hd6' hG7 (by have := hd6'.size; omega)
        have HN : Hid (Row w7 bb 0 128 (pairsD F T (head gen n) (j + 1)) ∧ Below bb w1 w7 ∧ w7.cell? ⟨w.heap.size, 1, none⟩ = some (.slice (some ⟨b, off, none⟩) n cap)) := Lib.hid ⟨own_row hO7, hd7, (HKM.out _ w7 hv6 hG7 1).trans k1'⟩
        clear hd7 hO7 hG7 HO6 k1' dT' hd6 hd6'
        go_wp2_with fail
        go_roundw
        case rel => exact ⟨j + 1, by omega, by go_num, HN⟩
        case measure => simp [intOf]; omega
      · obtain rfl : j = n := by omega
        have hD : tabD gen j F T = pairsD F T (head gen j) j := rfl
        have hby := tab_bytes gen F T hn20
        obtain ⟨hR5, hd5, _⟩ := hR.out
        rw [← hD] at hR5
        have HSL := Lib.hid (seal_any (tabD gen j F T) wr (fun i hi => hby i (by omega)) (by omega))
        generalize tabD gen j F T = D at hR5 hby HSL HV2
        rw [← HV2.out] at HSL
        have hrg := row_range hR5
        clear hD hby hR
        go_wp2_with (first
          | (refine wpList_load_mid rfl 27 (.tmp 6) rfl bb 0 rfl (bl D) _ (by exact hrg) und29 rfl (size_bl _) ?_; simp only [Act.put, List.setIfInBounds_toArray, List.set_cons_succ, List.set_cons_zero]))
        refine HSL.out.mono ?_
        rintro _ w8 ⟨rfl, hb8⟩
        have hd8 : Below bb w1 w8 := hd5.trans (hb8.mono (Nat.le_of_lt hrl))
        have hr8 := (hd8.block (w.heap.size + 1) (by omega)).trans hr1
        have hBn : Below w.heap.size w w8 := hB.trans (hd8.mono (by omega))
        clear HSL hrg hR5 hd5 hb8
        dsimp only
        go_wp2_with (refine wpList_store_row rfl 27 (.tmp 4) (.tmp 53) rfl (w.heap.size + 1) (bl V).toArray rfl rfl 27 _ hr8 (size_bl' _) rfl (bl_all _) ?_; simp only [Act.put])
        have hr10 := setRow_heap w8 (w.heap.size + 1) _ (bl V).toArray 27 (0, 0) hr8
        refine bodyPost_ret (results_pt rfl rfl rfl hr10) rfl ?_
        exact ⟨by rw [HE2.out], hBn.trans ⟨rfl, rfl, rfl, by simp, fun k hk => setRow_other w8 _ k _ (by omega)⟩⟩
end Rm
end Go.Proofs.YtlhncceajpdahaaDoor
