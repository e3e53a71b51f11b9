import Derived.Test.YtebgaafaokiigaaGreatDoorPVmF
/- vol: the law VolFull (made by tools/gen_vlfull.py). -/
namespace Go.Proofs.YtebgaafaokiigaaGreatDoor
set_option maxRecDepth 20000
namespace Vl
open Go.RowKit Dk Gm Eqb Rm Vm Di

attribute [local go_sem] zv29
attribute [local go_sem] Pt.zvP
attribute [local go_sem] zvV
attribute [local go_sem] zc29
def tri (a b : Int) (j : Nat) : Int := if j = 0 then a else if j = 1 then b else if j = 2 then 1 else 0
theorem set_tri (a b : Int) : ((((bl fun _ => 0).set 0 (.int .u8 a)).set 1 (.int .u8 b)).set 2 (.int .u8 1)) = bl (tri a b) := by kernel_rfl
theorem tri_byt {a b : Int} (ha : 0 ≤ a ∧ a < 256) (hb : 0 ≤ b ∧ b < 256) : byt (tri a b) := fun i _ => by unfold tri; split; exact ha; split; exact hb; split <;> omega
theorem tri_zero (a b : Int) : Pt.fitsB Pt.hole (tri a b) = false := by rw [fits_hole]; exact Wd.zeroB_false (i := 2) (by omega) (by simp [tri])
theorem e1_0 : e1 0 = fun _ => 0 := by
  funext j
  unfold e1
  rw [if_neg (by omega)]
/-- the volume behind j rounds -/
structure Fu (w : World) (B : Nat) (e : Nat → Nat → Int) (most j : Nat) (X : Dst) (w' : World) : Prop where
  be : Below w.heap.size w w'
  v : HasVol w' (Pl.own B 34) 332 X vM 28 184 128 256 (e (min j most))
  u : Up X
  c : Vm.Clean X
  m : X.m ≤ 2 * j
theorem Fu.alloc {w w' : World} {B most j : Nat} {e : Nat → Nat → Int} {X : Dst} (h : Fu w B e most j X w') (o : Obj) : Fu w B e most j X (w'.alloc o) := by
  have hb : Below w'.heap.size w' (w'.alloc o) := (Below.refl _ _).alloc (Nat.le_refl _) _
  exact ⟨h.be.trans (hb.mono h.be.size), h.v.below hb, h.u, h.c, h.m⟩

theorem add_1_ok {w w1 : World} {B j : Nat} {X : Dst} (h : Fu w B e1 256 j X w1) (hj : j < 256) (hB : w.heap.size ≤ B) (hkp : Rm.Kp w) (D : Nat → Int) (hD : byt D) (hz : Pt.fitsB Pt.hole D = false) : ∃ X', Calls Tryz.prog 18 #[.pointer (some ⟨B, 0, none⟩), .agg (bl D).toArray, .int .i64 1] w1
      fun e w' => e = .returned (.tuple #[.agg (Pt.pV ⟨s1 j, -1, Pt.sumD D⟩).toArray, .int .i64 0]) ∧ Fu w B e1 256 (j + 1) X' w' := by
  have hm : min j 256 = j := by omega
  have hv := h.v
  rw [hm] at hv
  obtain ⟨t0, t1, t2, t3⟩ := take1 (i := j) hj
  have hp : Ps (s1 j) (-1) := ps1 hj
  have hu := h.m
  obtain ⟨X', hres, hu', hcl', hm', _, _, _, hok2, hm2⟩ := put_res (D := D) h.u h.c hp (by omega)
  refine ⟨X', (add_ok hv tabM i64_184 (hkp.below h.be) D 1 hD (rv_up h.u (Vm.form1 j)) rfl (by omega) (h.u.ok (by omega)) hz rfl t0 t1 t2 hres hok2 hm2).mono ?_⟩
  rw [t3]
  rintro e w' ⟨he, hT⟩
  refine ⟨he, VlQ_below h.be hT.g hB, ?_, hu', hcl', by omega⟩
  rw [show min (j + 1) 256 = j + 1 by omega]
  exact hT.v
theorem add_1_full {w w1 : World} {B j : Nat} {X : Dst} (h : Fu w B e1 256 j X w1) (hj : ¬ j < 256) (hB : w.heap.size ≤ B) (hkp : Rm.Kp w) (D : Nat → Int) (hD : byt D) (hz : Pt.fitsB Pt.hole D = false) : Calls Tryz.prog 18 #[.pointer (some ⟨B, 0, none⟩), .agg (bl D).toArray, .int .i64 1] w1
      fun e w' => e = .returned (.tuple #[.agg (Pt.pV Pt.pz).toArray, .int .i64 9]) ∧ Fu w B e1 256 (j + 1) X w' := by
  have hm : min j 256 = 256 := by omega
  have hv := h.v
  rw [hm] at hv
  obtain ⟨t0, t3⟩ := full1
  have := add_full hv tabM i64_184 (hkp.below h.be) D 1 hD (rv_up h.u (Vm.form1 256)) rfl (by omega) hz rfl (by rw [t0]; decide)
  rw [t0, t3] at this
  refine this.mono ?_
  rintro e w' ⟨he, hT⟩
  have := h.m
  refine ⟨he, VlQ_below h.be hT.g hB, ?_, h.u, h.c, by omega⟩
  rw [show min (j + 1) 256 = 256 by omega]
  exact hT.v


set_option maxRecDepth 100000 in
set_option maxHeartbeats 8000000 in
theorem full_1_any (z : Int) (hz0 : 0 ≤ z) (hz1 : z < 65536) (w : World) (hkp : Rm.Kp w) : Calls Tryz.prog 6 #[.int .u16 z, .bool false] w fun e w' => e = .returned (.bool true) ∧ Below w.heap.size w w' := by
  obtain ⟨_, hu, hm, hcl, _⟩ := fresh_up
  have HAL := Lib.hid (alive9_any w hkp)
  have HNW := Lib.hid (fun w' (hb : Below w.heap.size w w') => new_v w' (hkp.below hb))
  have HNH := Lib.hid (fun (w1 : World) (sa ca ao : Option Addr) (sc cc kc : Nat) (h : Nv w1 sa sc ca cc ao kc) (h0 : w1.heap.size ≠ 0) => h.has h0 rfl)
  have HST := Lib.hid (fun (w1 : World) (B : Nat) (hb : Below w.heap.size w w1) (hv : HasVol w1 (Pl.own B 34) 332 vX1 vM 28 184 128 256 (fun _ => 0)) => (⟨hb, by rw [show min 0 256 = 0 by omega, e1_0]; exact hv, hu, hcl, by omega⟩ : Fu w B e1 256 0 vX1 w1))
  have HOK := Lib.hid (fun (w1 : World) (B j : Nat) (X : Dst) (h : Fu w B e1 256 j X w1) (hj : j < 256) (hB : w.heap.size ≤ B) (D : Nat → Int) (hD : byt D) (hz : Pt.fitsB Pt.hole D = false) => add_1_ok h hj hB hkp D hD hz)
  have HNO := Lib.hid (fun (w1 : World) (B j : Nat) (X : Dst) (h : Fu w B e1 256 j X w1) (hj : ¬ j < 256) (hB : w.heap.size ≤ B) (D : Nat → Int) (hD : byt D) (hz : Pt.fitsB Pt.hole D = false) => add_1_full h hj hB hkp D hD hz)
  have h0 := hkp.2
  clear hu hm hcl hkp
  go_enter Tryz.func6, Tryz.ntmps6
  go_wp2_with fail
  refine HAL.out.mono ?_
  rintro _ w1 ⟨rfl, hb1⟩
  clear HAL
  dsimp only
  go_wp2_with fail
  refine (HNW.out w1 hb1).mono ?_
  rintro _ w2 ⟨sa, sc, ca, cc, ao, kc, rfl, hn2, hb2⟩
  have hB2 := hb1.trans (hb2.mono hb1.size)
  have hb3 : Below w2.heap.size w2 (w2.alloc (.cells (nvC sa sc ca cc ao kc) 34)) := (Below.refl _ _).alloc (Nat.le_refl _) _
  have HS := Lib.hid (HST.out _ _ (hB2.trans (hb3.mono hB2.size)) (HNH.out _ _ _ _ _ _ _ hn2 (by have := hB2.size; omega)))
  have hs2 := hB2.size
  clear HNW HNH HST hn2 hb1 hb2 hb3 hB2
  dsimp only
  go_wp2_with (refine @wpList_store_row _ _ _ _ _ _ _ rfl 34 (.tmp 5) (.tmp 16) rfl w2.heap.size (nvC sa sc ca cc ao kc) rfl rfl 34 _ (heap_alloc_new w2 _) (vol_size _ _ _ _ _ _ _ _ _ _) rfl (vol_one _ _ _ _ _ _ _ _ _ _ _ _ _ _ _ _ _ _) ?_; rw [World.setRow_alloc_new]; simp only [Act.put]; generalize w2.alloc (.cells (nvC sa sc ca cc ao kc) 34) = w3 at HS ⊢)
  generalize w2.heap.size = B at HS hs2 ⊢

  obtain ⟨N, hN⟩ : ∃ N : Nat, z % 300 = N := ⟨(z % 300).toNat, by omega⟩
  have hN2 : N < 300 := by omega
  rw [hN]
  go_loopw [9] (fun i wr => ∃ j : Nat, j ≤ N ∧ i = .int .i64 j ∧ Hid (∃ X, Fu w B e1 256 j X wr)) (fun i _ => N - (intOf i).toNat)
  case atStart => exact ⟨0, by omega, rfl, Lib.hid ⟨_, HS.out⟩⟩
  case round =>
    obtain ⟨j, hj, rfl, hR⟩ := hrel
    clear HS
    by_cases hjn : j < N
    · have hjn' : (j : Int) < (N : Int) := by omega
      go_wp2_with fail
      rw [set_tri]
      have hD : byt (tri ((j : Int) % 256) ((j : Int) / 256)) := tri_byt (by omega) (by omega)
      obtain ⟨X, hF⟩ := hR.out
      clear hR
      by_cases hjm : j < 256
      · have hjm' : (j : Int) < 256 := by omega
        obtain ⟨X', hA⟩ := HOK.out wr B j X hF hjm hs2 _ hD (tri_zero _ _)
        refine hA.mono ?_
        rintro _ w4 ⟨rfl, hF4⟩
        clear hA hF HOK HNO hD
        generalize Pt.sumD (tri ((j : Int) % 256) ((j : Int) / 256)) = q
        have HF5 := Lib.hid (hF4.alloc (.cells (Pt.pV ⟨s1 j, -1, q⟩).toArray 37))
        clear hF4
        dsimp only
        go_wp2_with (refine @wpList_store_row _ _ _ _ _ _ _ rfl 37 (.tmp 10) (.tmp 36) rfl w4.heap.size (Pt.pV ⟨s1 j, -1, q⟩).toArray rfl rfl 37 _ (heap_alloc_new w4 _) (Pt.sizeP' _) rfl (Pt.pV_all _) ?_; rw [World.setRow_alloc_new]; simp only [Act.put]; generalize w4.alloc (.cells (Pt.pV ⟨s1 j, -1, q⟩).toArray 37) = w5 at HF5 ⊢)
        go_roundw
        case rel => exact ⟨j + 1, by omega, by go_num, Lib.hid ⟨X', HF5.out⟩⟩
        case measure => simp [intOf]; omega
      · have hjm' : ¬ (j : Int) < 256 := by omega
        have hA := HNO.out wr B j X hF hjm hs2 _ hD (tri_zero _ _)
        refine hA.mono ?_
        rintro _ w4 ⟨rfl, hF4⟩
        clear hA hF HOK HNO hD
        have HF5 := Lib.hid (hF4.alloc (.cells (Pt.pV Pt.pz).toArray 37))
        clear hF4
        dsimp only
        go_wp2_with (refine @wpList_store_row _ _ _ _ _ _ _ rfl 37 (.tmp 10) (.tmp 36) rfl w4.heap.size (Pt.pV Pt.pz).toArray rfl rfl 37 _ (heap_alloc_new w4 _) (Pt.sizeP' _) rfl (Pt.pV_all _) ?_; rw [World.setRow_alloc_new]; simp only [Act.put]; generalize w4.alloc (.cells (Pt.pV Pt.pz).toArray 37) = w5 at HF5 ⊢)
        go_roundw
        case rel => exact ⟨j + 1, by omega, by go_num, Lib.hid ⟨X, HF5.out⟩⟩
        case measure => simp [intOf]; omega
    · obtain rfl : j = N := by omega
      obtain ⟨X, hF⟩ := hR.out
      obtain ⟨sb, sd, cb, cd, pb, cbp, bo, kd, hx⟩ := HasVol.open' hF.v
      have HU := Lib.hid (Sp.refUsed_any 28 184 128 bo 256 kd (e1 (min j 256)) wr hx.st)
      rw [used1 (i := min j 256) (by omega)] at HU
      have HBE := Lib.hid hF.be
      have c6 : wr.cell? ⟨B, 6, none⟩ = some _ := hx.c6
      have c7 : wr.cell? ⟨B, 7, none⟩ = some _ := hx.c7
      have c8 : wr.cell? ⟨B, 8, none⟩ = some _ := hx.c8
      have c9 : wr.cell? ⟨B, 9, none⟩ = some _ := hx.c9
      clear hx hF hR HOK HNO
      by_cases hjm : j ≤ 256
      · have hjm' : (j : Int) ≤ 256 := by omega
        rw [show min j 256 = j by omega] at HU
        go_wp2_with fail
        refine HU.out.mono ?_
        rintro _ w4 ⟨rfl, hb4⟩
        clear c6 c7 c8 c9
        dsimp only
        go_wp2_with fail
        go_ret
        exact ⟨by simp <;> omega, HBE.out.trans (hb4.mono HBE.out.size)⟩
      · have hjm' : (256 : Int) ≤ j := by omega
        rw [show min j 256 = 256 by omega] at HU
        go_wp2_with fail
        refine HU.out.mono ?_
        rintro _ w4 ⟨rfl, hb4⟩
        clear c6 c7 c8 c9
        dsimp only
        go_wp2_with fail
        go_ret
        exact ⟨by simp <;> omega, HBE.out.trans (hb4.mono HBE.out.size)⟩
theorem add_2_ok {w w1 : World} {B j : Nat} {X : Dst} (h : Fu w B e2 128 j X w1) (hj : j < 128) (hB : w.heap.size ≤ B) (hkp : Rm.Kp w) (D : Nat → Int) (hD : byt D) (hz : Pt.fitsB Pt.hole D = false) : ∃ X', Calls Tryz.prog 18 #[.pointer (some ⟨B, 0, none⟩), .agg (bl D).toArray, .int .i64 2] w1
      fun e w' => e = .returned (.tuple #[.agg (Pt.pV ⟨28 + j, 184 + j, Pt.sumD D⟩).toArray, .int .i64 0]) ∧ Fu w B e2 128 (j + 1) X' w' := by
  have hm : min j 128 = j := by omega
  have hv := h.v
  rw [hm] at hv
  obtain ⟨t0, t1, t2, t3⟩ := take2 (i := j) hj
  have hp : Ps (28 + j) (184 + j) := ps2 hj
  have hu := h.m
  obtain ⟨X', hres, hu', hcl', hm', _, _, _, hok2, hm2⟩ := put_res (D := D) h.u h.c hp (by omega)
  refine ⟨X', (add_ok hv tabM i64_184 (hkp.below h.be) D 2 hD (rv_up h.u (Vm.form2 j)) rfl (by omega) (h.u.ok (by omega)) hz rfl t0 t1 t2 hres hok2 hm2).mono ?_⟩
  rw [t3]
  rintro e w' ⟨he, hT⟩
  refine ⟨he, VlQ_below h.be hT.g hB, ?_, hu', hcl', by omega⟩
  rw [show min (j + 1) 128 = j + 1 by omega]
  exact hT.v
theorem add_2_full {w w1 : World} {B j : Nat} {X : Dst} (h : Fu w B e2 128 j X w1) (hj : ¬ j < 128) (hB : w.heap.size ≤ B) (hkp : Rm.Kp w) (D : Nat → Int) (hD : byt D) (hz : Pt.fitsB Pt.hole D = false) : Calls Tryz.prog 18 #[.pointer (some ⟨B, 0, none⟩), .agg (bl D).toArray, .int .i64 2] w1
      fun e w' => e = .returned (.tuple #[.agg (Pt.pV Pt.pz).toArray, .int .i64 9]) ∧ Fu w B e2 128 (j + 1) X w' := by
  have hm : min j 128 = 128 := by omega
  have hv := h.v
  rw [hm] at hv
  obtain ⟨t0, t3⟩ := full2
  have := add_full hv tabM i64_184 (hkp.below h.be) D 2 hD (rv_up h.u (Vm.form2 128)) rfl (by omega) hz rfl (by rw [t0]; decide)
  rw [t0, t3] at this
  refine this.mono ?_
  rintro e w' ⟨he, hT⟩
  have := h.m
  refine ⟨he, VlQ_below h.be hT.g hB, ?_, h.u, h.c, by omega⟩
  rw [show min (j + 1) 128 = 128 by omega]
  exact hT.v


set_option maxRecDepth 100000 in
set_option maxHeartbeats 8000000 in
theorem full_2_any (z : Int) (hz0 : 0 ≤ z) (hz1 : z < 65536) (w : World) (hkp : Rm.Kp w) : Calls Tryz.prog 6 #[.int .u16 z, .bool true] w fun e w' => e = .returned (.bool true) ∧ Below w.heap.size w w' := by
  obtain ⟨_, hu, hm, hcl, _⟩ := fresh_up
  have HAL := Lib.hid (alive9_any w hkp)
  have HNW := Lib.hid (fun w' (hb : Below w.heap.size w w') => new_v w' (hkp.below hb))
  have HNH := Lib.hid (fun (w1 : World) (sa ca ao : Option Addr) (sc cc kc : Nat) (h : Nv w1 sa sc ca cc ao kc) (h0 : w1.heap.size ≠ 0) => h.has h0 rfl)
  have HST := Lib.hid (fun (w1 : World) (B : Nat) (hb : Below w.heap.size w w1) (hv : HasVol w1 (Pl.own B 34) 332 vX1 vM 28 184 128 256 (fun _ => 0)) => (⟨hb, by rw [show min 0 128 = 0 by omega, e2_0]; exact hv, hu, hcl, by omega⟩ : Fu w B e2 128 0 vX1 w1))
  have HOK := Lib.hid (fun (w1 : World) (B j : Nat) (X : Dst) (h : Fu w B e2 128 j X w1) (hj : j < 128) (hB : w.heap.size ≤ B) (D : Nat → Int) (hD : byt D) (hz : Pt.fitsB Pt.hole D = false) => add_2_ok h hj hB hkp D hD hz)
  have HNO := Lib.hid (fun (w1 : World) (B j : Nat) (X : Dst) (h : Fu w B e2 128 j X w1) (hj : ¬ j < 128) (hB : w.heap.size ≤ B) (D : Nat → Int) (hD : byt D) (hz : Pt.fitsB Pt.hole D = false) => add_2_full h hj hB hkp D hD hz)
  have h0 := hkp.2
  clear hu hm hcl hkp
  go_enter Tryz.func6, Tryz.ntmps6
  go_wp2_with fail
  refine HAL.out.mono ?_
  rintro _ w1 ⟨rfl, hb1⟩
  clear HAL
  dsimp only
  go_wp2_with fail
  refine (HNW.out w1 hb1).mono ?_
  rintro _ w2 ⟨sa, sc, ca, cc, ao, kc, rfl, hn2, hb2⟩
  have hB2 := hb1.trans (hb2.mono hb1.size)
  have hb3 : Below w2.heap.size w2 (w2.alloc (.cells (nvC sa sc ca cc ao kc) 34)) := (Below.refl _ _).alloc (Nat.le_refl _) _
  have HS := Lib.hid (HST.out _ _ (hB2.trans (hb3.mono hB2.size)) (HNH.out _ _ _ _ _ _ _ hn2 (by have := hB2.size; omega)))
  have hs2 := hB2.size
  clear HNW HNH HST hn2 hb1 hb2 hb3 hB2
  dsimp only
  go_wp2_with (refine @wpList_store_row _ _ _ _ _ _ _ rfl 34 (.tmp 5) (.tmp 16) rfl w2.heap.size (nvC sa sc ca cc ao kc) rfl rfl 34 _ (heap_alloc_new w2 _) (vol_size _ _ _ _ _ _ _ _ _ _) rfl (vol_one _ _ _ _ _ _ _ _ _ _ _ _ _ _ _ _ _ _) ?_; rw [World.setRow_alloc_new]; simp only [Act.put]; generalize w2.alloc (.cells (nvC sa sc ca cc ao kc) 34) = w3 at HS ⊢)
  generalize w2.heap.size = B at HS hs2 ⊢

  obtain ⟨N, hN⟩ : ∃ N : Nat, z % 300 = N := ⟨(z % 300).toNat, by omega⟩
  have hN2 : N < 300 := by omega
  rw [hN]
  go_loopw [9] (fun i wr => ∃ j : Nat, j ≤ N ∧ i = .int .i64 j ∧ Hid (∃ X, Fu w B e2 128 j X wr)) (fun i _ => N - (intOf i).toNat)
  case atStart => exact ⟨0, by omega, rfl, Lib.hid ⟨_, HS.out⟩⟩
  case round =>
    obtain ⟨j, hj, rfl, hR⟩ := hrel
    clear HS
    by_cases hjn : j < N
    · have hjn' : (j : Int) < (N : Int) := by omega
      go_wp2_with fail
      rw [set_tri]
      have hD : byt (tri ((j : Int) % 256) ((j : Int) / 256)) := tri_byt (by omega) (by omega)
      obtain ⟨X, hF⟩ := hR.out
      clear hR
      by_cases hjm : j < 128
      · have hjm' : (j : Int) < 128 := by omega
        obtain ⟨X', hA⟩ := HOK.out wr B j X hF hjm hs2 _ hD (tri_zero _ _)
        refine hA.mono ?_
        rintro _ w4 ⟨rfl, hF4⟩
        clear hA hF HOK HNO hD
        generalize Pt.sumD (tri ((j : Int) % 256) ((j : Int) / 256)) = q
        have HF5 := Lib.hid (hF4.alloc (.cells (Pt.pV ⟨28 + j, 184 + j, q⟩).toArray 37))
        clear hF4
        dsimp only
        go_wp2_with (refine @wpList_store_row _ _ _ _ _ _ _ rfl 37 (.tmp 10) (.tmp 36) rfl w4.heap.size (Pt.pV ⟨28 + j, 184 + j, q⟩).toArray rfl rfl 37 _ (heap_alloc_new w4 _) (Pt.sizeP' _) rfl (Pt.pV_all _) ?_; rw [World.setRow_alloc_new]; simp only [Act.put]; generalize w4.alloc (.cells (Pt.pV ⟨28 + j, 184 + j, q⟩).toArray 37) = w5 at HF5 ⊢)
        go_roundw
        case rel => exact ⟨j + 1, by omega, by go_num, Lib.hid ⟨X', HF5.out⟩⟩
        case measure => simp [intOf]; omega
      · have hjm' : ¬ (j : Int) < 128 := by omega
        have hA := HNO.out wr B j X hF hjm hs2 _ hD (tri_zero _ _)
        refine hA.mono ?_
        rintro _ w4 ⟨rfl, hF4⟩
        clear hA hF HOK HNO hD
        have HF5 := Lib.hid (hF4.alloc (.cells (Pt.pV Pt.pz).toArray 37))
        clear hF4
        dsimp only
        go_wp2_with (refine @wpList_store_row _ _ _ _ _ _ _ rfl 37 (.tmp 10) (.tmp 36) rfl w4.heap.size (Pt.pV Pt.pz).toArray rfl rfl 37 _ (heap_alloc_new w4 _) (Pt.sizeP' _) rfl (Pt.pV_all _) ?_; rw [World.setRow_alloc_new]; simp only [Act.put]; generalize w4.alloc (.cells (Pt.pV Pt.pz).toArray 37) = w5 at HF5 ⊢)
        go_roundw
        case rel => exact ⟨j + 1, by omega, by go_num, Lib.hid ⟨X, HF5.out⟩⟩
        case measure => simp [intOf]; omega
    · obtain rfl : j = N := by omega
      obtain ⟨X, hF⟩ := hR.out
      obtain ⟨sb, sd, cb, cd, pb, cbp, bo, kd, hx⟩ := HasVol.open' hF.v
      have HU := Lib.hid (Sp.refUsed_any 28 184 128 bo 256 kd (e2 (min j 128)) wr hx.st)
      rw [used2 (i := min j 128) (by omega)] at HU
      have HBE := Lib.hid hF.be
      have c6 : wr.cell? ⟨B, 6, none⟩ = some _ := hx.c6
      have c7 : wr.cell? ⟨B, 7, none⟩ = some _ := hx.c7
      have c8 : wr.cell? ⟨B, 8, none⟩ = some _ := hx.c8
      have c9 : wr.cell? ⟨B, 9, none⟩ = some _ := hx.c9
      clear hx hF hR HOK HNO
      by_cases hjm : j ≤ 128
      · have hjm' : (j : Int) ≤ 128 := by omega
        rw [show min j 128 = j by omega] at HU
        go_wp2_with fail
        refine HU.out.mono ?_
        rintro _ w4 ⟨rfl, hb4⟩
        clear c6 c7 c8 c9
        dsimp only
        go_wp2_with fail
        go_ret
        exact ⟨by simp <;> omega, HBE.out.trans (hb4.mono HBE.out.size)⟩
      · have hjm' : (128 : Int) ≤ j := by omega
        rw [show min j 128 = 128 by omega] at HU
        go_wp2_with fail
        refine HU.out.mono ?_
        rintro _ w4 ⟨rfl, hb4⟩
        clear c6 c7 c8 c9
        dsimp only
        go_wp2_with fail
        go_ret
        exact ⟨by simp <;> omega, HBE.out.trans (hb4.mono HBE.out.size)⟩
theorem volfull_any (z : Int) (hz0 : 0 ≤ z) (hz1 : z < 65536) (b : Bool) (w : World) (hkp : Rm.Kp w) : Calls Tryz.prog 6 #[.int .u16 z, .bool b] w fun e w' => e = .returned (.bool true) ∧ Below w.heap.size w w' := by
  cases b with
  | false => exact full_1_any z hz0 hz1 w hkp
  | true => exact full_2_any z hz0 hz1 w hkp
end Vl
end Go.Proofs.YtebgaafaokiigaaGreatDoor
