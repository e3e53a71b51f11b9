/- DittoAgain: the law's walk (made by tools/gen_dagain.py). -/
import Derived.Test.YtllejfnmbpjhaaaDoorJDiB
namespace Go.Proofs.YtllejfnmbpjhaaaDoor
set_option maxRecDepth 20000
namespace Di
open Go.RowKit Dk Byt Eqb Rm

attribute [local irreducible] wpQuiet
attribute [local go_sem] zv29
attribute [local go_sem] Pt.zvP
attribute [local go_sem] zc29
theorem box_ag (w : World) (V : Nat → Int) (s : Bool) (kd pl y : Int) : ∃ W, W = (w.alloc (.cells (bl V).toArray 22)).alloc (.cells #[.bool s, .int .u8 kd, .int .u8 pl, .int .u8 y] 77) ∧ Below w.heap.size w W ∧ W.heap.size = w.heap.size + 2 ∧
    W.heap[w.heap.size]? = some (.cells (bl V).toArray 22 (0, 0)) ∧ W.heap[w.heap.size + 1]? = some (.cells #[.bool s, .int .u8 kd, .int .u8 pl, .int .u8 y] 77 (0, 0)) := by
  refine ⟨_, rfl, ((Below.refl _ _).alloc (Nat.le_refl _) _).alloc (by simp) _, by simp, (Below.heap_alloc _ _ _ (by simp)).trans (heap_alloc_new w _), ?_⟩
  have := heap_alloc_new (w.alloc (.cells (bl V).toArray 22)) (.cells #[.bool s, .int .u8 kd, .int .u8 pl, .int .u8 y] 77)
  rwa [World.size_alloc] at this
theorem blow_cells {w : World} {b : Nat} {s : Bool} {kd pl y : Int} (h : w.heap[b]? = some (.cells #[.bool s, .int .u8 kd, .int .u8 pl, .int .u8 y] 77 (0, 0))) : w.cell? ⟨b, 0, none⟩ = some (.bool s) ∧ w.cell? ⟨b, 1, none⟩ = some (.int .u8 kd) ∧ w.cell? ⟨b, 2, none⟩ = some (.int .u8 pl) ∧ w.cell? ⟨b, 3, none⟩ = some (.int .u8 y) :=
  ⟨by rw [cell_of_row _ _ _ _ _ _ h]; rfl, by rw [cell_of_row _ _ _ _ _ _ h]; rfl, by rw [cell_of_row _ _ _ _ _ _ h]; rfl, by rw [cell_of_row _ _ _ _ _ _ h]; rfl⟩
/-- two blocks of the law's own, kept -/
structure Kept (w0 : World) (V : Nat → Int) (s : Bool) (kd pl y : Int) (w : World) : Prop where
  v : w.heap[w0.heap.size]? = some (.cells (bl V).toArray 22 (0, 0))
  l : w.heap[w0.heap.size + 1]? = some (.cells #[.bool s, .int .u8 kd, .int .u8 pl, .int .u8 y] 77 (0, 0))
theorem Kept.below {w0 w w' : World} {V : Nat → Int} {s : Bool} {kd pl y : Int} (h : Kept w0 V s kd pl y w) (hb : Below w.heap.size w w') : Kept w0 V s kd pl y w' :=
  ⟨(hb.block _ (Array.getElem?_eq_some_iff.1 h.v).1).trans h.v, (hb.block _ (Array.getElem?_eq_some_iff.1 h.l).1).trans h.l⟩
theorem Kept.two {w0 w w' : World} {V : Nat → Int} {s : Bool} {kd pl y : Int} {g b : Nat} (h : Kept w0 V s kd pl y w) (ht : Two w w' g b) (hg : w0.heap.size + 1 < g) (hb : w0.heap.size + 1 < b) : Kept w0 V s kd pl y w' :=
  ⟨(ht.block _ (Array.getElem?_eq_some_iff.1 h.v).1 (by omega) (by omega)).trans h.v, (ht.block _ (Array.getElem?_eq_some_iff.1 h.l).1 (by omega) (by omega)).trans h.l⟩
theorem two_at {w w' : World} {g b k : Nat} {o : Obj} (ht : Two w w' g b) (h : w.heap[k]? = some o) (hg : k ≠ g) (hb : k ≠ b) : w'.heap[k]? = some o := (ht.block k (Array.getElem?_eq_some_iff.1 h).1 hg hb).trans h
theorem below_at {w w' : World} {k : Nat} {o : Obj} (hb : Below w.heap.size w w') (h : w.heap[k]? = some o) : w'.heap[k]? = some o := (hb.block k (Array.getElem?_eq_some_iff.1 h).1).trans h
theorem new_obj (w : World) (o : Obj) : ∃ W, W = w.alloc o ∧ Below w.heap.size w W ∧ W.heap[w.heap.size]? = some o ∧ W.heap.size = w.heap.size + 1 := ⟨_, rfl, (Below.refl _ _).alloc (Nat.le_refl _) _, heap_alloc_new _ _, by simp⟩

set_option maxRecDepth 100000 in
set_option maxHeartbeats 16000000 in
theorem lagain_any (V : Nat → Int) (s : Bool) (kd pl y : Int) (w : World) (hV : byt V) (hkd : 0 ≤ kd ∧ kd < 256) (hpl : 0 ≤ pl ∧ pl < 256) (hk : Rm.Kp w) :
    Calls Tryd.prog 9 #[.agg (bl V).toArray, .agg #[.bool s, .int .u8 kd, .int .u8 pl, .int .u8 y]] w fun e w' => e = .returned (.bool true) ∧ Below w.heap.size w w' := by
  have HK := Lib.hid (fun W (hb : Below w.heap.size w W) => hk.below hb)
  have HK0 := Lib.hid hk
  obtain ⟨_, hup1, hm1, hf1⟩ := fresh_up
  obtain ⟨hup2, hm2, hup3, hm3, _⟩ := chain2 V
  have HPUT := Lib.hid (fun g b w3 (hS : LwS w g b fX1 w3) => lput hS hup1 (by omega) (hf1 3 (.inl rfl)).2 (hf1 25 (.inr rfl)).2 V hV)
  have HFL := Lib.hid (fun g b w3 (hS : LwS w g b (cX2 V) w3) => lflush hS hup2 (by omega))
  unfold LwD at HPUT HFL
  rw [show dWr 60 (dWr 60 fX1 3 V) 25 V = cX2 V from rfl] at HPUT
  rw [show dFl 60 (cX2 V) = cX3 V from rfl] at HFL
  have HSV := Lib.hid (fun (W : World) (g : Nat) (hr : Row W g 0 128 V) (hz : 0 < W.heap.size) => Pt.refsum_row hr hV hz)
  obtain ⟨hk0, hk1⟩ := hkd
  obtain ⟨hp0, hp1⟩ := hpl
  clear hk hup1 hm1 hf1 hup2 hm2
  obtain ⟨W, hW, hB0, hs0, hv0, hl0⟩ := box_ag w V s kd pl y
  have HKE := Lib.hid (⟨hv0, hl0⟩ : Kept w V s kd pl y W)
  clear hv0 hl0
  cases s with
  | false =>
    have hSx : Sx 3 := .inl rfl
    have hbd := hSx.bd
    have hD := hit_byt (y := y) hV hSx (blow_hits (kd := kd) (pl := pl))
    have HHI := Lib.hid (fun g b w3 (hS : LwS w g b (cX3 V) w3) => lhit hS hup3 hm3 3 (1 + kd % 3) (pl % 128) y hbd blow_hits)
    unfold LwD at HHI
    have HAG := Lib.hid (fun hD => again_hit (V := V) hV hSx (blow_hits (kd := kd) (pl := pl)) (y := y) hD)
    have HSD := Lib.hid (fun (W : World) (g : Nat) (hr : Row W g 0 128 ((hX (cX3 V) 3 (1 + kd % 3) (pl % 128) y).S (3 : Int).toNat).data) (hz : 0 < W.heap.size) => Pt.refsum_row hr hD hz)
    have HVB := Lib.hid hV
    have hSS : (hX (cX3 V) 3 (1 + kd % 3) (pl % 128) y).S (3 : Int).toNat = (hX (cX3 V) 3 (1 + kd % 3) (pl % 128) y).S 3 := rfl
    clear hup3 hm3 hV hD hbd hSx
    generalize hX (cX3 V) 3 (1 + kd % 3) (pl % 128) y = X4 at HHI HAG HSD hSS
    rw [hSS] at HAG HSD
    clear hSS
    obtain ⟨D, hDD⟩ : ∃ D, (X4.S 3).data = D := ⟨_, rfl⟩
    rw [hDD] at HAG HSD
    generalize cX2 V = X2 at HPUT HFL
    generalize cX3 V = X3 at HFL HHI
    generalize hqd : Pt.sumD D = qd at HSD HAG
    generalize hqv : Pt.sumD V = q at HSV HAG HPUT
    go_enter Tryd.func9, Tryd.ntmps9
    go_wp2_with fail
    rw [← hW]
    clear hW
    refine (alive6_any W (HK.out W hB0)).mono ?_
    rintro _ w1 ⟨rfl, hb1⟩
    have hB1 := hB0.trans (hb1.mono hB0.size)
    have HK1 := Lib.hid (HKE.out.below hb1)
    have hs1 := hb1.size
    clear hb1 HKE hB0
    dsimp only
    go_wp2_with fail
    refine (fresh_any w1 (HK.out w1 hB1)).mono ?_
    rintro _ w2 ⟨hb2, sa, sc, ca, cc, rfl, hs, hc⟩
    have hB2 := hB1.trans (hb2.mono hB1.size)
    obtain ⟨a0, a1, W3, hW3, hb3, hS3, hs3⟩ := law_start hB2 HK0.out hs hc
    have HK3 := Lib.hid ((HK1.out.below hb2).below hb3)
    have hg : w.heap.size + 1 < w2.heap.size := by have := hb2.size; omega
    have r3 := row_all HK3.out.v
    clear hs hc hb2 hB1 hB2 HK1
    dsimp only
    subst hW3
    go_wp2_with (first
      | (refine @wpList_store_row _ _ _ _ _ _ _ rfl 35 (.tmp 5) (.tmp 28) rfl w2.heap.size #[.slice sa 60 sc, .slice ca 0 cc, .int .i64 (-1), .bool false] rfl rfl 35 _ a0 (by kernel_rfl) rfl (disk_one _ _ _ _ _ _ _ _) ?_; simp only [Act.put])
      | (refine @wpList_store_row _ _ _ _ _ _ _ rfl 26 (.tmp 6) (.tmp 29) rfl (w2.heap.size + 1) zM rfl rfl 26 _ a1 (by kernel_rfl) rfl rm_one ?_; simp only [Act.put])
      | (refine @wpList_loadG _ _ _ _ _ _ _ (by kernel_rfl) 22 (.tmp 2) rfl w.heap.size 0 rfl (bl V) _ r3 undB rfl (size_bl _) ?_; simp only [Act.put, List.setIfInBounds_toArray, List.set_cons_succ, List.set_cons_zero]))
    generalize ((((w2.alloc (.cells zD 35)).alloc (.cells zM 26)).setRow w2.heap.size #[.slice sa 60 sc, .slice ca 0 cc, .int .i64 (-1), .bool false]).setRow (w2.heap.size + 1) zM) = W3 at hS3 hs3 HK3 ⊢
    clear a0 a1 hb3 r3
    generalize w2.heap.size = g at hS3 hs3 hg ⊢
    refine (HPUT.out g (g + 1) W3 hS3).mono ?_
    rintro _ w4 ⟨rfl, hT4, hS4⟩
    have hs4 := hT4.size
    obtain ⟨W5, hW5, hb5, hx5, hs5⟩ := new_obj w4 (.cells (Pt.pV ⟨3, 25, q⟩).toArray 65)
    have HK5 := Lib.hid ((HK3.out.two hT4 hg (by omega)).below hb5)
    have hS5 := hS4.below hb5
    clear hT4 hS4 hb5 HPUT hS3 HK3
    dsimp only
    go_wp2_with (refine @wpList_store_row _ _ _ _ _ _ _ rfl 65 (.tmp 8) (.tmp 34) rfl w4.heap.size (Pt.pV ⟨3, 25, q⟩).toArray rfl rfl 65 _ (heap_alloc_new w4 _) (Pt.sizeP' _) rfl (Pt.pV_all _) ?_; rw [World.setRow_alloc_new]; simp only [Act.put])
    rw [← hW5]
    clear hW5
    have hpg : g + 1 < w4.heap.size := by omega
    generalize w4.heap.size = bp at hx5 hs5 hpg ⊢
    refine (HFL.out g (g + 1) W5 hS5).mono ?_
    rintro _ w6 ⟨rfl, hT6, hS6⟩
    have hx6 := two_at hT6 hx5 (by omega) (by omega)
    have HK6 := Lib.hid (HK5.out.two hT6 hg (by omega))
    have hs6 := hT6.size
    obtain ⟨l0, l1, l2, l3⟩ := blow_cells HK6.out.l
    clear hT6 hx5 hS5 HFL HK5
    dsimp only
    go_wp2_with fail
    refine (HHI.out g (g + 1) w6 hS6).mono ?_
    rintro _ w7 ⟨rfl, hT7, hS7⟩
    have hx7 := two_at hT7 hx6 (by omega) (by omega)
    have HK7 := Lib.hid (HK6.out.two hT7 hg (by omega))
    have hs7 := hT7.size
    obtain ⟨sa7, sc7, ca7, cc7, hH7⟩ := hS7.d
    obtain ⟨bs, off, rfl, hbs, hbg, hrow⟩ := hH7.ss.rows.resolve_left (by omega)
    have hDr := sec_data (hrow 3 (by omega))
    rw [hDD] at hDr
    have c0 := hH7.bx.c0
    have hS7' := Lib.hid hS7
    clear hT7 hx6 hS6 HHI HK6 l0 l1 l2 l3 hH7 hrow hS7 hDD
    dsimp only
    obtain ⟨W8, hW8, hb8, hx8, hs8⟩ := new_obj w7 (.cells (bl D).toArray 22)
    have hS8 := hS7'.out.below hb8
    have HK8 := Lib.hid (HK7.out.below hb8)
    have hp8 := below_at hb8 hx7
    have HX := Lib.hid (fun w' (hw' : Below W8.heap.size W8 w') => And.intro (below_at hw' HK8.out.v) (below_at hw' hx8))
    have HXE := Lib.hid (fun W => eq_bl D V W)
    have HEQ := Lib.hid (fun W => eq_sum qd q W)
    have hs80 : 0 < W8.heap.size := by omega
    clear hS7' HK7 hb8 hx7
    go_wp2_with (first
      | (refine @wpList_loadG _ _ _ _ _ _ _ (by kernel_rfl) 22 (.tmp 70) rfl bs (off + 3 * 130) rfl (bl D) _ hDr undB rfl (size_bl _) ?_; simp only [Act.put, List.setIfInBounds_toArray, List.set_cons_succ, List.set_cons_zero])
      | (refine @wpList_store_row _ _ _ _ _ _ _ rfl 22 (.tmp 13) (.tmp 71) rfl w7.heap.size (bl D).toArray rfl rfl 22 _ (heap_alloc_new w7 _) (size_bl' _) rfl (bl_all _) ?_; rw [World.setRow_alloc_new]; simp only [Act.put]))
    rw [← hW8]
    clear hW8 hDr c0
    have hbh : g + 1 < w7.heap.size := by omega
    generalize w7.heap.size = bh at hx8 hs8 HX hbh ⊢
    have HS8 := Lib.hid hS8
    clear hS8
    refine wp_region_quiet (C := fun w' => Below W8.heap.size W8 w') (by kernel_rfl) (by kernel_rfl) ⟨rfl, rfl, rfl, Nat.le_refl _, fun _ _ => rfl⟩ ?_
    cases x1 : eqB 128 D V with
    | true =>
      rw [x1] at HXE HAG
      refine q_loadB 22 (.tmp 13) rfl rfl bh 0 rfl (bl D) _ (fun w' hw' => row_all (HX.out w' hw').2) undB rfl (size_bl D) ?_
      simp only [Act.put, List.setIfInBounds_toArray, List.set_cons_succ, List.set_cons_zero]
      refine q_loadB 22 (.tmp 2) rfl rfl w.heap.size 0 rfl (bl V) _ (fun w' hw' => row_all (HX.out w' hw').1) undB rfl (size_bl V) ?_
      simp only [Act.put, List.setIfInBounds_toArray, List.set_cons_succ, List.set_cons_zero]
      refine q_neqV 22 _ (.tmp 72) (.tmp 73) rfl rfl ((bl D).toArray) ((bl V).toArray) rfl rfl (true) Pt.guardB (fun w' _ => HXE.out w') ?_
      simp only [Act.put, List.setIfInBounds_toArray, List.set_cons_succ, List.set_cons_zero]
      refine q_move _ rfl rfl ?_
      simp only [Act.put, List.setIfInBounds_toArray, List.set_cons_succ, List.set_cons_zero]
      refine BigFrame.wpQuiet_skip (by kernel_rfl) ?_
      simp only [Act.put, List.setIfInBounds_toArray, List.set_cons_succ, List.set_cons_zero]
      refine BigFrame.wpQuiet_skip (by kernel_rfl) ?_
      simp only [Act.put, List.setIfInBounds_toArray, List.set_cons_succ, List.set_cons_zero]
      refine BigFrame.wpQuiet_skip (by kernel_rfl) ?_
      simp only [Act.put, List.setIfInBounds_toArray, List.set_cons_succ, List.set_cons_zero]
      refine BigFrame.wpQuiet_skip (by kernel_rfl) ?_
      simp only [Act.put, List.setIfInBounds_toArray, List.set_cons_succ, List.set_cons_zero]
      refine BigFrame.wpQuiet_skip (by kernel_rfl) ?_
      simp only [Act.put, List.setIfInBounds_toArray, List.set_cons_succ, List.set_cons_zero]
      refine q_val (.bool false) rfl (fun w' hw' => by go_simp) ?_
      simp only [Act.put, List.setIfInBounds_toArray, List.set_cons_succ, List.set_cons_zero]
      have HHF := HAG.out (.inl rfl)
      refine wpQuiet_nil ?_
      intro w9 hw9
      obtain ⟨hu4, hm4, hh4⟩ := HHF
      obtain ⟨V', h', X5, s', X6, X7, V3, V25, cG, cL, cF, c3, c25, q1, q2, q3⟩ := again_num (w0 := w) HVB.out hu4 hm4 hh4
      rw [hqv] at cG cL
      have CL := Lib.hid cL
      have CF := Lib.hid cF
      have C3 := Lib.hid c3
      have C25 := Lib.hid c25
      have hS9 := HS8.out.below hw9
      have hx9 := below_at hw9 hp8
      have HK9 := Lib.hid (HK8.out.below hw9)
      have hs9 := hw9.size
      have r9 := Pt.row_pt hx9
      clear hu4 hm4 hh4 cL cF c3 c25 HAG HS8 hp8 HK8 hw9 HX HSD HSV HEQ HXE hx8
      go_wp2_with (refine @wpList_loadG _ _ _ _ _ _ _ (by kernel_rfl) 65 (.tmp 8) rfl bp 0 rfl (Pt.pV ⟨3, 25, q⟩) _ r9 Pt.undP rfl (Pt.sizeP _) ?_; simp only [Act.put, List.setIfInBounds_toArray, List.set_cons_succ, List.set_cons_zero])
      refine (cG g (g + 1) w9 hS9).mono ?_
      rintro _ w10 ⟨rfl, hT10, hS10⟩
      have hs10 := hT10.size
      obtain ⟨W11, hW11, hb11, hx11, hs11⟩ := new_obj w10 (.cells (bl V').toArray 22)
      have hS11 := hS10.below hb11
      have hp11 := below_at hb11 (two_at hT10 hx9 (by omega) (by omega))
      have HK11 := Lib.hid ((HK9.out.two hT10 hg (by omega)).below hb11)
      have r11 := Pt.row_pt hp11
      clear hT10 hS10 hb11 hS9 hx9 HK9 cG r9
      dsimp only
      subst hW11
      go_wp2_with (first
        | (refine @wpList_store_row _ _ _ _ _ _ _ rfl 22 (.tmp 14) (.tmp 85) rfl w10.heap.size (bl V').toArray rfl rfl 22 _ (heap_alloc_new w10 _) (size_bl' _) rfl (bl_all _) ?_; rw [World.setRow_alloc_new]; simp only [Act.put])
        | (refine @wpList_loadG _ _ _ _ _ _ _ (by kernel_rfl) 65 (.tmp 8) rfl bp 0 rfl (Pt.pV ⟨3, 25, q⟩) _ r11 Pt.undP rfl (Pt.sizeP _) ?_; simp only [Act.put, List.setIfInBounds_toArray, List.set_cons_succ, List.set_cons_zero]))
      have hv11 : g + 1 < w10.heap.size := by omega
      generalize w10.alloc (.cells (bl V').toArray 22) = W11 at hx11 hs11 hS11 hp11 HK11 ⊢
      generalize w10.heap.size = bv at hx11 hs11 hv11 ⊢
      refine (CL.out g (g + 1) W11 hS11).mono ?_
      rintro _ w12 ⟨rfl, hT12, hS12⟩
      have hs12 := hT12.size
      obtain ⟨W13, hW13, hb13, hx13, hs13⟩ := new_obj w12 (.cells #[.int .i64 2, .int .i64 s', .int .i64 s', .slice none 0 0] 88)
      have hS13 := hS12.below hb13
      have hv13 := below_at hb13 (two_at hT12 hx11 (by omega) (by omega))
      have HK13 := Lib.hid ((HK11.out.two hT12 hg (by omega)).below hb13)
      clear hT12 hS12 hb13 hS11 hp11 hx11 HK11 CL r11
      dsimp only
      go_wp2_with (refine @wpList_store_row _ _ _ _ _ _ _ rfl 88 (.tmp 17) (.tmp 91) rfl w12.heap.size #[.int .i64 2, .int .i64 s', .int .i64 s', .slice none 0 0] rfl rfl 88 _ (heap_alloc_new w12 _) (by kernel_rfl) rfl (rb_one _ _ _) ?_; rw [World.setRow_alloc_new]; simp only [Act.put])
      rw [← hW13]
      clear hW13
      have hr13 : g + 1 < w12.heap.size := by omega
      generalize w12.heap.size = br at hx13 hs13 hr13 ⊢
      refine (CF.out g (g + 1) W13 hS13).mono ?_
      rintro _ w14 ⟨rfl, hT14, hS14⟩
      have hs14 := hT14.size
      have hv14 := two_at hT14 hv13 (by omega) (by omega)
      have hr14 : Rb w14 br 2 s' s' := two_at hT14 hx13 (by omega) (by omega)
      have HK14 := Lib.hid (HK13.out.two hT14 hg (by omega))
      obtain ⟨r0, r1, r2, r3, _, _, _⟩ := hr14.cs
      have rv := row_all hv14
      have rV := row_all HK14.out.v
      have EQ1 := eq_bl V' V w14
      rw [q1] at EQ1
      obtain ⟨pa, cap, ht, hlt⟩ := hS14.t
      obtain ⟨t0, t1⟩ := tab_cells ht
      have hlt' : Lay w14 w14.heap.size g pa 0 cap 2 (prV zF zF) := hlt
      have hz : aM0.gen = 0 ∧ aM0.k = 0 := ⟨rfl, rfl⟩
      rw [hz.1] at t0
      rw [hz.2] at t1
      have HS14 := Lib.hid hS14
      clear hT14 hS13 hx13 hv13 HK13 CF hr14 hv14 ht hlt hz hS14
      dsimp only
      go_wp2_with (first
        | (refine @wpList_loadG _ _ _ _ _ _ _ (by kernel_rfl) 22 (.tmp 14) rfl bv 0 rfl (bl V') _ rv undB rfl (size_bl _) ?_; simp only [Act.put, List.setIfInBounds_toArray, List.set_cons_succ, List.set_cons_zero])
        | (refine @wpList_loadG _ _ _ _ _ _ _ (by kernel_rfl) 22 (.tmp 2) rfl w.heap.size 0 rfl (bl V) _ rV undB rfl (size_bl _) ?_; simp only [Act.put, List.setIfInBounds_toArray, List.set_cons_succ, List.set_cons_zero])
        | fail)
      refine (C3.out g (g + 1) w14 pa cap HS14.out hlt').mono ?_
      rintro _ w15 ⟨rfl, hT15, hS15⟩
      have hs15 := hT15.size
      obtain ⟨W16, hW16, hb16, hx16, hs16⟩ := new_obj w15 (.cells (bl V3).toArray 22)
      have hS16 := hS15.below hb16
      have HK16 := Lib.hid ((HK14.out.two hT15 hg (by omega)).below hb16)
      obtain ⟨pa6, cap6, ht6, hlt6⟩ := hS16.t
      obtain ⟨t0, t1⟩ := tab_cells ht6
      have hlt6' : Lay W16 W16.heap.size g pa6 0 cap6 2 (prV zF zF) := hlt6
      have hz : aM0.gen = 0 ∧ aM0.k = 0 := ⟨rfl, rfl⟩
      rw [hz.1] at t0
      rw [hz.2] at t1
      have HS16 := Lib.hid hS16
      clear hT15 hS15 hb16 HK14 C3 HS14 hlt' r0 r1 r2 r3 rv rV EQ1 ht6 hlt6 hz hS16
      dsimp only
      subst hW16
      go_wp2_with (refine @wpList_store_row _ _ _ _ _ _ _ rfl 22 (.tmp 20) (.tmp 124) rfl w15.heap.size (bl V3).toArray rfl rfl 22 _ (heap_alloc_new w15 _) (size_bl' _) rfl (bl_all _) ?_; rw [World.setRow_alloc_new]; simp only [Act.put])
      have hv16 : g + 1 < w15.heap.size := by omega
      generalize w15.alloc (.cells (bl V3).toArray 22) = W16 at hx16 hs16 HS16 HK16 hlt6' ⊢
      generalize w15.heap.size = b3 at hx16 hs16 hv16 ⊢
      refine (C25.out g (g + 1) W16 pa6 cap6 HS16.out hlt6').mono ?_
      rintro _ w17 ⟨rfl, hT17, hS17⟩
      obtain ⟨W18, hW18, hb18, hx18, hs18⟩ := new_obj w17 (.cells (bl V25).toArray 22)
      have hS18 := hS17.below hb18
      have HK18 := Lib.hid ((HK16.out.two hT17 hg (by omega)).below hb18)
      have hv18 := below_at hb18 (two_at hT17 hx16 (by omega) (by omega))
      have ra := row_all hv18
      have rb := row_all hx18
      have rV := row_all HK18.out.v
      have EQ2 := eq_bl V3 V
      have EQ3 := eq_bl V25 V
      rw [q2] at EQ2
      rw [q3] at EQ3
      have hBE := hS18.be
      clear hT17 hS17 hb18 HK16 C25 HS16 hlt6' hx16 hv18 hx18 hS18
      dsimp only
      subst hW18
      go_wp2_with (first
        | (refine @wpList_store_row _ _ _ _ _ _ _ rfl 22 (.tmp 22) (.tmp 129) rfl w17.heap.size (bl V25).toArray rfl rfl 22 _ (heap_alloc_new w17 _) (size_bl' _) rfl (bl_all _) ?_; rw [World.setRow_alloc_new]; simp only [Act.put])
        | (refine @wpList_loadG _ _ _ _ _ _ _ (by kernel_rfl) 22 (.tmp 20) rfl b3 0 rfl (bl V3) _ ra undB rfl (size_bl _) ?_; simp only [Act.put, List.setIfInBounds_toArray, List.set_cons_succ, List.set_cons_zero])
        | (refine @wpList_loadG _ _ _ _ _ _ _ (by kernel_rfl) 22 (.tmp 22) rfl w17.heap.size 0 rfl (bl V25) _ rb undB rfl (size_bl _) ?_; simp only [Act.put, List.setIfInBounds_toArray, List.set_cons_succ, List.set_cons_zero])
        | (refine @wpList_loadG _ _ _ _ _ _ _ (by kernel_rfl) 22 (.tmp 2) rfl w.heap.size 0 rfl (bl V) _ rV undB rfl (size_bl _) ?_; simp only [Act.put, List.setIfInBounds_toArray, List.set_cons_succ, List.set_cons_zero])
        | fail)
      go_ret
      exact ⟨rfl, hBE⟩
    | false =>
      rw [x1] at HXE HAG
      cases x2 : eqB 32 qd q with
      | true =>
        rw [x2] at HEQ
        refine q_loadB 22 (.tmp 13) rfl rfl bh 0 rfl (bl D) _ (fun w' hw' => row_all (HX.out w' hw').2) undB rfl (size_bl D) ?_
        simp only [Act.put, List.setIfInBounds_toArray, List.set_cons_succ, List.set_cons_zero]
        refine q_loadB 22 (.tmp 2) rfl rfl w.heap.size 0 rfl (bl V) _ (fun w' hw' => row_all (HX.out w' hw').1) undB rfl (size_bl V) ?_
        simp only [Act.put, List.setIfInBounds_toArray, List.set_cons_succ, List.set_cons_zero]
        refine q_neqV 22 _ (.tmp 72) (.tmp 73) rfl rfl ((bl D).toArray) ((bl V).toArray) rfl rfl (false) Pt.guardB (fun w' _ => HXE.out w') ?_
        simp only [Act.put, List.setIfInBounds_toArray, List.set_cons_succ, List.set_cons_zero]
        refine q_move _ rfl rfl ?_
        simp only [Act.put, List.setIfInBounds_toArray, List.set_cons_succ, List.set_cons_zero]
        refine q_val (.slice (some ⟨bh, 0, none⟩) 128 128) (by kernel_rfl) (fun w' hw' => by go_simp) ?_
        simp only [Act.put, List.setIfInBounds_toArray, List.set_cons_succ, List.set_cons_zero]
        refine q_call 41 _ (.agg (Sha.arr 32 (Sha.vu8 qd))) (by kernel_rfl) (fun w' => by go_simp) (fun w' hw' => (HSD.out w' bh (Pt.row_of (HX.out w' hw').2) (by have := hw'.size; omega)).mono fun e w'' ⟨he, hb⟩ => ⟨he, hw'.trans (hb.mono hw'.size)⟩) ?_
        simp only [Act.put, List.setIfInBounds_toArray, List.set_cons_succ, List.set_cons_zero]
        refine q_val (.slice (some ⟨w.heap.size, 0, none⟩) 128 128) (by kernel_rfl) (fun w' hw' => by go_simp) ?_
        simp only [Act.put, List.setIfInBounds_toArray, List.set_cons_succ, List.set_cons_zero]
        refine q_call 41 _ (.agg (Sha.arr 32 (Sha.vu8 q))) (by kernel_rfl) (fun w' => by go_simp) (fun w' hw' => (HSV.out w' w.heap.size (Pt.row_of (HX.out w' hw').1) (by have := hw'.size; omega)).mono fun e w'' ⟨he, hb⟩ => ⟨he, hw'.trans (hb.mono hw'.size)⟩) ?_
        simp only [Act.put, List.setIfInBounds_toArray, List.set_cons_succ, List.set_cons_zero]
        refine q_eqlV 63 _ (.tmp 77) (.tmp 79) rfl (by kernel_rfl) (Sha.arr 32 (Sha.vu8 qd)) (Sha.arr 32 (Sha.vu8 q)) rfl rfl true Pt.guardS (fun w' _ => HEQ.out w') ?_
        simp only [Act.put, List.setIfInBounds_toArray, List.set_cons_succ, List.set_cons_zero]
        refine q_val (.bool true) rfl (fun w' hw' => by go_simp) ?_
        simp only [Act.put, List.setIfInBounds_toArray, List.set_cons_succ, List.set_cons_zero]
        refine wpQuiet_nil ?_
        intro w9 hw9
        go_wp2_with fail
        go_ret
        exact ⟨rfl, HS8.out.be.trans (hw9.mono HS8.out.be.size)⟩
      | false =>
        rw [x2] at HEQ
        refine q_loadB 22 (.tmp 13) rfl rfl bh 0 rfl (bl D) _ (fun w' hw' => row_all (HX.out w' hw').2) undB rfl (size_bl D) ?_
        simp only [Act.put, List.setIfInBounds_toArray, List.set_cons_succ, List.set_cons_zero]
        refine q_loadB 22 (.tmp 2) rfl rfl w.heap.size 0 rfl (bl V) _ (fun w' hw' => row_all (HX.out w' hw').1) undB rfl (size_bl V) ?_
        simp only [Act.put, List.setIfInBounds_toArray, List.set_cons_succ, List.set_cons_zero]
        refine q_neqV 22 _ (.tmp 72) (.tmp 73) rfl rfl ((bl D).toArray) ((bl V).toArray) rfl rfl (false) Pt.guardB (fun w' _ => HXE.out w') ?_
        simp only [Act.put, List.setIfInBounds_toArray, List.set_cons_succ, List.set_cons_zero]
        refine q_move _ rfl rfl ?_
        simp only [Act.put, List.setIfInBounds_toArray, List.set_cons_succ, List.set_cons_zero]
        refine q_val (.slice (some ⟨bh, 0, none⟩) 128 128) (by kernel_rfl) (fun w' hw' => by go_simp) ?_
        simp only [Act.put, List.setIfInBounds_toArray, List.set_cons_succ, List.set_cons_zero]
        refine q_call 41 _ (.agg (Sha.arr 32 (Sha.vu8 qd))) (by kernel_rfl) (fun w' => by go_simp) (fun w' hw' => (HSD.out w' bh (Pt.row_of (HX.out w' hw').2) (by have := hw'.size; omega)).mono fun e w'' ⟨he, hb⟩ => ⟨he, hw'.trans (hb.mono hw'.size)⟩) ?_
        simp only [Act.put, List.setIfInBounds_toArray, List.set_cons_succ, List.set_cons_zero]
        refine q_val (.slice (some ⟨w.heap.size, 0, none⟩) 128 128) (by kernel_rfl) (fun w' hw' => by go_simp) ?_
        simp only [Act.put, List.setIfInBounds_toArray, List.set_cons_succ, List.set_cons_zero]
        refine q_call 41 _ (.agg (Sha.arr 32 (Sha.vu8 q))) (by kernel_rfl) (fun w' => by go_simp) (fun w' hw' => (HSV.out w' w.heap.size (Pt.row_of (HX.out w' hw').1) (by have := hw'.size; omega)).mono fun e w'' ⟨he, hb⟩ => ⟨he, hw'.trans (hb.mono hw'.size)⟩) ?_
        simp only [Act.put, List.setIfInBounds_toArray, List.set_cons_succ, List.set_cons_zero]
        refine q_eqlV 63 _ (.tmp 77) (.tmp 79) rfl (by kernel_rfl) (Sha.arr 32 (Sha.vu8 qd)) (Sha.arr 32 (Sha.vu8 q)) rfl rfl false Pt.guardS (fun w' _ => HEQ.out w') ?_
        simp only [Act.put, List.setIfInBounds_toArray, List.set_cons_succ, List.set_cons_zero]
        refine q_val (.bool false) rfl (fun w' hw' => by go_simp) ?_
        simp only [Act.put, List.setIfInBounds_toArray, List.set_cons_succ, List.set_cons_zero]
        have HHF := HAG.out (.inr x2)
        refine wpQuiet_nil ?_
        intro w9 hw9
        obtain ⟨hu4, hm4, hh4⟩ := HHF
        obtain ⟨V', h', X5, s', X6, X7, V3, V25, cG, cL, cF, c3, c25, q1, q2, q3⟩ := again_num (w0 := w) HVB.out hu4 hm4 hh4
        rw [hqv] at cG cL
        have CL := Lib.hid cL
        have CF := Lib.hid cF
        have C3 := Lib.hid c3
        have C25 := Lib.hid c25
        have hS9 := HS8.out.below hw9
        have hx9 := below_at hw9 hp8
        have HK9 := Lib.hid (HK8.out.below hw9)
        have hs9 := hw9.size
        have r9 := Pt.row_pt hx9
        clear hu4 hm4 hh4 cL cF c3 c25 HAG HS8 hp8 HK8 hw9 HX HSD HSV HEQ HXE hx8
        go_wp2_with (refine @wpList_loadG _ _ _ _ _ _ _ (by kernel_rfl) 65 (.tmp 8) rfl bp 0 rfl (Pt.pV ⟨3, 25, q⟩) _ r9 Pt.undP rfl (Pt.sizeP _) ?_; simp only [Act.put, List.setIfInBounds_toArray, List.set_cons_succ, List.set_cons_zero])
        refine (cG g (g + 1) w9 hS9).mono ?_
        rintro _ w10 ⟨rfl, hT10, hS10⟩
        have hs10 := hT10.size
        obtain ⟨W11, hW11, hb11, hx11, hs11⟩ := new_obj w10 (.cells (bl V').toArray 22)
        have hS11 := hS10.below hb11
        have hp11 := below_at hb11 (two_at hT10 hx9 (by omega) (by omega))
        have HK11 := Lib.hid ((HK9.out.two hT10 hg (by omega)).below hb11)
        have r11 := Pt.row_pt hp11
        clear hT10 hS10 hb11 hS9 hx9 HK9 cG r9
        dsimp only
        subst hW11
        go_wp2_with (first
          | (refine @wpList_store_row _ _ _ _ _ _ _ rfl 22 (.tmp 14) (.tmp 85) rfl w10.heap.size (bl V').toArray rfl rfl 22 _ (heap_alloc_new w10 _) (size_bl' _) rfl (bl_all _) ?_; rw [World.setRow_alloc_new]; simp only [Act.put])
          | (refine @wpList_loadG _ _ _ _ _ _ _ (by kernel_rfl) 65 (.tmp 8) rfl bp 0 rfl (Pt.pV ⟨3, 25, q⟩) _ r11 Pt.undP rfl (Pt.sizeP _) ?_; simp only [Act.put, List.setIfInBounds_toArray, List.set_cons_succ, List.set_cons_zero]))
        have hv11 : g + 1 < w10.heap.size := by omega
        generalize w10.alloc (.cells (bl V').toArray 22) = W11 at hx11 hs11 hS11 hp11 HK11 ⊢
        generalize w10.heap.size = bv at hx11 hs11 hv11 ⊢
        refine (CL.out g (g + 1) W11 hS11).mono ?_
        rintro _ w12 ⟨rfl, hT12, hS12⟩
        have hs12 := hT12.size
        obtain ⟨W13, hW13, hb13, hx13, hs13⟩ := new_obj w12 (.cells #[.int .i64 2, .int .i64 s', .int .i64 s', .slice none 0 0] 88)
        have hS13 := hS12.below hb13
        have hv13 := below_at hb13 (two_at hT12 hx11 (by omega) (by omega))
        have HK13 := Lib.hid ((HK11.out.two hT12 hg (by omega)).below hb13)
        clear hT12 hS12 hb13 hS11 hp11 hx11 HK11 CL r11
        dsimp only
        go_wp2_with (refine @wpList_store_row _ _ _ _ _ _ _ rfl 88 (.tmp 17) (.tmp 91) rfl w12.heap.size #[.int .i64 2, .int .i64 s', .int .i64 s', .slice none 0 0] rfl rfl 88 _ (heap_alloc_new w12 _) (by kernel_rfl) rfl (rb_one _ _ _) ?_; rw [World.setRow_alloc_new]; simp only [Act.put])
        rw [← hW13]
        clear hW13
        have hr13 : g + 1 < w12.heap.size := by omega
        generalize w12.heap.size = br at hx13 hs13 hr13 ⊢
        refine (CF.out g (g + 1) W13 hS13).mono ?_
        rintro _ w14 ⟨rfl, hT14, hS14⟩
        have hs14 := hT14.size
        have hv14 := two_at hT14 hv13 (by omega) (by omega)
        have hr14 : Rb w14 br 2 s' s' := two_at hT14 hx13 (by omega) (by omega)
        have HK14 := Lib.hid (HK13.out.two hT14 hg (by omega))
        obtain ⟨r0, r1, r2, r3, _, _, _⟩ := hr14.cs
        have rv := row_all hv14
        have rV := row_all HK14.out.v
        have EQ1 := eq_bl V' V w14
        rw [q1] at EQ1
        obtain ⟨pa, cap, ht, hlt⟩ := hS14.t
        obtain ⟨t0, t1⟩ := tab_cells ht
        have hlt' : Lay w14 w14.heap.size g pa 0 cap 2 (prV zF zF) := hlt
        have hz : aM0.gen = 0 ∧ aM0.k = 0 := ⟨rfl, rfl⟩
        rw [hz.1] at t0
        rw [hz.2] at t1
        have HS14 := Lib.hid hS14
        clear hT14 hS13 hx13 hv13 HK13 CF hr14 hv14 ht hlt hz hS14
        dsimp only
        go_wp2_with (first
          | (refine @wpList_loadG _ _ _ _ _ _ _ (by kernel_rfl) 22 (.tmp 14) rfl bv 0 rfl (bl V') _ rv undB rfl (size_bl _) ?_; simp only [Act.put, List.setIfInBounds_toArray, List.set_cons_succ, List.set_cons_zero])
          | (refine @wpList_loadG _ _ _ _ _ _ _ (by kernel_rfl) 22 (.tmp 2) rfl w.heap.size 0 rfl (bl V) _ rV undB rfl (size_bl _) ?_; simp only [Act.put, List.setIfInBounds_toArray, List.set_cons_succ, List.set_cons_zero])
          | fail)
        refine (C3.out g (g + 1) w14 pa cap HS14.out hlt').mono ?_
        rintro _ w15 ⟨rfl, hT15, hS15⟩
        have hs15 := hT15.size
        obtain ⟨W16, hW16, hb16, hx16, hs16⟩ := new_obj w15 (.cells (bl V3).toArray 22)
        have hS16 := hS15.below hb16
        have HK16 := Lib.hid ((HK14.out.two hT15 hg (by omega)).below hb16)
        obtain ⟨pa6, cap6, ht6, hlt6⟩ := hS16.t
        obtain ⟨t0, t1⟩ := tab_cells ht6
        have hlt6' : Lay W16 W16.heap.size g pa6 0 cap6 2 (prV zF zF) := hlt6
        have hz : aM0.gen = 0 ∧ aM0.k = 0 := ⟨rfl, rfl⟩
        rw [hz.1] at t0
        rw [hz.2] at t1
        have HS16 := Lib.hid hS16
        clear hT15 hS15 hb16 HK14 C3 HS14 hlt' r0 r1 r2 r3 rv rV EQ1 ht6 hlt6 hz hS16
        dsimp only
        subst hW16
        go_wp2_with (refine @wpList_store_row _ _ _ _ _ _ _ rfl 22 (.tmp 20) (.tmp 124) rfl w15.heap.size (bl V3).toArray rfl rfl 22 _ (heap_alloc_new w15 _) (size_bl' _) rfl (bl_all _) ?_; rw [World.setRow_alloc_new]; simp only [Act.put])
        have hv16 : g + 1 < w15.heap.size := by omega
        generalize w15.alloc (.cells (bl V3).toArray 22) = W16 at hx16 hs16 HS16 HK16 hlt6' ⊢
        generalize w15.heap.size = b3 at hx16 hs16 hv16 ⊢
        refine (C25.out g (g + 1) W16 pa6 cap6 HS16.out hlt6').mono ?_
        rintro _ w17 ⟨rfl, hT17, hS17⟩
        obtain ⟨W18, hW18, hb18, hx18, hs18⟩ := new_obj w17 (.cells (bl V25).toArray 22)
        have hS18 := hS17.below hb18
        have HK18 := Lib.hid ((HK16.out.two hT17 hg (by omega)).below hb18)
        have hv18 := below_at hb18 (two_at hT17 hx16 (by omega) (by omega))
        have ra := row_all hv18
        have rb := row_all hx18
        have rV := row_all HK18.out.v
        have EQ2 := eq_bl V3 V
        have EQ3 := eq_bl V25 V
        rw [q2] at EQ2
        rw [q3] at EQ3
        have hBE := hS18.be
        clear hT17 hS17 hb18 HK16 C25 HS16 hlt6' hx16 hv18 hx18 hS18
        dsimp only
        subst hW18
        go_wp2_with (first
          | (refine @wpList_store_row _ _ _ _ _ _ _ rfl 22 (.tmp 22) (.tmp 129) rfl w17.heap.size (bl V25).toArray rfl rfl 22 _ (heap_alloc_new w17 _) (size_bl' _) rfl (bl_all _) ?_; rw [World.setRow_alloc_new]; simp only [Act.put])
          | (refine @wpList_loadG _ _ _ _ _ _ _ (by kernel_rfl) 22 (.tmp 20) rfl b3 0 rfl (bl V3) _ ra undB rfl (size_bl _) ?_; simp only [Act.put, List.setIfInBounds_toArray, List.set_cons_succ, List.set_cons_zero])
          | (refine @wpList_loadG _ _ _ _ _ _ _ (by kernel_rfl) 22 (.tmp 22) rfl w17.heap.size 0 rfl (bl V25) _ rb undB rfl (size_bl _) ?_; simp only [Act.put, List.setIfInBounds_toArray, List.set_cons_succ, List.set_cons_zero])
          | (refine @wpList_loadG _ _ _ _ _ _ _ (by kernel_rfl) 22 (.tmp 2) rfl w.heap.size 0 rfl (bl V) _ rV undB rfl (size_bl _) ?_; simp only [Act.put, List.setIfInBounds_toArray, List.set_cons_succ, List.set_cons_zero])
          | fail)
        go_ret
        exact ⟨rfl, hBE⟩
  | true =>
    have hSx : Sx 25 := .inr rfl
    have hbd := hSx.bd
    have hD := hit_byt (y := y) hV hSx (blow_hits (kd := kd) (pl := pl))
    have HHI := Lib.hid (fun g b w3 (hS : LwS w g b (cX3 V) w3) => lhit hS hup3 hm3 25 (1 + kd % 3) (pl % 128) y hbd blow_hits)
    unfold LwD at HHI
    have HAG := Lib.hid (fun hD => again_hit (V := V) hV hSx (blow_hits (kd := kd) (pl := pl)) (y := y) hD)
    have HSD := Lib.hid (fun (W : World) (g : Nat) (hr : Row W g 0 128 ((hX (cX3 V) 25 (1 + kd % 3) (pl % 128) y).S (25 : Int).toNat).data) (hz : 0 < W.heap.size) => Pt.refsum_row hr hD hz)
    have HVB := Lib.hid hV
    have hSS : (hX (cX3 V) 25 (1 + kd % 3) (pl % 128) y).S (25 : Int).toNat = (hX (cX3 V) 25 (1 + kd % 3) (pl % 128) y).S 25 := rfl
    clear hup3 hm3 hV hD hbd hSx
    generalize hX (cX3 V) 25 (1 + kd % 3) (pl % 128) y = X4 at HHI HAG HSD hSS
    rw [hSS] at HAG HSD
    clear hSS
    obtain ⟨D, hDD⟩ : ∃ D, (X4.S 25).data = D := ⟨_, rfl⟩
    rw [hDD] at HAG HSD
    generalize cX2 V = X2 at HPUT HFL
    generalize cX3 V = X3 at HFL HHI
    generalize hqd : Pt.sumD D = qd at HSD HAG
    generalize hqv : Pt.sumD V = q at HSV HAG HPUT
    go_enter Tryd.func9, Tryd.ntmps9
    go_wp2_with fail
    rw [← hW]
    clear hW
    refine (alive6_any W (HK.out W hB0)).mono ?_
    rintro _ w1 ⟨rfl, hb1⟩
    have hB1 := hB0.trans (hb1.mono hB0.size)
    have HK1 := Lib.hid (HKE.out.below hb1)
    have hs1 := hb1.size
    clear hb1 HKE hB0
    dsimp only
    go_wp2_with fail
    refine (fresh_any w1 (HK.out w1 hB1)).mono ?_
    rintro _ w2 ⟨hb2, sa, sc, ca, cc, rfl, hs, hc⟩
    have hB2 := hB1.trans (hb2.mono hB1.size)
    obtain ⟨a0, a1, W3, hW3, hb3, hS3, hs3⟩ := law_start hB2 HK0.out hs hc
    have HK3 := Lib.hid ((HK1.out.below hb2).below hb3)
    have hg : w.heap.size + 1 < w2.heap.size := by have := hb2.size; omega
    have r3 := row_all HK3.out.v
    clear hs hc hb2 hB1 hB2 HK1
    dsimp only
    subst hW3
    go_wp2_with (first
      | (refine @wpList_store_row _ _ _ _ _ _ _ rfl 35 (.tmp 5) (.tmp 28) rfl w2.heap.size #[.slice sa 60 sc, .slice ca 0 cc, .int .i64 (-1), .bool false] rfl rfl 35 _ a0 (by kernel_rfl) rfl (disk_one _ _ _ _ _ _ _ _) ?_; simp only [Act.put])
      | (refine @wpList_store_row _ _ _ _ _ _ _ rfl 26 (.tmp 6) (.tmp 29) rfl (w2.heap.size + 1) zM rfl rfl 26 _ a1 (by kernel_rfl) rfl rm_one ?_; simp only [Act.put])
      | (refine @wpList_loadG _ _ _ _ _ _ _ (by kernel_rfl) 22 (.tmp 2) rfl w.heap.size 0 rfl (bl V) _ r3 undB rfl (size_bl _) ?_; simp only [Act.put, List.setIfInBounds_toArray, List.set_cons_succ, List.set_cons_zero]))
    generalize ((((w2.alloc (.cells zD 35)).alloc (.cells zM 26)).setRow w2.heap.size #[.slice sa 60 sc, .slice ca 0 cc, .int .i64 (-1), .bool false]).setRow (w2.heap.size + 1) zM) = W3 at hS3 hs3 HK3 ⊢
    clear a0 a1 hb3 r3
    generalize w2.heap.size = g at hS3 hs3 hg ⊢
    refine (HPUT.out g (g + 1) W3 hS3).mono ?_
    rintro _ w4 ⟨rfl, hT4, hS4⟩
    have hs4 := hT4.size
    obtain ⟨W5, hW5, hb5, hx5, hs5⟩ := new_obj w4 (.cells (Pt.pV ⟨3, 25, q⟩).toArray 65)
    have HK5 := Lib.hid ((HK3.out.two hT4 hg (by omega)).below hb5)
    have hS5 := hS4.below hb5
    clear hT4 hS4 hb5 HPUT hS3 HK3
    dsimp only
    go_wp2_with (refine @wpList_store_row _ _ _ _ _ _ _ rfl 65 (.tmp 8) (.tmp 34) rfl w4.heap.size (Pt.pV ⟨3, 25, q⟩).toArray rfl rfl 65 _ (heap_alloc_new w4 _) (Pt.sizeP' _) rfl (Pt.pV_all _) ?_; rw [World.setRow_alloc_new]; simp only [Act.put])
    rw [← hW5]
    clear hW5
    have hpg : g + 1 < w4.heap.size := by omega
    generalize w4.heap.size = bp at hx5 hs5 hpg ⊢
    refine (HFL.out g (g + 1) W5 hS5).mono ?_
    rintro _ w6 ⟨rfl, hT6, hS6⟩
    have hx6 := two_at hT6 hx5 (by omega) (by omega)
    have HK6 := Lib.hid (HK5.out.two hT6 hg (by omega))
    have hs6 := hT6.size
    obtain ⟨l0, l1, l2, l3⟩ := blow_cells HK6.out.l
    clear hT6 hx5 hS5 HFL HK5
    dsimp only
    go_wp2_with fail
    refine (HHI.out g (g + 1) w6 hS6).mono ?_
    rintro _ w7 ⟨rfl, hT7, hS7⟩
    have hx7 := two_at hT7 hx6 (by omega) (by omega)
    have HK7 := Lib.hid (HK6.out.two hT7 hg (by omega))
    have hs7 := hT7.size
    obtain ⟨sa7, sc7, ca7, cc7, hH7⟩ := hS7.d
    obtain ⟨bs, off, rfl, hbs, hbg, hrow⟩ := hH7.ss.rows.resolve_left (by omega)
    have hDr := sec_data (hrow 25 (by omega))
    rw [hDD] at hDr
    have c0 := hH7.bx.c0
    have hS7' := Lib.hid hS7
    clear hT7 hx6 hS6 HHI HK6 l0 l1 l2 l3 hH7 hrow hS7 hDD
    dsimp only
    obtain ⟨W8, hW8, hb8, hx8, hs8⟩ := new_obj w7 (.cells (bl D).toArray 22)
    have hS8 := hS7'.out.below hb8
    have HK8 := Lib.hid (HK7.out.below hb8)
    have hp8 := below_at hb8 hx7
    have HX := Lib.hid (fun w' (hw' : Below W8.heap.size W8 w') => And.intro (below_at hw' HK8.out.v) (below_at hw' hx8))
    have HXE := Lib.hid (fun W => eq_bl D V W)
    have HEQ := Lib.hid (fun W => eq_sum qd q W)
    have hs80 : 0 < W8.heap.size := by omega
    clear hS7' HK7 hb8 hx7
    go_wp2_with (first
      | (refine @wpList_loadG _ _ _ _ _ _ _ (by kernel_rfl) 22 (.tmp 70) rfl bs (off + 25 * 130) rfl (bl D) _ hDr undB rfl (size_bl _) ?_; simp only [Act.put, List.setIfInBounds_toArray, List.set_cons_succ, List.set_cons_zero])
      | (refine @wpList_store_row _ _ _ _ _ _ _ rfl 22 (.tmp 13) (.tmp 71) rfl w7.heap.size (bl D).toArray rfl rfl 22 _ (heap_alloc_new w7 _) (size_bl' _) rfl (bl_all _) ?_; rw [World.setRow_alloc_new]; simp only [Act.put]))
    rw [← hW8]
    clear hW8 hDr c0
    have hbh : g + 1 < w7.heap.size := by omega
    generalize w7.heap.size = bh at hx8 hs8 HX hbh ⊢
    have HS8 := Lib.hid hS8
    clear hS8
    refine wp_region_quiet (C := fun w' => Below W8.heap.size W8 w') (by kernel_rfl) (by kernel_rfl) ⟨rfl, rfl, rfl, Nat.le_refl _, fun _ _ => rfl⟩ ?_
    cases x1 : eqB 128 D V with
    | true =>
      rw [x1] at HXE HAG
      refine q_loadB 22 (.tmp 13) rfl rfl bh 0 rfl (bl D) _ (fun w' hw' => row_all (HX.out w' hw').2) undB rfl (size_bl D) ?_
      simp only [Act.put, List.setIfInBounds_toArray, List.set_cons_succ, List.set_cons_zero]
      refine q_loadB 22 (.tmp 2) rfl rfl w.heap.size 0 rfl (bl V) _ (fun w' hw' => row_all (HX.out w' hw').1) undB rfl (size_bl V) ?_
      simp only [Act.put, List.setIfInBounds_toArray, List.set_cons_succ, List.set_cons_zero]
      refine q_neqV 22 _ (.tmp 72) (.tmp 73) rfl rfl ((bl D).toArray) ((bl V).toArray) rfl rfl (true) Pt.guardB (fun w' _ => HXE.out w') ?_
      simp only [Act.put, List.setIfInBounds_toArray, List.set_cons_succ, List.set_cons_zero]
      refine q_move _ rfl rfl ?_
      simp only [Act.put, List.setIfInBounds_toArray, List.set_cons_succ, List.set_cons_zero]
      refine BigFrame.wpQuiet_skip (by kernel_rfl) ?_
      simp only [Act.put, List.setIfInBounds_toArray, List.set_cons_succ, List.set_cons_zero]
      refine BigFrame.wpQuiet_skip (by kernel_rfl) ?_
      simp only [Act.put, List.setIfInBounds_toArray, List.set_cons_succ, List.set_cons_zero]
      refine BigFrame.wpQuiet_skip (by kernel_rfl) ?_
      simp only [Act.put, List.setIfInBounds_toArray, List.set_cons_succ, List.set_cons_zero]
      refine BigFrame.wpQuiet_skip (by kernel_rfl) ?_
      simp only [Act.put, List.setIfInBounds_toArray, List.set_cons_succ, List.set_cons_zero]
      refine BigFrame.wpQuiet_skip (by kernel_rfl) ?_
      simp only [Act.put, List.setIfInBounds_toArray, List.set_cons_succ, List.set_cons_zero]
      refine q_val (.bool false) rfl (fun w' hw' => by go_simp) ?_
      simp only [Act.put, List.setIfInBounds_toArray, List.set_cons_succ, List.set_cons_zero]
      have HHF := HAG.out (.inl rfl)
      refine wpQuiet_nil ?_
      intro w9 hw9
      obtain ⟨hu4, hm4, hh4⟩ := HHF
      obtain ⟨V', h', X5, s', X6, X7, V3, V25, cG, cL, cF, c3, c25, q1, q2, q3⟩ := again_num (w0 := w) HVB.out hu4 hm4 hh4
      rw [hqv] at cG cL
      have CL := Lib.hid cL
      have CF := Lib.hid cF
      have C3 := Lib.hid c3
      have C25 := Lib.hid c25
      have hS9 := HS8.out.below hw9
      have hx9 := below_at hw9 hp8
      have HK9 := Lib.hid (HK8.out.below hw9)
      have hs9 := hw9.size
      have r9 := Pt.row_pt hx9
      clear hu4 hm4 hh4 cL cF c3 c25 HAG HS8 hp8 HK8 hw9 HX HSD HSV HEQ HXE hx8
      go_wp2_with (refine @wpList_loadG _ _ _ _ _ _ _ (by kernel_rfl) 65 (.tmp 8) rfl bp 0 rfl (Pt.pV ⟨3, 25, q⟩) _ r9 Pt.undP rfl (Pt.sizeP _) ?_; simp only [Act.put, List.setIfInBounds_toArray, List.set_cons_succ, List.set_cons_zero])
      refine (cG g (g + 1) w9 hS9).mono ?_
      rintro _ w10 ⟨rfl, hT10, hS10⟩
      have hs10 := hT10.size
      obtain ⟨W11, hW11, hb11, hx11, hs11⟩ := new_obj w10 (.cells (bl V').toArray 22)
      have hS11 := hS10.below hb11
      have hp11 := below_at hb11 (two_at hT10 hx9 (by omega) (by omega))
      have HK11 := Lib.hid ((HK9.out.two hT10 hg (by omega)).below hb11)
      have r11 := Pt.row_pt hp11
      clear hT10 hS10 hb11 hS9 hx9 HK9 cG r9
      dsimp only
      subst hW11
      go_wp2_with (first
        | (refine @wpList_store_row _ _ _ _ _ _ _ rfl 22 (.tmp 14) (.tmp 85) rfl w10.heap.size (bl V').toArray rfl rfl 22 _ (heap_alloc_new w10 _) (size_bl' _) rfl (bl_all _) ?_; rw [World.setRow_alloc_new]; simp only [Act.put])
        | (refine @wpList_loadG _ _ _ _ _ _ _ (by kernel_rfl) 65 (.tmp 8) rfl bp 0 rfl (Pt.pV ⟨3, 25, q⟩) _ r11 Pt.undP rfl (Pt.sizeP _) ?_; simp only [Act.put, List.setIfInBounds_toArray, List.set_cons_succ, List.set_cons_zero]))
      have hv11 : g + 1 < w10.heap.size := by omega
      generalize w10.alloc (.cells (bl V').toArray 22) = W11 at hx11 hs11 hS11 hp11 HK11 ⊢
      generalize w10.heap.size = bv at hx11 hs11 hv11 ⊢
      refine (CL.out g (g + 1) W11 hS11).mono ?_
      rintro _ w12 ⟨rfl, hT12, hS12⟩
      have hs12 := hT12.size
      obtain ⟨W13, hW13, hb13, hx13, hs13⟩ := new_obj w12 (.cells #[.int .i64 2, .int .i64 s', .int .i64 s', .slice none 0 0] 88)
      have hS13 := hS12.below hb13
      have hv13 := below_at hb13 (two_at hT12 hx11 (by omega) (by omega))
      have HK13 := Lib.hid ((HK11.out.two hT12 hg (by omega)).below hb13)
      clear hT12 hS12 hb13 hS11 hp11 hx11 HK11 CL r11
      dsimp only
      go_wp2_with (refine @wpList_store_row _ _ _ _ _ _ _ rfl 88 (.tmp 17) (.tmp 91) rfl w12.heap.size #[.int .i64 2, .int .i64 s', .int .i64 s', .slice none 0 0] rfl rfl 88 _ (heap_alloc_new w12 _) (by kernel_rfl) rfl (rb_one _ _ _) ?_; rw [World.setRow_alloc_new]; simp only [Act.put])
      rw [← hW13]
      clear hW13
      have hr13 : g + 1 < w12.heap.size := by omega
      generalize w12.heap.size = br at hx13 hs13 hr13 ⊢
      refine (CF.out g (g + 1) W13 hS13).mono ?_
      rintro _ w14 ⟨rfl, hT14, hS14⟩
      have hs14 := hT14.size
      have hv14 := two_at hT14 hv13 (by omega) (by omega)
      have hr14 : Rb w14 br 2 s' s' := two_at hT14 hx13 (by omega) (by omega)
      have HK14 := Lib.hid (HK13.out.two hT14 hg (by omega))
      obtain ⟨r0, r1, r2, r3, _, _, _⟩ := hr14.cs
      have rv := row_all hv14
      have rV := row_all HK14.out.v
      have EQ1 := eq_bl V' V w14
      rw [q1] at EQ1
      obtain ⟨pa, cap, ht, hlt⟩ := hS14.t
      obtain ⟨t0, t1⟩ := tab_cells ht
      have hlt' : Lay w14 w14.heap.size g pa 0 cap 2 (prV zF zF) := hlt
      have hz : aM0.gen = 0 ∧ aM0.k = 0 := ⟨rfl, rfl⟩
      rw [hz.1] at t0
      rw [hz.2] at t1
      have HS14 := Lib.hid hS14
      clear hT14 hS13 hx13 hv13 HK13 CF hr14 hv14 ht hlt hz hS14
      dsimp only
      go_wp2_with (first
        | (refine @wpList_loadG _ _ _ _ _ _ _ (by kernel_rfl) 22 (.tmp 14) rfl bv 0 rfl (bl V') _ rv undB rfl (size_bl _) ?_; simp only [Act.put, List.setIfInBounds_toArray, List.set_cons_succ, List.set_cons_zero])
        | (refine @wpList_loadG _ _ _ _ _ _ _ (by kernel_rfl) 22 (.tmp 2) rfl w.heap.size 0 rfl (bl V) _ rV undB rfl (size_bl _) ?_; simp only [Act.put, List.setIfInBounds_toArray, List.set_cons_succ, List.set_cons_zero])
        | fail)
      refine (C3.out g (g + 1) w14 pa cap HS14.out hlt').mono ?_
      rintro _ w15 ⟨rfl, hT15, hS15⟩
      have hs15 := hT15.size
      obtain ⟨W16, hW16, hb16, hx16, hs16⟩ := new_obj w15 (.cells (bl V3).toArray 22)
      have hS16 := hS15.below hb16
      have HK16 := Lib.hid ((HK14.out.two hT15 hg (by omega)).below hb16)
      obtain ⟨pa6, cap6, ht6, hlt6⟩ := hS16.t
      obtain ⟨t0, t1⟩ := tab_cells ht6
      have hlt6' : Lay W16 W16.heap.size g pa6 0 cap6 2 (prV zF zF) := hlt6
      have hz : aM0.gen = 0 ∧ aM0.k = 0 := ⟨rfl, rfl⟩
      rw [hz.1] at t0
      rw [hz.2] at t1
      have HS16 := Lib.hid hS16
      clear hT15 hS15 hb16 HK14 C3 HS14 hlt' r0 r1 r2 r3 rv rV EQ1 ht6 hlt6 hz hS16
      dsimp only
      subst hW16
      go_wp2_with (refine @wpList_store_row _ _ _ _ _ _ _ rfl 22 (.tmp 20) (.tmp 124) rfl w15.heap.size (bl V3).toArray rfl rfl 22 _ (heap_alloc_new w15 _) (size_bl' _) rfl (bl_all _) ?_; rw [World.setRow_alloc_new]; simp only [Act.put])
      have hv16 : g + 1 < w15.heap.size := by omega
      generalize w15.alloc (.cells (bl V3).toArray 22) = W16 at hx16 hs16 HS16 HK16 hlt6' ⊢
      generalize w15.heap.size = b3 at hx16 hs16 hv16 ⊢
      refine (C25.out g (g + 1) W16 pa6 cap6 HS16.out hlt6').mono ?_
      rintro _ w17 ⟨rfl, hT17, hS17⟩
      obtain ⟨W18, hW18, hb18, hx18, hs18⟩ := new_obj w17 (.cells (bl V25).toArray 22)
      have hS18 := hS17.below hb18
      have HK18 := Lib.hid ((HK16.out.two hT17 hg (by omega)).below hb18)
      have hv18 := below_at hb18 (two_at hT17 hx16 (by omega) (by omega))
      have ra := row_all hv18
      have rb := row_all hx18
      have rV := row_all HK18.out.v
      have EQ2 := eq_bl V3 V
      have EQ3 := eq_bl V25 V
      rw [q2] at EQ2
      rw [q3] at EQ3
      have hBE := hS18.be
      clear hT17 hS17 hb18 HK16 C25 HS16 hlt6' hx16 hv18 hx18 hS18
      dsimp only
      subst hW18
      go_wp2_with (first
        | (refine @wpList_store_row _ _ _ _ _ _ _ rfl 22 (.tmp 22) (.tmp 129) rfl w17.heap.size (bl V25).toArray rfl rfl 22 _ (heap_alloc_new w17 _) (size_bl' _) rfl (bl_all _) ?_; rw [World.setRow_alloc_new]; simp only [Act.put])
        | (refine @wpList_loadG _ _ _ _ _ _ _ (by kernel_rfl) 22 (.tmp 20) rfl b3 0 rfl (bl V3) _ ra undB rfl (size_bl _) ?_; simp only [Act.put, List.setIfInBounds_toArray, List.set_cons_succ, List.set_cons_zero])
        | (refine @wpList_loadG _ _ _ _ _ _ _ (by kernel_rfl) 22 (.tmp 22) rfl w17.heap.size 0 rfl (bl V25) _ rb undB rfl (size_bl _) ?_; simp only [Act.put, List.setIfInBounds_toArray, List.set_cons_succ, List.set_cons_zero])
        | (refine @wpList_loadG _ _ _ _ _ _ _ (by kernel_rfl) 22 (.tmp 2) rfl w.heap.size 0 rfl (bl V) _ rV undB rfl (size_bl _) ?_; simp only [Act.put, List.setIfInBounds_toArray, List.set_cons_succ, List.set_cons_zero])
        | fail)
      go_ret
      exact ⟨rfl, hBE⟩
    | false =>
      rw [x1] at HXE HAG
      cases x2 : eqB 32 qd q with
      | true =>
        rw [x2] at HEQ
        refine q_loadB 22 (.tmp 13) rfl rfl bh 0 rfl (bl D) _ (fun w' hw' => row_all (HX.out w' hw').2) undB rfl (size_bl D) ?_
        simp only [Act.put, List.setIfInBounds_toArray, List.set_cons_succ, List.set_cons_zero]
        refine q_loadB 22 (.tmp 2) rfl rfl w.heap.size 0 rfl (bl V) _ (fun w' hw' => row_all (HX.out w' hw').1) undB rfl (size_bl V) ?_
        simp only [Act.put, List.setIfInBounds_toArray, List.set_cons_succ, List.set_cons_zero]
        refine q_neqV 22 _ (.tmp 72) (.tmp 73) rfl rfl ((bl D).toArray) ((bl V).toArray) rfl rfl (false) Pt.guardB (fun w' _ => HXE.out w') ?_
        simp only [Act.put, List.setIfInBounds_toArray, List.set_cons_succ, List.set_cons_zero]
        refine q_move _ rfl rfl ?_
        simp only [Act.put, List.setIfInBounds_toArray, List.set_cons_succ, List.set_cons_zero]
        refine q_val (.slice (some ⟨bh, 0, none⟩) 128 128) (by kernel_rfl) (fun w' hw' => by go_simp) ?_
        simp only [Act.put, List.setIfInBounds_toArray, List.set_cons_succ, List.set_cons_zero]
        refine q_call 41 _ (.agg (Sha.arr 32 (Sha.vu8 qd))) (by kernel_rfl) (fun w' => by go_simp) (fun w' hw' => (HSD.out w' bh (Pt.row_of (HX.out w' hw').2) (by have := hw'.size; omega)).mono fun e w'' ⟨he, hb⟩ => ⟨he, hw'.trans (hb.mono hw'.size)⟩) ?_
        simp only [Act.put, List.setIfInBounds_toArray, List.set_cons_succ, List.set_cons_zero]
        refine q_val (.slice (some ⟨w.heap.size, 0, none⟩) 128 128) (by kernel_rfl) (fun w' hw' => by go_simp) ?_
        simp only [Act.put, List.setIfInBounds_toArray, List.set_cons_succ, List.set_cons_zero]
        refine q_call 41 _ (.agg (Sha.arr 32 (Sha.vu8 q))) (by kernel_rfl) (fun w' => by go_simp) (fun w' hw' => (HSV.out w' w.heap.size (Pt.row_of (HX.out w' hw').1) (by have := hw'.size; omega)).mono fun e w'' ⟨he, hb⟩ => ⟨he, hw'.trans (hb.mono hw'.size)⟩) ?_
        simp only [Act.put, List.setIfInBounds_toArray, List.set_cons_succ, List.set_cons_zero]
        refine q_eqlV 63 _ (.tmp 77) (.tmp 79) rfl (by kernel_rfl) (Sha.arr 32 (Sha.vu8 qd)) (Sha.arr 32 (Sha.vu8 q)) rfl rfl true Pt.guardS (fun w' _ => HEQ.out w') ?_
        simp only [Act.put, List.setIfInBounds_toArray, List.set_cons_succ, List.set_cons_zero]
        refine q_val (.bool true) rfl (fun w' hw' => by go_simp) ?_
        simp only [Act.put, List.setIfInBounds_toArray, List.set_cons_succ, List.set_cons_zero]
        refine wpQuiet_nil ?_
        intro w9 hw9
        go_wp2_with fail
        go_ret
        exact ⟨rfl, HS8.out.be.trans (hw9.mono HS8.out.be.size)⟩
      | false =>
        rw [x2] at HEQ
        refine q_loadB 22 (.tmp 13) rfl rfl bh 0 rfl (bl D) _ (fun w' hw' => row_all (HX.out w' hw').2) undB rfl (size_bl D) ?_
        simp only [Act.put, List.setIfInBounds_toArray, List.set_cons_succ, List.set_cons_zero]
        refine q_loadB 22 (.tmp 2) rfl rfl w.heap.size 0 rfl (bl V) _ (fun w' hw' => row_all (HX.out w' hw').1) undB rfl (size_bl V) ?_
        simp only [Act.put, List.setIfInBounds_toArray, List.set_cons_succ, List.set_cons_zero]
        refine q_neqV 22 _ (.tmp 72) (.tmp 73) rfl rfl ((bl D).toArray) ((bl V).toArray) rfl rfl (false) Pt.guardB (fun w' _ => HXE.out w') ?_
        simp only [Act.put, List.setIfInBounds_toArray, List.set_cons_succ, List.set_cons_zero]
        refine q_move _ rfl rfl ?_
        simp only [Act.put, List.setIfInBounds_toArray, List.set_cons_succ, List.set_cons_zero]
        refine q_val (.slice (some ⟨bh, 0, none⟩) 128 128) (by kernel_rfl) (fun w' hw' => by go_simp) ?_
        simp only [Act.put, List.setIfInBounds_toArray, List.set_cons_succ, List.set_cons_zero]
        refine q_call 41 _ (.agg (Sha.arr 32 (Sha.vu8 qd))) (by kernel_rfl) (fun w' => by go_simp) (fun w' hw' => (HSD.out w' bh (Pt.row_of (HX.out w' hw').2) (by have := hw'.size; omega)).mono fun e w'' ⟨he, hb⟩ => ⟨he, hw'.trans (hb.mono hw'.size)⟩) ?_
        simp only [Act.put, List.setIfInBounds_toArray, List.set_cons_succ, List.set_cons_zero]
        refine q_val (.slice (some ⟨w.heap.size, 0, none⟩) 128 128) (by kernel_rfl) (fun w' hw' => by go_simp) ?_
        simp only [Act.put, List.setIfInBounds_toArray, List.set_cons_succ, List.set_cons_zero]
        refine q_call 41 _ (.agg (Sha.arr 32 (Sha.vu8 q))) (by kernel_rfl) (fun w' => by go_simp) (fun w' hw' => (HSV.out w' w.heap.size (Pt.row_of (HX.out w' hw').1) (by have := hw'.size; omega)).mono fun e w'' ⟨he, hb⟩ => ⟨he, hw'.trans (hb.mono hw'.size)⟩) ?_
        simp only [Act.put, List.setIfInBounds_toArray, List.set_cons_succ, List.set_cons_zero]
        refine q_eqlV 63 _ (.tmp 77) (.tmp 79) rfl (by kernel_rfl) (Sha.arr 32 (Sha.vu8 qd)) (Sha.arr 32 (Sha.vu8 q)) rfl rfl false Pt.guardS (fun w' _ => HEQ.out w') ?_
        simp only [Act.put, List.setIfInBounds_toArray, List.set_cons_succ, List.set_cons_zero]
        refine q_val (.bool false) rfl (fun w' hw' => by go_simp) ?_
        simp only [Act.put, List.setIfInBounds_toArray, List.set_cons_succ, List.set_cons_zero]
        have HHF := HAG.out (.inr x2)
        refine wpQuiet_nil ?_
        intro w9 hw9
        obtain ⟨hu4, hm4, hh4⟩ := HHF
        obtain ⟨V', h', X5, s', X6, X7, V3, V25, cG, cL, cF, c3, c25, q1, q2, q3⟩ := again_num (w0 := w) HVB.out hu4 hm4 hh4
        rw [hqv] at cG cL
        have CL := Lib.hid cL
        have CF := Lib.hid cF
        have C3 := Lib.hid c3
        have C25 := Lib.hid c25
        have hS9 := HS8.out.below hw9
        have hx9 := below_at hw9 hp8
        have HK9 := Lib.hid (HK8.out.below hw9)
        have hs9 := hw9.size
        have r9 := Pt.row_pt hx9
        clear hu4 hm4 hh4 cL cF c3 c25 HAG HS8 hp8 HK8 hw9 HX HSD HSV HEQ HXE hx8
        go_wp2_with (refine @wpList_loadG _ _ _ _ _ _ _ (by kernel_rfl) 65 (.tmp 8) rfl bp 0 rfl (Pt.pV ⟨3, 25, q⟩) _ r9 Pt.undP rfl (Pt.sizeP _) ?_; simp only [Act.put, List.setIfInBounds_toArray, List.set_cons_succ, List.set_cons_zero])
        refine (cG g (g + 1) w9 hS9).mono ?_
        rintro _ w10 ⟨rfl, hT10, hS10⟩
        have hs10 := hT10.size
        obtain ⟨W11, hW11, hb11, hx11, hs11⟩ := new_obj w10 (.cells (bl V').toArray 22)
        have hS11 := hS10.below hb11
        have hp11 := below_at hb11 (two_at hT10 hx9 (by omega) (by omega))
        have HK11 := Lib.hid ((HK9.out.two hT10 hg (by omega)).below hb11)
        have r11 := Pt.row_pt hp11
        clear hT10 hS10 hb11 hS9 hx9 HK9 cG r9
        dsimp only
        subst hW11
        go_wp2_with (first
          | (refine @wpList_store_row _ _ _ _ _ _ _ rfl 22 (.tmp 14) (.tmp 85) rfl w10.heap.size (bl V').toArray rfl rfl 22 _ (heap_alloc_new w10 _) (size_bl' _) rfl (bl_all _) ?_; rw [World.setRow_alloc_new]; simp only [Act.put])
          | (refine @wpList_loadG _ _ _ _ _ _ _ (by kernel_rfl) 65 (.tmp 8) rfl bp 0 rfl (Pt.pV ⟨3, 25, q⟩) _ r11 Pt.undP rfl (Pt.sizeP _) ?_; simp only [Act.put, List.setIfInBounds_toArray, List.set_cons_succ, List.set_cons_zero]))
        have hv11 : g + 1 < w10.heap.size := by omega
        generalize w10.alloc (.cells (bl V').toArray 22) = W11 at hx11 hs11 hS11 hp11 HK11 ⊢
        generalize w10.heap.size = bv at hx11 hs11 hv11 ⊢
        refine (CL.out g (g + 1) W11 hS11).mono ?_
        rintro _ w12 ⟨rfl, hT12, hS12⟩
        have hs12 := hT12.size
        obtain ⟨W13, hW13, hb13, hx13, hs13⟩ := new_obj w12 (.cells #[.int .i64 2, .int .i64 s', .int .i64 s', .slice none 0 0] 88)
        have hS13 := hS12.below hb13
        have hv13 := below_at hb13 (two_at hT12 hx11 (by omega) (by omega))
        have HK13 := Lib.hid ((HK11.out.two hT12 hg (by omega)).below hb13)
        clear hT12 hS12 hb13 hS11 hp11 hx11 HK11 CL r11
        dsimp only
        go_wp2_with (refine @wpList_store_row _ _ _ _ _ _ _ rfl 88 (.tmp 17) (.tmp 91) rfl w12.heap.size #[.int .i64 2, .int .i64 s', .int .i64 s', .slice none 0 0] rfl rfl 88 _ (heap_alloc_new w12 _) (by kernel_rfl) rfl (rb_one _ _ _) ?_; rw [World.setRow_alloc_new]; simp only [Act.put])
        rw [← hW13]
        clear hW13
        have hr13 : g + 1 < w12.heap.size := by omega
        generalize w12.heap.size = br at hx13 hs13 hr13 ⊢
        refine (CF.out g (g + 1) W13 hS13).mono ?_
        rintro _ w14 ⟨rfl, hT14, hS14⟩
        have hs14 := hT14.size
        have hv14 := two_at hT14 hv13 (by omega) (by omega)
        have hr14 : Rb w14 br 2 s' s' := two_at hT14 hx13 (by omega) (by omega)
        have HK14 := Lib.hid (HK13.out.two hT14 hg (by omega))
        obtain ⟨r0, r1, r2, r3, _, _, _⟩ := hr14.cs
        have rv := row_all hv14
        have rV := row_all HK14.out.v
        have EQ1 := eq_bl V' V w14
        rw [q1] at EQ1
        obtain ⟨pa, cap, ht, hlt⟩ := hS14.t
        obtain ⟨t0, t1⟩ := tab_cells ht
        have hlt' : Lay w14 w14.heap.size g pa 0 cap 2 (prV zF zF) := hlt
        have hz : aM0.gen = 0 ∧ aM0.k = 0 := ⟨rfl, rfl⟩
        rw [hz.1] at t0
        rw [hz.2] at t1
        have HS14 := Lib.hid hS14
        clear hT14 hS13 hx13 hv13 HK13 CF hr14 hv14 ht hlt hz hS14
        dsimp only
        go_wp2_with (first
          | (refine @wpList_loadG _ _ _ _ _ _ _ (by kernel_rfl) 22 (.tmp 14) rfl bv 0 rfl (bl V') _ rv undB rfl (size_bl _) ?_; simp only [Act.put, List.setIfInBounds_toArray, List.set_cons_succ, List.set_cons_zero])
          | (refine @wpList_loadG _ _ _ _ _ _ _ (by kernel_rfl) 22 (.tmp 2) rfl w.heap.size 0 rfl (bl V) _ rV undB rfl (size_bl _) ?_; simp only [Act.put, List.setIfInBounds_toArray, List.set_cons_succ, List.set_cons_zero])
          | fail)
        refine (C3.out g (g + 1) w14 pa cap HS14.out hlt').mono ?_
        rintro _ w15 ⟨rfl, hT15, hS15⟩
        have hs15 := hT15.size
        obtain ⟨W16, hW16, hb16, hx16, hs16⟩ := new_obj w15 (.cells (bl V3).toArray 22)
        have hS16 := hS15.below hb16
        have HK16 := Lib.hid ((HK14.out.two hT15 hg (by omega)).below hb16)
        obtain ⟨pa6, cap6, ht6, hlt6⟩ := hS16.t
        obtain ⟨t0, t1⟩ := tab_cells ht6
        have hlt6' : Lay W16 W16.heap.size g pa6 0 cap6 2 (prV zF zF) := hlt6
        have hz : aM0.gen = 0 ∧ aM0.k = 0 := ⟨rfl, rfl⟩
        rw [hz.1] at t0
        rw [hz.2] at t1
        have HS16 := Lib.hid hS16
        clear hT15 hS15 hb16 HK14 C3 HS14 hlt' r0 r1 r2 r3 rv rV EQ1 ht6 hlt6 hz hS16
        dsimp only
        subst hW16
        go_wp2_with (refine @wpList_store_row _ _ _ _ _ _ _ rfl 22 (.tmp 20) (.tmp 124) rfl w15.heap.size (bl V3).toArray rfl rfl 22 _ (heap_alloc_new w15 _) (size_bl' _) rfl (bl_all _) ?_; rw [World.setRow_alloc_new]; simp only [Act.put])
        have hv16 : g + 1 < w15.heap.size := by omega
        generalize w15.alloc (.cells (bl V3).toArray 22) = W16 at hx16 hs16 HS16 HK16 hlt6' ⊢
        generalize w15.heap.size = b3 at hx16 hs16 hv16 ⊢
        refine (C25.out g (g + 1) W16 pa6 cap6 HS16.out hlt6').mono ?_
        rintro _ w17 ⟨rfl, hT17, hS17⟩
        obtain ⟨W18, hW18, hb18, hx18, hs18⟩ := new_obj w17 (.cells (bl V25).toArray 22)
        have hS18 := hS17.below hb18
        have HK18 := Lib.hid ((HK16.out.two hT17 hg (by omega)).below hb18)
        have hv18 := below_at hb18 (two_at hT17 hx16 (by omega) (by omega))
        have ra := row_all hv18
        have rb := row_all hx18
        have rV := row_all HK18.out.v
        have EQ2 := eq_bl V3 V
        have EQ3 := eq_bl V25 V
        rw [q2] at EQ2
        rw [q3] at EQ3
        have hBE := hS18.be
        clear hT17 hS17 hb18 HK16 C25 HS16 hlt6' hx16 hv18 hx18 hS18
        dsimp only
        subst hW18
        go_wp2_with (first
          | (refine @wpList_store_row _ _ _ _ _ _ _ rfl 22 (.tmp 22) (.tmp 129) rfl w17.heap.size (bl V25).toArray rfl rfl 22 _ (heap_alloc_new w17 _) (size_bl' _) rfl (bl_all _) ?_; rw [World.setRow_alloc_new]; simp only [Act.put])
          | (refine @wpList_loadG _ _ _ _ _ _ _ (by kernel_rfl) 22 (.tmp 20) rfl b3 0 rfl (bl V3) _ ra undB rfl (size_bl _) ?_; simp only [Act.put, List.setIfInBounds_toArray, List.set_cons_succ, List.set_cons_zero])
          | (refine @wpList_loadG _ _ _ _ _ _ _ (by kernel_rfl) 22 (.tmp 22) rfl w17.heap.size 0 rfl (bl V25) _ rb undB rfl (size_bl _) ?_; simp only [Act.put, List.setIfInBounds_toArray, List.set_cons_succ, List.set_cons_zero])
          | (refine @wpList_loadG _ _ _ _ _ _ _ (by kernel_rfl) 22 (.tmp 2) rfl w.heap.size 0 rfl (bl V) _ rV undB rfl (size_bl _) ?_; simp only [Act.put, List.setIfInBounds_toArray, List.set_cons_succ, List.set_cons_zero])
          | fail)
        go_ret
        exact ⟨rfl, hBE⟩
end Di
end Go.Proofs.YtllejfnmbpjhaaaDoor
