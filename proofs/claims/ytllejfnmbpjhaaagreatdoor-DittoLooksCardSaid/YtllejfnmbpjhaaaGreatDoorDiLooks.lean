/- DittoLooks: the law's walk (made by tools/gen_llooks.py). -/
import Derived.Test.YtllejfnmbpjhaaaGreatDoorDiRefLook
import Derived.Test.YtllejfnmbpjhaaaGreatDoorJDiB
import Derived.Test.YtllejfnmbpjhaaaGreatDoorJRp
import Derived.Test.YtllejfnmbpjhaaaGreatDoorJRc
namespace Go.Proofs.YtllejfnmbpjhaaaGreatDoor
set_option maxRecDepth 20000
namespace Di
open Go.RowKit Dk Byt Eqb Rm

attribute [local go_sem] zv29
attribute [local go_sem] Pt.zvP
attribute [local go_sem] zc29
def LoTwin (x0 x1 x2 x4 x5 x6 x9 x10 x11 x12 x13 x14 x15 x16 x17 x18 x23 x24 x25 x26 x27 x28 x29 x30 x31 x32 x33 x34 x35 x36 x37 x38 x39 x40 x41 x42 x43 x44 x45 x46 x47 x48 x49 x50 x51 x52 x53 x54 : Value) (bx : Nat) (dv : Value) (n m : Nat) (S : Nat → Sec) (C : Nat → Wr) (f : Int) (d : Bool) (W : World) (L : Nat → Bool) (a' : Act) (w' : World) : Prop :=
  ∃ u0 u1 u2 u3 u4 u5, a' = { tmps := #[x0, x1, x2, .pointer (some ⟨bx, 0, none⟩), x4, x5, x6, u4, u5, x9, x10, x11, x12, x13, x14, x15, x16, x17, x18, u0, u1, u2, u3, x23, x24, x25, x26, x27, x28, x29, x30, x31, x32, x33, x34, x35, x36, x37, x38, x39, x40, x41, x42, x43, x44, x45, x46, x47, x48, x49, x50, x51, x52, x53, x54], defers := [] } ∧ Twin.Tw (fun v w' => Copied W n m S C f d v w') 25 4 dv W L u0 u1 u2 u3 u4 u5 w'
def LoTab (x0 x1 x2 x3 x5 x6 x7 x8 x11 x12 x13 x14 x15 x16 x17 x18 x19 x20 x21 x22 x27 x28 x29 x30 x31 x32 x33 x34 x35 x36 x37 x38 x39 x40 x41 x42 x43 x44 x45 x46 x47 x48 x49 x50 x51 x52 x53 x54 : Value) (bx : Nat) (dv : Value) (gen : Int) (k : Nat) (F T : Nat → Int) (W : World) (L : Nat → Bool) (a' : Act) (w' : World) : Prop :=
  ∃ u0 u1 u2 u3 u4 u5, a' = { tmps := #[x0, x1, x2, x3, .pointer (some ⟨bx, 0, none⟩), x5, x6, x7, x8, u4, u5, x11, x12, x13, x14, x15, x16, x17, x18, x19, x20, x21, x22, u0, u1, u2, u3, x27, x28, x29, x30, x31, x32, x33, x34, x35, x36, x37, x38, x39, x40, x41, x42, x43, x44, x45, x46, x47, x48, x49, x50, x51, x52, x53, x54], defers := [] } ∧ Twin.Tw (fun v w' => NewTab w' W.heap.size gen k F T v) 28 2 dv W L u0 u1 u2 u3 u4 u5 w'

set_option maxHeartbeats 400000 in
theorem great6L_any (a b : Option Addr) (n sc m cc : Nat) (f : Int) (d : Bool) (w : World) : Calls Tryz.prog 6 #[.agg #[.slice a n sc, .slice b m cc, .int .i64 f, .bool d]] w fun e w' => e = .returned (.bool (decide ((300 : Int) < (m : Int)))) ∧ Below w.heap.size w w' := by
  go_enter Tryz.func6, Tryz.ntmps6
  go_wp2_with fail
  go_ret
  exact ⟨rfl, (Below.refl _ _).alloc (Nat.le_refl _) _⟩
theorem lHeal_k (Q : Int × Dst × Tab) : (lHeal Q).M = Q.2.2 := by
  unfold lHeal
  split <;> rfl
theorem lRes_k (n : Nat) (X : Dst) (M : Tab) (p : Pt.Pn) : (lRes n X M p).M.k ≤ M.k + 1 := by
  have h1 : (lHeal (wRes n X M p.B (tV n X M p.A))).M.k ≤ M.k + 1 := by rw [lHeal_k]; exact wRes_k n X M p.B (tV n X M p.A)
  have h2 : (lHeal (wRes n X M p.A (tV n X M p.B))).M.k ≤ M.k + 1 := by rw [lHeal_k]; exact wRes_k n X M p.A (tV n X M p.B)
  unfold lRes
  repeat (first | split | (show M.k ≤ M.k + 1; omega) | exact h1 | exact h2)
set_option maxHeartbeats 2000000 in
theorem samereport_any (x y z : Int) (w : World) : Calls Tryz.prog 15 #[.agg #[.int .i64 x, .int .i64 y, .int .i64 z, .slice none 0 0], .agg #[.int .i64 x, .int .i64 y, .int .i64 z, .slice none 0 0]] w fun e w' => e = .returned (.bool true) ∧ Below w.heap.size w w' := by
  go_enter Tryz.func15, Tryz.ntmps15
  go_wp2_with fail
  generalize hW : (w.alloc (.cells #[.int .i64 x, .int .i64 y, .int .i64 z, .slice none 0 0] 47)).alloc (.cells #[.int .i64 x, .int .i64 y, .int .i64 z, .slice none 0 0] 47) = W
  have hb : Below w.heap.size w W := by rw [← hW]; exact ((Below.refl _ _).alloc (Nat.le_refl _) _).alloc (by simp) _
  have bx : Rb W w.heap.size x y z := by
    unfold Rb
    rw [← hW]
    exact (Below.heap_alloc _ _ _ (by simp)).trans (heap_alloc_new w _)
  have bY : Rb W (w.heap.size + 1) x y z := by
    unfold Rb
    rw [← hW]
    have := heap_alloc_new (w.alloc (.cells #[.int .i64 x, .int .i64 y, .int .i64 z, .slice none 0 0] 47)) (.cells #[.int .i64 x, .int .i64 y, .int .i64 z, .slice none 0 0] 47)
    rwa [World.size_alloc] at this
  clear hW
  obtain ⟨x0, x1, x2, x3, _, _, _⟩ := bx.cs
  obtain ⟨y0, y1, y2, y3, _, _, _⟩ := bY.cs
  have hlx : w.heap.size < W.heap.size := bx.lt
  clear bx bY
  go_wp2_with fail
  go_loopw [5] (fun i wr => i = .int .i64 0 ∧ Below W.heap.size W wr) (fun _ _ => 0)
  case atStart => exact ⟨rfl, Below.refl _ _⟩
  case round =>
    obtain ⟨rfl, hB⟩ := hrel
    have v3 := (hB.cell (p := ⟨w.heap.size, 3, none⟩) hlx).trans x3
    go_wp2_with fail
    go_ret
    exact ⟨rfl, hb.trans (hB.mono hb.size)⟩
theorem new_objL (w : World) (o : Obj) : ∃ W, W = w.alloc o ∧ Below w.heap.size w W ∧ W.heap[w.heap.size]? = some o ∧ W.heap.size = w.heap.size + 1 :=
  ⟨_, rfl, (Below.refl _ _).alloc (Nat.le_refl _) _, heap_alloc_new _ _, by simp⟩

set_option maxRecDepth 100000 in
set_option maxHeartbeats 8000000 in
theorem llooks6_any (sa ca : Option Addr) (n sc m cc : Nat) (S : Nat → Sec) (C : Nat → Wr) (f : Int) (d : Bool) (gen : Int) (k : Nat) (F T : Nat → Int) (pa : Option Addr) (cap : Nat) (p : Pt.Pn) (w : World) (nb : n * 130 ≤ 140737488355328) (mb : m * 136 ≤ 140737488355328) (hf : i64 f)
    (hs : Lay w w.heap.size w.heap.size sa n sc 130 (fun i => secV (S i))) (hc : Lay w w.heap.size w.heap.size ca m cc 129 (fun i => wrV (C i))) (hl : Lay w w.heap.size w.heap.size pa k cap 2 (prV F T)) (hk16 : k * 16 ≤ 140737488355328) (hF : ∀ i, i < k → i64 (F i) ∧ i64 (T i))
    (hbs : ∀ i j, j < 128 → 0 ≤ (S i).data j ∧ (S i).data j < 256) (hbc : ∀ i j, j < 128 → 0 ≤ (C i).data j ∧ (C i).data j < 256) (hkp : Kp w) :
    Calls Tryz.prog 4 #[.agg #[.slice sa n sc, .slice ca m cc, .int .i64 f, .bool d], .agg #[.int .i64 gen, .slice pa k cap], .agg (Pt.pV p).toArray] w fun e w' => e = .returned (.bool true) ∧ Below w.heap.size w w' := by
  have hBt : BtX n ⟨m, S, C, f, d⟩ := ⟨fun i _ => hbs i, fun i _ => hbc i⟩
  have hyA : byt (tV n ⟨m, S, C, f, d⟩ ⟨gen, k, F, T⟩ p.A) := hBt.t _ _
  have hyB : byt (tV n ⟨m, S, C, f, d⟩ ⟨gen, k, F, T⟩ p.B) := hBt.t _ _
  have HYA := Lib.hid hyA
  have HYB := Lib.hid hyB
  clear hbs hbc hBt hyA hyB
  have hn47 : n ≤ 140737488355328 := by omega
  have hm47 : m ≤ 140737488355328 := by omega
  have hk47 : k ≤ 140737488355328 := by omega
  have HK := Lib.hid (fun W (hb : Below w.heap.size w W) => hkp.below hb)
  have HL := Lib.hid (fun W (hb : Below w.heap.size w W) => (hl.below hb).more hb.size)
  have HS0 := Lib.hid (fun W (hb : Below w.heap.size w W) => (hs.below hb).more hb.size)
  have HC0 := Lib.hid (fun W (hb : Below w.heap.size w W) => (hc.below hb).more hb.size)
  have HFF := Lib.hid hF
  have HF64 := Lib.hid hf
  clear hl hs hc hF hkp hf
  obtain ⟨W, hW, hb0, bx0, tx0, lx0, hs0⟩ : ∃ W, W = ((w.alloc (.cells #[.slice sa n sc, .slice ca m cc, .int .i64 f, .bool d] 25)).alloc (.cells #[.int .i64 gen, .slice pa k cap] 28)).alloc (.cells (Pt.pV p).toArray 31) ∧ Below w.heap.size w W ∧ Bx W w.heap.size (.slice sa n sc) (.slice ca m cc) (.int .i64 f) (.bool d) ∧
      W.heap[w.heap.size + 1]? = some (.cells #[.int .i64 gen, .slice pa k cap] 28 (0, 0)) ∧ W.heap[w.heap.size + 2]? = some (.cells (Pt.pV p).toArray 31 (0, 0)) ∧ W.heap.size = w.heap.size + 3 := by
    refine ⟨_, rfl, (((Below.refl _ _).alloc (Nat.le_refl _) _).alloc (by simp) _).alloc (by simp; omega) _, (Below.heap_alloc _ _ _ (by simp; omega)).trans ((Below.heap_alloc _ _ _ (by simp)).trans (heap_alloc_new _ _)), (Below.heap_alloc _ _ _ (by simp)).trans ?_, ?_, by simp⟩
    · have := heap_alloc_new (w.alloc (.cells #[.slice sa n sc, .slice ca m cc, .int .i64 f, .bool d] 25)) (.cells #[.int .i64 gen, .slice pa k cap] 28)
      rwa [World.size_alloc] at this
    · have := heap_alloc_new ((w.alloc (.cells #[.slice sa n sc, .slice ca m cc, .int .i64 f, .bool d] 25)).alloc (.cells #[.int .i64 gen, .slice pa k cap] 28)) (.cells (Pt.pV p).toArray 31)
      rwa [World.size_alloc, World.size_alloc] at this
  have HBW := Lib.hid (fun w' (hw' : Below W.heap.size W w') => bx0.below hw')
  have HMW := Lib.hid (fun w' (hw' : Below W.heap.size W w') => show w'.cell? ⟨w.heap.size + 1, 0, none⟩ = some (.int .i64 gen) ∧ w'.cell? ⟨w.heap.size + 1, 1, none⟩ = some (.slice pa k cap) from
    ⟨(hw'.cell (p := ⟨w.heap.size + 1, 0, none⟩) (by show w.heap.size + 1 < _; omega)).trans (by rw [cell_of_row _ _ _ _ _ _ tx0]; rfl), (hw'.cell (p := ⟨w.heap.size + 1, 1, none⟩) (by show w.heap.size + 1 < _; omega)).trans (by rw [cell_of_row _ _ _ _ _ _ tx0]; rfl)⟩)
  have HPWW := Lib.hid (fun w' (hw' : Below W.heap.size W w') => Pt.row_pt ((hw'.block (w.heap.size + 2) (by omega)).trans lx0))
  clear bx0 tx0 lx0
  go_enter Tryz.func4, Tryz.ntmps4
  go_wp2_with fail
  rw [← hW]
  clear hW
  refine (alive6_any W (HK.out W hb0)).mono ?_
  rintro _ w1 ⟨rfl, hb1⟩
  obtain ⟨d0, d1, d2, d3⟩ : _ ∧ _ ∧ _ ∧ _ := ⟨(HBW.out w1 hb1).c0, (HBW.out w1 hb1).c1, (HBW.out w1 hb1).c2, (HBW.out w1 hb1).c3⟩
  dsimp only
  go_wp2_with fail
  refine (great6L_any sa ca n sc m cc f d w1).mono ?_
  rintro _ w2 ⟨rfl, hb2⟩
  have hw2 : Below W.heap.size W w2 := hb1.trans (hb2.mono hb1.size)
  have hB2 : Below w.heap.size w w2 := hb0.trans (hw2.mono hb0.size)
  clear d0 d1 d2 d3 hb1 hb2
  dsimp only
  by_cases hgr : (300 : Int) < (m : Int)
  · go_wp2_with fail
    go_ret
    exact ⟨rfl, hB2⟩
  · have HBX := Lib.hid (fun w' (hw' : Below w2.heap.size w2 w') => HBW.out w' (hw2.trans (hw'.mono hw2.size)))
    have HM2 := Lib.hid (fun w' (hw' : Below w2.heap.size w2 w') => HMW.out w' (hw2.trans (hw'.mono hw2.size)))
    have HPW := Lib.hid (fun w' (hw' : Below w2.heap.size w2 w') => HPWW.out w' (hw2.trans (hw'.mono hw2.size)))
    have HS := Lib.hid (fun w' (hw' : Below w2.heap.size w2 w') => (HS0.out w' (hB2.trans (hw'.mono hB2.size))))
    have HC := Lib.hid (fun w' (hw' : Below w2.heap.size w2 w') => (HC0.out w' (hB2.trans (hw'.mono hB2.size))))
    have HT2 := Lib.hid (fun w' (hw' : Below w2.heap.size w2 w') => (HL.out w' (hB2.trans (hw'.mono hB2.size))))
    have HKW := Lib.hid (fun w' (hw' : Below w2.heap.size w2 w') => HK.out w' (hB2.trans (hw'.mono hB2.size)))
    have hx2 : w.heap.size + 2 < w2.heap.size := by have := hw2.size; omega
    have hOK : Ok 23 ⟨m, S, C, f, d⟩ := ⟨by show (m + 23) * 136 ≤ _; omega, HF64.out⟩
    have HOK := Lib.hid hOK
    clear HBW HMW HPWW HS0 HC0 HL hs0 hw2 hOK
    go_wp2_with fail
    refine QuietTail2.regionInv (n := 8) (Inv := LoTwin _ _ _ _ _ _ _ _ _ _ _ _ _ _ _ _ _ _ _ _ _ _ _ _ _ _ _ _ _ _ _ _ _ _ _ _ _ _ _ _ _ _ _ _ _ _ _ _ w.heap.size (.agg #[.slice sa n sc, .slice ca m cc, .int .i64 f, .bool d]) n m S C f d w2) (by kernel_rfl) (by decide) (by kernel_rfl) ⟨_, _, _, _, _, _, rfl, Twin.Tw.start⟩ ?stepA ?finA
    case stepA =>
      rintro i o hi ho L a' w' ⟨u0, u1, u2, u3, u4, u5, rfl, TT⟩ hL hpre
      match i, hi with
      | 0, _ =>
        simp at ho
        subst ho
        have hH := HBX.out w' TT.be; have k0 := hH.c0; have k1 := hH.c1; have k2 := hH.c2; have k3 := hH.c3; clear hH
        go_simp
        exact ⟨_, u1, u2, u3, u4, u5, rfl, TT.load0⟩
      | 1, _ =>
        simp at ho
        subst ho
        obtain rfl := TT.a0 (hpre 0 (by kernel_rfl))
        go_simp
        refine (Dk.copy_any sa ca n sc m cc w.heap.size S C f d w' nb mb (HS.out w' TT.be) (HC.out w' TT.be)).mono ?_
        rintro _ w'' ⟨v, rfl, hv, hb⟩
        exact ⟨_, v, u2, u3, u4, u5, rfl, TT.call1 hL (hv.mono TT.be.size) hb (fun _ _ _ h hb => h.below hb)⟩
      | 2, _ =>
        simp at ho
        subst ho
        have hH := HBX.out w' TT.be; have k0 := hH.c0; have k1 := hH.c1; have k2 := hH.c2; have k3 := hH.c3; clear hH
        go_simp
        exact ⟨u0, u1, _, u3, u4, u5, rfl, TT.load2⟩
      | 3, _ =>
        simp at ho
        subst ho
        obtain rfl := TT.a2 (hpre 2 (by kernel_rfl))
        go_simp
        refine (Dk.copy_any sa ca n sc m cc w.heap.size S C f d w' nb mb (HS.out w' TT.be) (HC.out w' TT.be)).mono ?_
        rintro _ w'' ⟨v, rfl, hv, hb⟩
        exact ⟨u0, u1, _, v, u4, u5, rfl, TT.call3 hL (hv.mono TT.be.size) hb (fun _ _ _ h hb => h.below hb)⟩
      | 4, _ =>
        simp at ho
        subst ho
        go_simp
        exact ⟨u0, u1, u2, u3, _, u5, rfl, TT.alloc4 hL rfl (fun _ _ _ h hb => h.below hb)⟩
      | 5, _ =>
        simp at ho
        subst ho
        go_simp
        exact ⟨u0, u1, u2, u3, u4, _, rfl, TT.alloc5 hL rfl (fun _ _ _ h hb => h.below hb)⟩
      | 6, _ =>
        simp at ho
        subst ho
        have h1 := hpre 1 (by kernel_rfl)
        have h4 := hpre 4 (by kernel_rfl)
        obtain ⟨b, c0, e4, _, hb, hs, _⟩ := TT.a4 h4
        obtain ⟨sa1, sc1, ca1, cc1, rfl, p1, q1⟩ := TT.a1 h1
        subst e4
        refine wp_store_row 25 (.tmp 7) (.tmp 20) rfl b #[.slice sa1 n sc1, .slice ca1 m cc1, .int .i64 f, .bool d] rfl rfl 25 c0 hb (by kernel_rfl) hs (disk_one _ _ _ _ _ _ _ _) ?_
        exact ⟨u0, _, u2, u3, _, u5, rfl, TT.store6 h1 h4 rfl rfl hb rfl (fun _ _ _ _ c h hb => Twin.Copied.row h hb c)⟩
      | 7, _ =>
        simp at ho
        subst ho
        have h1 := hpre 3 (by kernel_rfl)
        have h4 := hpre 5 (by kernel_rfl)
        obtain ⟨b, c0, e4, _, hb, hs, _⟩ := TT.a5 h4
        obtain ⟨sa1, sc1, ca1, cc1, rfl, p1, q1⟩ := TT.a3 h1
        subst e4
        refine wp_store_row 25 (.tmp 8) (.tmp 22) rfl b #[.slice sa1 n sc1, .slice ca1 m cc1, .int .i64 f, .bool d] rfl rfl 25 c0 hb (by kernel_rfl) hs (disk_one _ _ _ _ _ _ _ _) ?_
        exact ⟨u0, u1, u2, _, u4, _, rfl, TT.store7 h1 h4 rfl rfl hb rfl (fun _ _ _ _ c h hb => Twin.Copied.row h hb c)⟩
      | i + 8, h => omega
    rintro L a' w5A hall ⟨u0, u1, u2, u3, u4, u5, rfl, TT⟩
    obtain ⟨bA, cA, bB, cB, rfl, rfl, lA, lB, hneA, hA, hB, pA, pB, hbeA⟩ := TT.fin hall
    clear TT hall
    simp only [List.drop_succ_cons, List.drop_zero]
    refine wpList_nil ?_
    obtain ⟨sa1, sc1, ca1, cc1, hX⟩ := Twin.Copied.has' pA hA nb mb
    obtain ⟨sa2, sc2, ca2, cc2, hY⟩ := Twin.Copied.has' pB hB nb mb
    clear pA pB
    have HX := Lib.hid hX
    have HY := Lib.hid hY
    have HMX := Lib.hid (fun w' (hw' : Below w5A.heap.size w5A w') => HM2.out w' (hbeA.trans (hw'.mono hbeA.size)))
    have HT := Lib.hid (fun w' (hw' : Below w5A.heap.size w5A w') => HT2.out w' (hbeA.trans (hw'.mono hbeA.size)))
    have hx5 : w.heap.size + 2 < w5A.heap.size := by have := hbeA.size; omega
    clear hX hY HM2 HT2
    go_wp2_with fail
    refine QuietTail2.regionInv (n := 8) (Inv := LoTab _ _ _ _ _ _ _ _ _ _ _ _ _ _ _ _ _ _ _ _ _ _ _ _ _ _ _ _ _ _ _ _ _ _ _ _ _ _ _ _ _ _ _ _ _ _ _ _ (w.heap.size + 1) (.agg #[.int .i64 gen, .slice pa k cap]) gen k F T w5A) (by kernel_rfl) (by decide) (by kernel_rfl) ⟨_, _, _, _, _, _, rfl, Twin.Tw.start⟩ ?stepP ?finP
    case stepP =>
      rintro i o hi ho L a' w' ⟨u0, u1, u2, u3, u4, u5, rfl, TT⟩ hL hpre
      match i, hi with
      | 0, _ =>
        simp at ho
        subst ho
        obtain ⟨k0, k1⟩ := HMX.out w' TT.be
        go_simp
        exact ⟨_, u1, u2, u3, u4, u5, rfl, TT.load0⟩
      | 1, _ =>
        simp at ho
        subst ho
        obtain rfl := TT.a0 (hpre 0 (by kernel_rfl))
        go_simp
        refine (refcopy_any gen k F T pa cap w.heap.size w' (HT.out w' TT.be) hk16).mono ?_
        rintro _ w'' ⟨⟨v, rfl, hv⟩, hb⟩
        exact ⟨_, v, u2, u3, u4, u5, rfl, TT.call1 hL (hv.mono TT.be.size) hb (fun _ _ _ h hb => NewTab.below h hb)⟩
      | 2, _ =>
        simp at ho
        subst ho
        obtain ⟨k0, k1⟩ := HMX.out w' TT.be
        go_simp
        exact ⟨u0, u1, _, u3, u4, u5, rfl, TT.load2⟩
      | 3, _ =>
        simp at ho
        subst ho
        obtain rfl := TT.a2 (hpre 2 (by kernel_rfl))
        go_simp
        refine (refcopy_any gen k F T pa cap w.heap.size w' (HT.out w' TT.be) hk16).mono ?_
        rintro _ w'' ⟨⟨v, rfl, hv⟩, hb⟩
        exact ⟨u0, u1, _, v, u4, u5, rfl, TT.call3 hL (hv.mono TT.be.size) hb (fun _ _ _ h hb => NewTab.below h hb)⟩
      | 4, _ =>
        simp at ho
        subst ho
        go_simp
        exact ⟨u0, u1, u2, u3, _, u5, rfl, TT.alloc4 hL rfl (fun _ _ _ h hb => NewTab.below h hb)⟩
      | 5, _ =>
        simp at ho
        subst ho
        go_simp
        exact ⟨u0, u1, u2, u3, u4, _, rfl, TT.alloc5 hL rfl (fun _ _ _ h hb => NewTab.below h hb)⟩
      | 6, _ =>
        simp at ho
        subst ho
        have h1 := hpre 1 (by kernel_rfl)
        have h4 := hpre 4 (by kernel_rfl)
        obtain ⟨b, c0, e4, _, hb, hs, _⟩ := TT.a4 h4
        obtain ⟨ao1, cap1, rfl, q1⟩ := TT.a1 h1
        subst e4
        refine wp_store_row 28 (.tmp 9) (.tmp 24) rfl b #[.int .i64 gen, .slice ao1 k cap1] rfl rfl 28 c0 hb (by kernel_rfl) hs (tb_one _ _ _ _) ?_
        exact ⟨u0, _, u2, u3, _, u5, rfl, TT.store6 h1 h4 rfl rfl hb rfl (fun _ _ _ _ c h hb => NewTab.row h hb c)⟩
      | 7, _ =>
        simp at ho
        subst ho
        have h1 := hpre 3 (by kernel_rfl)
        have h4 := hpre 5 (by kernel_rfl)
        obtain ⟨b, c0, e4, _, hb, hs, _⟩ := TT.a5 h4
        obtain ⟨ao1, cap1, rfl, q1⟩ := TT.a3 h1
        subst e4
        refine wp_store_row 28 (.tmp 10) (.tmp 26) rfl b #[.int .i64 gen, .slice ao1 k cap1] rfl rfl 28 c0 hb (by kernel_rfl) hs (tb_one _ _ _ _) ?_
        exact ⟨u0, u1, u2, _, u4, _, rfl, TT.store7 h1 h4 rfl rfl hb rfl (fun _ _ _ _ c h hb => NewTab.row h hb c)⟩
      | i + 8, h => omega
    rintro L a' w5P hall ⟨u0, u1, u2, u3, u4, u5, rfl, TT⟩
    obtain ⟨bP, cP, bQ, cQ, rfl, rfl, lP, lQ, hneP, hP, hQ, pP, pQ, hbeP⟩ := TT.fin hall
    clear TT hall
    simp only [List.drop_succ_cons, List.drop_zero]
    refine wpList_nil ?_
    have hTA : HasT w5P bP bA ⟨gen, k, F, T⟩ := by
      obtain ⟨ao, cap', e, ho⟩ := pP
      injection e with e
      subst e
      have hA5 := (hbeP.block bA (Array.getElem?_eq_some_iff.1 hA).1).trans hA
      exact ⟨ao, cap', hP, Twin.lay_owns (fun i _ => prV_length F T i) ho hA5 (by decide)⟩
    have hTB : HasT w5P bQ bB ⟨gen, k, F, T⟩ := by
      obtain ⟨ao, cap', e, ho⟩ := pQ
      injection e with e
      subst e
      have hB5 := (hbeP.block bB (Array.getElem?_eq_some_iff.1 hB).1).trans hB
      exact ⟨ao, cap', hQ, Twin.lay_owns (fun i _ => prV_length F T i) ho hB5 (by decide)⟩
    have hsA := hbeA.size
    have hPr : Pr bA bP bB bQ n ⟨m, S, C, f, d⟩ ⟨m, S, C, f, d⟩ ⟨gen, k, F, T⟩ ⟨gen, k, F, T⟩ w2 w5P :=
      ⟨(HasD.of HX.out).below hbeP, hTA, (HasD.of HY.out).below hbeP, hTB, hbeA.trans (hbeP.mono hsA), lA, Nat.le_trans hsA lP, lB, Nat.le_trans hsA lQ, hneA, hneP⟩
    have HP := Lib.hid hPr
    have hTM : TabOk ⟨gen, k, F, T⟩ := ⟨hk47, HFF.out⟩
    have HW1 := Lib.hid (fun w' (hw' : Below w2.heap.size w2 w') (hD : HasD w' bA n ⟨m, S, C, f, d⟩) (hM : HasT w' bP bA ⟨gen, k, F, T⟩) => look_d hD (HKW.out w' hw') HOK.out gen k F T hM hTM hPr.ap.1 p HYA.out HYB.out)
    have HW2 := Lib.hid (fun w' (hw' : Below w2.heap.size w2 w') (hD : HasD w' bB n ⟨m, S, C, f, d⟩) (hM : HasT w' bQ bB ⟨gen, k, F, T⟩) => reflook_d hD (HKW.out w' hw') HOK.out gen k F T hM hTM hPr.ap.2.2.2 p HYA.out HYB.out)
    have hRk := lRes_k n ⟨m, S, C, f, d⟩ ⟨gen, k, F, T⟩ p
    dsimp only at hRk
    unfold Saws at HW1 HW2
    generalize lRes n ⟨m, S, C, f, d⟩ ⟨gen, k, F, T⟩ p = R at HW1 HW2 hRk
    obtain ⟨rs, rb, rh, E, X', M'⟩ := R
    dsimp only at HW1 HW2 hRk
    have rp5 := HPW.out w5P hPr.be
    clear hPr hTA hTB pP pQ hP hQ hA hB HX HY HMX HT hTM HYA HYB
    go_wp2_with (refine @wpList_loadG _ _ _ _ _ _ _ (by kernel_rfl) 31 (.tmp 5) rfl (w.heap.size + 2) 0 rfl (Pt.pV p) _ rp5 Pt.undP rfl (Pt.sizeP _) ?_; simp only [Act.put, List.setIfInBounds_toArray, List.set_cons_succ, List.set_cons_zero])
    refine (HW1.out w5P HP.out.be HP.out.a HP.out.p).mono ?_
    rintro _ w6 ⟨rfl, hT6, hD6, hM6⟩
    have hP6 := HP.out.one hT6 hD6 hM6
    obtain ⟨W7, hW7, hb7, hz7, hs7⟩ := new_objL w6 (.cells #[.int .i64 rs, .int .i64 rb, .int .i64 rh, .slice none 0 0] 47)
    have hP7 := hP6.below hb7
    have HP7 := Lib.hid hP7
    have rp7 := HPW.out W7 hP7.be
    clear hT6 hD6 hM6 hP6 hP7 HP HW1 rp5 hb7
    dsimp only
    subst hW7
    go_wp2_with (first
      | (refine @wpList_store_row _ _ _ _ _ _ _ rfl 47 (.tmp 11) (.tmp 30) rfl w6.heap.size #[.int .i64 rs, .int .i64 rb, .int .i64 rh, .slice none 0 0] rfl rfl 47 _ (heap_alloc_new _ _) (by kernel_rfl) rfl (rb_one _ _ _) ?_; rw [World.setRow_alloc_new]; simp only [Act.put])
      | (refine @wpList_loadG _ _ _ _ _ _ _ (by kernel_rfl) 31 (.tmp 5) rfl (w.heap.size + 2) 0 rfl (Pt.pV p) _ rp7 Pt.undP rfl (Pt.sizeP _) ?_; simp only [Act.put, List.setIfInBounds_toArray, List.set_cons_succ, List.set_cons_zero]))
    generalize w6.alloc (.cells #[.int .i64 rs, .int .i64 rb, .int .i64 rh, .slice none 0 0] 47) = W7 at HP7 hz7 hs7 rp7 ⊢
    refine (HW2.out W7 HP7.out.be HP7.out.b HP7.out.q).mono ?_
    rintro _ w8 ⟨rfl, hT8, hD8, hM8⟩
    have hn1 : w6.heap.size ≠ bB := fun e => by
      obtain ⟨sx, sy, sz, su, hb4⟩ := HP7.out.b
      have h0 := hb4.bx.c0
      rw [← e, cell_of_row _ _ _ _ _ _ hz7] at h0
      cases h0
    have hn2 : w6.heap.size ≠ bQ := by
      obtain ⟨_, _, _, a1, a2, _⟩ := HP7.out.q.box
      exact box_ne hz7 a1 (by rw [a2]; show (4 : Nat) ≠ 2; decide)
    have hz8 := (hT8.block w6.heap.size (by omega) hn1 hn2).trans hz7
    have hP8 := HP7.out.two hT8 hD8 hM8
    obtain ⟨W9, hW9, hb9, hy9, hs9⟩ := new_objL w8 (.cells #[.int .i64 rs, .int .i64 rb, .int .i64 rh, .slice none 0 0] 47)
    have hP9 := hP8.below hb9
    have hz9 : Rb W9 w6.heap.size rs rb rh := (hb9.block _ (Array.getElem?_eq_some_iff.1 hz8).1).trans hz8
    have hr9 : Rb W9 w8.heap.size rs rb rh := hy9
    obtain ⟨q0, q1, q2, q3, _, _, _⟩ := hz9.cs
    obtain ⟨t0, t1, t2, t3, _, _, _⟩ := hr9.cs
    clear hn1 hn2 hT8 hD8 hM8 hz8 hP8 HP7 HW2 rp7 hz7 hb9 hy9 hs7 hz9 hr9
    have HP9 := Lib.hid hP9
    clear hP9
    dsimp only
    subst hW9
    go_wp2_with (refine @wpList_store_row _ _ _ _ _ _ _ rfl 47 (.tmp 13) (.tmp 35) rfl w8.heap.size #[.int .i64 rs, .int .i64 rb, .int .i64 rh, .slice none 0 0] rfl rfl 47 _ (heap_alloc_new _ _) (by kernel_rfl) rfl (rb_one _ _ _) ?_; rw [World.setRow_alloc_new]; simp only [Act.put])
    generalize w8.alloc (.cells #[.int .i64 rs, .int .i64 rb, .int .i64 rh, .slice none 0 0] 47) = W9 at HP9 q0 q1 q2 q3 t0 t1 t2 t3 hs9 ⊢
    refine (samereport_any rs rb rh W9).mono ?_
    rintro _ w9 ⟨rfl, hb99⟩
    clear q0 q1 q2 q3 t0 t1 t2 t3
    have s := HP9.out.below hb99
    obtain ⟨sa3, sc3, ca3, cc3, hX⟩ := s.a
    obtain ⟨sa4, sc4, ca4, cc4, hY⟩ := s.b
    obtain ⟨ao3, cp3, tb3, hl3⟩ := s.p
    obtain ⟨ao4, cp4, tb4, hl4⟩ := s.q
    have a0 := hX.bx.c0
    have a1 := hX.bx.c1
    have a2 := hX.bx.c2
    have a3 := hX.bx.c3
    have b0 := hY.bx.c0
    have b1 := hY.bx.c1
    have b2 := hY.bx.c2
    have b3 := hY.bx.c3
    have HBE := Lib.hid (hB2.trans (s.be.mono hB2.size))
    have h47 := hX.n47
    have HSM := Lib.hid (same_any sa3 ca3 sa4 ca4 n sc3 X'.m cc3 sc4 cc4 bA bB X'.S X'.C X'.f X'.d w9 h47.1 h47.2 hX.ss hX.cs hY.ss hY.cs)
    have HRS := Lib.hid (fun W (hb : Below w9.heap.size w9 W) => refsame_any M'.gen M'.k M'.F M'.T ao3 ao4 cp3 cp4 bA bB W (by omega) ((hl3.below hb).more hb.size) ((hl4.below hb).more hb.size))
    have HTC := Lib.hid (fun W (hb : Below w9.heap.size w9 W) => And.intro ((hb.block bP (Array.getElem?_eq_some_iff.1 tb3).1).trans tb3) ((hb.block bQ (Array.getElem?_eq_some_iff.1 tb4).1).trans tb4))
    clear s hX hY tb3 tb4 hl3 hl4 HP9
    dsimp only
    go_wp2_with fail
    refine HSM.out.mono ?_
    rintro _ w10 ⟨rfl, hb10⟩
    obtain ⟨u3, u4⟩ := HTC.out w10 hb10
    have e0 : w10.cell? ⟨bP, 0, none⟩ = some (.int .i64 M'.gen) := by rw [cell_of_row _ _ _ _ _ _ u3]; rfl
    have e1 : w10.cell? ⟨bP, 1, none⟩ = some (.slice ao3 M'.k cp3) := by rw [cell_of_row _ _ _ _ _ _ u3]; rfl
    have g0 : w10.cell? ⟨bQ, 0, none⟩ = some (.int .i64 M'.gen) := by rw [cell_of_row _ _ _ _ _ _ u4]; rfl
    have g1 : w10.cell? ⟨bQ, 1, none⟩ = some (.slice ao4 M'.k cp4) := by rw [cell_of_row _ _ _ _ _ _ u4]; rfl
    clear a0 a1 a2 a3 b0 b1 b2 b3 u3 u4
    dsimp only
    go_wp2_with fail
    refine (HRS.out w10 hb10).mono ?_
    rintro _ w11 ⟨rfl, hb11⟩
    dsimp only
    go_wp2_with fail
    go_ret
    exact ⟨rfl, HBE.out.trans ((hb10.trans (hb11.mono hb10.size)).mono HBE.out.size)⟩
end Di
end Go.Proofs.YtllejfnmbpjhaaaGreatDoor
