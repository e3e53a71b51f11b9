/- RemapReads: the law's walk (made by tools/gen_lreads.py). -/
import Derived.Test.YtllejfnmbpjhaaaDoorRmTab
import Derived.Test.YtllejfnmbpjhaaaDoorRmRefRead
import Derived.Test.YtllejfnmbpjhaaaDoorEq
namespace Go.Proofs.YtllejfnmbpjhaaaDoor
set_option maxRecDepth 20000
namespace Rm
open Go.RowKit Dk Byt Eqb

attribute [local go_sem] zv29
attribute [local go_sem] zc29
def RdTwin (x0 x1 x2 x4 x5 x6 x9 x10 x11 x12 x13 x14 x15 x16 x21 x22 x23 x24 x25 x26 x27 x28 x29 x30 x31 x32 x33 x34 x35 x36 x37 x38 x39 x40 x41 x42 x43 x44 x45 : Value) (bx : Nat) (dv : Value) (n m : Nat) (S : Nat → Sec) (C : Nat → Wr) (f : Int) (d : Bool) (W : World) (L : Nat → Bool) (a' : Act) (w' : World) : Prop :=
  ∃ u0 u1 u2 u3 u4 u5, a' = { tmps := #[x0, x1, x2, .pointer (some ⟨bx, 0, none⟩), x4, x5, x6, u4, u5, x9, x10, x11, x12, x13, x14, x15, x16, u0, u1, u2, u3, x21, x22, x23, x24, x25, x26, x27, x28, x29, x30, x31, x32, x33, x34, x35, x36, x37, x38, x39, x40, x41, x42, x43, x44, x45], defers := [] } ∧ Twin.Tw (fun v w' => Copied W n m S C f d v w') 35 4 dv W L u0 u1 u2 u3 u4 u5 w'

set_option maxRecDepth 100000 in
set_option maxHeartbeats 4000000 in
theorem lreads_any (sa ca : Option Addr) (n sc m cc : Nat) (S : Nat → Sec) (C : Nat → Wr) (f : Int) (d : Bool) (gen : Int) (k : Nat) (F T : Nat → Int) (pa : Option Addr) (cap : Nat) (x : Int) (w : World) (nb : n * 130 ≤ 140737488355328) (mb : m * 136 ≤ 140737488355328)
    (hs : Lay w w.heap.size w.heap.size sa n sc 130 (fun i => secV (S i))) (hc : Lay w w.heap.size w.heap.size ca m cc 129 (fun i => wrV (C i))) (hl : Lay w w.heap.size w.heap.size pa k cap 2 (prV F T)) (hk16 : k * 16 ≤ 140737488355328) (hF : ∀ i, i < k → i64 (F i) ∧ i64 (T i)) (hkp : Kp w) :
    Calls Tryd.prog 4 #[.agg #[.slice sa n sc, .slice ca m cc, .int .i64 f, .bool d], .agg #[.int .i64 gen, .slice pa k cap], .int .i64 x] w fun e w' => e = .returned (.bool true) ∧ Below w.heap.size w w' := by
  have hn47 : n ≤ 140737488355328 := by omega
  have hm47 : m ≤ 140737488355328 := by omega
  have hk47 : k ≤ 140737488355328 := by omega
  have HK := Lib.hid (fun W (hb : Below w.heap.size w W) => hkp.below hb)
  have HL := Lib.hid (fun W (hb : Below w.heap.size w W) => (hl.below hb).more hb.size)
  have HS0 := Lib.hid (fun W (hb : Below w.heap.size w W) => (hs.below hb).more hb.size)
  have HC0 := Lib.hid (fun W (hb : Below w.heap.size w W) => (hc.below hb).more hb.size)
  have HFF := Lib.hid hF
  clear hl hs hc hF hkp
  obtain ⟨W, hW, hb0, bx0, tx0, hs0⟩ : ∃ W, W = (w.alloc (.cells #[.slice sa n sc, .slice ca m cc, .int .i64 f, .bool d] 35)).alloc (.cells #[.int .i64 gen, .slice pa k cap] 26) ∧ Below w.heap.size w W ∧ Bx W w.heap.size (.slice sa n sc) (.slice ca m cc) (.int .i64 f) (.bool d) ∧
      W.heap[w.heap.size + 1]? = some (.cells #[.int .i64 gen, .slice pa k cap] 26 (0, 0)) ∧ W.heap.size = w.heap.size + 2 := by
    refine ⟨_, rfl, ((Below.refl _ _).alloc (Nat.le_refl _) _).alloc (by simp) _, (Below.heap_alloc _ _ _ (by simp)).trans (heap_alloc_new _ _), ?_, by simp⟩
    have := heap_alloc_new (w.alloc (.cells #[.slice sa n sc, .slice ca m cc, .int .i64 f, .bool d] 35)) (.cells #[.int .i64 gen, .slice pa k cap] 26)
    rwa [World.size_alloc] at this
  have HBW := Lib.hid (fun w' (hw' : Below W.heap.size W w') => bx0.below hw')
  have HMW := Lib.hid (fun w' (hw' : Below W.heap.size W w') => show w'.cell? ⟨w.heap.size + 1, 0, none⟩ = some (.int .i64 gen) ∧ w'.cell? ⟨w.heap.size + 1, 1, none⟩ = some (.slice pa k cap) from
    ⟨(hw'.cell (p := ⟨w.heap.size + 1, 0, none⟩) (by show w.heap.size + 1 < _; omega)).trans (by rw [cell_of_row _ _ _ _ _ _ tx0]; rfl), (hw'.cell (p := ⟨w.heap.size + 1, 1, none⟩) (by show w.heap.size + 1 < _; omega)).trans (by rw [cell_of_row _ _ _ _ _ _ tx0]; rfl)⟩)
  clear bx0 tx0
  go_enter Tryd.func4, Tryd.ntmps4
  go_wp2_with fail
  rw [← hW]
  clear hW
  refine (alive4_any W (HK.out W hb0)).mono ?_
  rintro _ w1 ⟨rfl, hb1⟩
  obtain ⟨d0, d1, d2, d3⟩ : _ ∧ _ ∧ _ ∧ _ := ⟨(HBW.out w1 hb1).c0, (HBW.out w1 hb1).c1, (HBW.out w1 hb1).c2, (HBW.out w1 hb1).c3⟩
  dsimp only
  go_wp2_with fail
  refine (great_any sa ca n sc m cc f d w1).mono ?_
  rintro _ w2 ⟨rfl, hb2⟩
  have hw2 : Below W.heap.size W w2 := hb1.trans (hb2.mono hb1.size)
  have hB2 : Below w.heap.size w w2 := hb0.trans (hw2.mono hb0.size)
  clear d0 d1 d2 d3 hb1 hb2
  dsimp only
  by_cases hgr : (300 : Int) < (m : Int)
  · go_wp2_with fail
    go_ret
    exact ⟨rfl, hB2⟩
  · have HBX := Lib.hid (fun w' (hw' : Below w2.heap.size w2 w') => HBW.out w' (hw2.trans (hw'.mono hw2.size)))
    have HMX := Lib.hid (fun w' (hw' : Below w2.heap.size w2 w') => HMW.out w' (hw2.trans (hw'.mono hw2.size)))
    have HS := Lib.hid (fun w' (hw' : Below w2.heap.size w2 w') => (HS0.out w' (hB2.trans (hw'.mono hB2.size))))
    have HC := Lib.hid (fun w' (hw' : Below w2.heap.size w2 w') => (HC0.out w' (hB2.trans (hw'.mono hB2.size))))
    have HT := Lib.hid (fun w' (hw' : Below w2.heap.size w2 w') => (HL.out w' (hB2.trans (hw'.mono hB2.size))))
    have hx2 : w.heap.size + 1 < w2.heap.size := by have := hw2.size; omega
    clear HBW HMW HS0 HC0 HL hs0 hw2
    go_wp2_with fail
    refine QuietTail2.regionInv (n := 8) (Inv := RdTwin _ _ _ _ _ _ _ _ _ _ _ _ _ _ _ _ _ _ _ _ _ _ _ _ _ _ _ _ _ _ _ _ _ _ _ _ _ _ _ w.heap.size (.agg #[.slice sa n sc, .slice ca m cc, .int .i64 f, .bool d]) n m S C f d w2) (by kernel_rfl) (by decide) (by kernel_rfl) ⟨_, _, _, _, _, _, rfl, Twin.Tw.start⟩ ?step ?fin
    case step =>
      rintro i o hi ho L a' w' ⟨u0, u1, u2, u3, u4, u5, rfl, T⟩ hL hpre
      match i, hi with
      | 0, _ =>
        simp at ho
        subst ho
        have hH := HBX.out w' T.be; have k0 := hH.c0; have k1 := hH.c1; have k2 := hH.c2; have k3 := hH.c3; clear hH
        go_simp
        exact ⟨_, u1, u2, u3, u4, u5, rfl, T.load0⟩
      | 1, _ =>
        simp at ho
        subst ho
        obtain rfl := T.a0 (hpre 0 (by kernel_rfl))
        go_simp
        refine (Dk.copy_any sa ca n sc m cc w.heap.size S C f d w' nb mb (HS.out w' T.be) (HC.out w' T.be)).mono ?_
        rintro _ w'' ⟨v, rfl, hv, hb⟩
        exact ⟨_, v, u2, u3, u4, u5, rfl, T.call1 hL (hv.mono T.be.size) hb (fun _ _ _ h hb => h.below hb)⟩
      | 2, _ =>
        simp at ho
        subst ho
        have hH := HBX.out w' T.be; have k0 := hH.c0; have k1 := hH.c1; have k2 := hH.c2; have k3 := hH.c3; clear hH
        go_simp
        exact ⟨u0, u1, _, u3, u4, u5, rfl, T.load2⟩
      | 3, _ =>
        simp at ho
        subst ho
        obtain rfl := T.a2 (hpre 2 (by kernel_rfl))
        go_simp
        refine (Dk.copy_any sa ca n sc m cc w.heap.size S C f d w' nb mb (HS.out w' T.be) (HC.out w' T.be)).mono ?_
        rintro _ w'' ⟨v, rfl, hv, hb⟩
        exact ⟨u0, u1, _, v, u4, u5, rfl, T.call3 hL (hv.mono T.be.size) hb (fun _ _ _ h hb => h.below hb)⟩
      | 4, _ =>
        simp at ho
        subst ho
        go_simp
        exact ⟨u0, u1, u2, u3, _, u5, rfl, T.alloc4 hL rfl (fun _ _ _ h hb => h.below hb)⟩
      | 5, _ =>
        simp at ho
        subst ho
        go_simp
        exact ⟨u0, u1, u2, u3, u4, _, rfl, T.alloc5 hL rfl (fun _ _ _ h hb => h.below hb)⟩
      | 6, _ =>
        simp at ho
        subst ho
        have h1 := hpre 1 (by kernel_rfl)
        have h4 := hpre 4 (by kernel_rfl)
        obtain ⟨b, c0, e4, _, hb, hs, _⟩ := T.a4 h4
        obtain ⟨sa1, sc1, ca1, cc1, rfl, p1, q1⟩ := T.a1 h1
        subst e4
        refine wp_store_row 35 (.tmp 7) (.tmp 18) rfl b #[.slice sa1 n sc1, .slice ca1 m cc1, .int .i64 f, .bool d] rfl rfl 35 c0 hb (by kernel_rfl) hs (disk_one _ _ _ _ _ _ _ _) ?_
        exact ⟨u0, _, u2, u3, _, u5, rfl, T.store6 h1 h4 rfl rfl hb rfl (fun _ _ _ _ c h hb => Twin.Copied.row h hb c)⟩
      | 7, _ =>
        simp at ho
        subst ho
        have h1 := hpre 3 (by kernel_rfl)
        have h4 := hpre 5 (by kernel_rfl)
        obtain ⟨b, c0, e4, _, hb, hs, _⟩ := T.a5 h4
        obtain ⟨sa1, sc1, ca1, cc1, rfl, p1, q1⟩ := T.a3 h1
        subst e4
        refine wp_store_row 35 (.tmp 8) (.tmp 20) rfl b #[.slice sa1 n sc1, .slice ca1 m cc1, .int .i64 f, .bool d] rfl rfl 35 c0 hb (by kernel_rfl) hs (disk_one _ _ _ _ _ _ _ _) ?_
        exact ⟨u0, u1, u2, _, u4, _, rfl, T.store7 h1 h4 rfl rfl hb rfl (fun _ _ _ _ c h hb => Twin.Copied.row h hb c)⟩
      | i + 8, h => omega
    rintro L a' w5A hall ⟨u0, u1, u2, u3, u4, u5, rfl, T⟩
    obtain ⟨bA, cA, bB, cB, rfl, rfl, lA, lB, hneA, hA, hB, pA, pB, hbeA⟩ := T.fin hall
    clear T hall
    simp only [List.drop_succ_cons, List.drop_zero]
    refine wpList_nil ?_
    obtain ⟨sa1, sc1, ca1, cc1, hX⟩ := Twin.Copied.has' pA hA nb mb
    obtain ⟨sa2, sc2, ca2, cc2, hY⟩ := Twin.Copied.has' pB hB nb mb
    clear pA pB
    have HX := Lib.hid (fun w' (hw' : Below w5A.heap.size w5A w') => hX.below hw')
    have HY := Lib.hid (fun w' (hw' : Below w5A.heap.size w5A w') => hY.below hw')
    have HB := Lib.hid (fun w' (hw' : Below w5A.heap.size w5A w') => hbeA.trans (hw'.mono hbeA.size))
    obtain ⟨m0, m1⟩ := HMX.out w5A hbeA
    clear hX hY hA hB hneA
    go_wp2_with fail
    refine (read_d (HasD.of (HX.out w5A (Below.refl _ _))) gen k F T pa cap w.heap.size x ((HT.out w5A hbeA)) hk47 HFF.out).mono ?_
    rintro _ w6 ⟨rfl, hb6⟩
    have HRR := Lib.hid (fun W (h : HasD W bB n ⟨m, S, C, f, d⟩) hl => refread_d h gen k F T pa cap w.heap.size x hl hk47)
    generalize rV n ⟨m, S, C, f, d⟩ gen k F T x = V at HRR ⊢
    generalize rE n ⟨m, S, C, f, d⟩ gen k F T x = E at HRR ⊢
    have hB6 := HB.out w6 hb6
    have p0 := fun o => (HMX.out _ (hB6.alloc hB6.size o)).1
    have p1 := fun o => (HMX.out _ (hB6.alloc hB6.size o)).2
    have hs6 := hb6.size
    clear m0 m1
    dsimp only
    go_wp2_with (refine wpList_store_row rfl 22 (.tmp 9) (.tmp 25) rfl w6.heap.size (bl V).toArray rfl rfl 22 _ (heap_alloc_new _ _) (size_bl' _) rfl (bl_all _) ?_; rw [World.setRow_alloc_new]; simp only [Act.put])
    generalize hW7 : w6.alloc (.cells (bl V).toArray 22) = W7
    have hb7 : Below w6.heap.size w6 W7 := by rw [← hW7]; exact (Below.refl _ _).alloc (Nat.le_refl _) _
    have hr7 : W7.heap[w6.heap.size]? = some (.cells (bl V).toArray 22 (0, 0)) := by rw [← hW7]; exact heap_alloc_new _ _
    have hs7 : W7.heap.size = w6.heap.size + 1 := by rw [← hW7]; simp
    clear hW7 p0 p1
    have hb57 : Below w5A.heap.size w5A W7 := hb6.trans (hb7.mono hs6)
    refine (HRR.out W7 (HasD.of (HY.out W7 hb57)) (HT.out W7 (HB.out W7 hb57))).mono ?_
    rintro _ w8 ⟨rfl, hb8⟩
    have hs8 := hb8.size
    have hr8 := (hb8.block w6.heap.size (by omega)).trans hr7
    have hb58 : Below w5A.heap.size w5A w8 := hb57.trans (hb8.mono (by omega))
    obtain ⟨W9, hW9, hb9, hy9, hs9⟩ : ∃ W9, W9 = w8.alloc (.cells (bl V).toArray 22) ∧ Below w8.heap.size w8 W9 ∧ W9.heap[w8.heap.size]? = some (.cells (bl V).toArray 22 (0, 0)) ∧ W9.heap.size = w8.heap.size + 1 :=
      ⟨_, rfl, (Below.refl _ _).alloc (Nat.le_refl _) _, heap_alloc_new _ _, by simp⟩
    have hx9 := Twin.row_of ((hb9.block w6.heap.size (by omega)).trans hr8)
    have hz9 := Twin.row_of hy9
    have hb59 : Below w5A.heap.size w5A W9 := hb58.trans (hb9.mono (by omega))
    have hX9 := HX.out W9 hb59
    have c0 := hX9.bx.c0
    have c1 := hX9.bx.c1
    have c2 := hX9.bx.c2
    have c3 := hX9.bx.c3
    have hD9 := HBX.out W9 (HB.out W9 hb59)
    have d0 := hD9.c0
    have d1 := hD9.c1
    have d2 := hD9.c2
    have d3 := hD9.c3
    have HSM := Lib.hid (same_any sa1 ca1 sa ca n sc1 m cc1 sc cc bA w.heap.size S C f d W9 hn47 hm47 hX9.ss hX9.cs (HS.out W9 (HB.out W9 hb59)) (HC.out W9 (HB.out W9 hb59)))
    have hB9 : Below w.heap.size w W9 := hB2.trans ((HB.out W9 hb59).mono hB2.size)
    clear hr7 hr8 hy9 hb7 hb8 hb9 hb58 hb57 hX9 hD9 HRR hb6
    dsimp only
    subst hW9
    go_wp2_with (first
      | (refine @wpList_store_row _ _ _ _ _ _ _ rfl 22 (.tmp 11) (.tmp 31) rfl w8.heap.size (bl V).toArray rfl rfl 22 _ (heap_alloc_new _ _) (size_bl' _) rfl (bl_all _) ?_; rw [World.setRow_alloc_new]; simp only [Act.put])
      | (refine @wpList_loadG _ _ _ _ _ _ _ (by kernel_rfl) 22 (.tmp 9) rfl w6.heap.size 0 rfl (bl V) _ hx9 undB rfl (size_bl V) ?_; simp only [Act.put, List.setIfInBounds_toArray, List.set_cons_succ, List.set_cons_zero])
      | (refine @wpList_loadG _ _ _ _ _ _ _ (by kernel_rfl) 22 (.tmp 11) rfl w8.heap.size 0 rfl (bl V) _ hz9 undB rfl (size_bl V) ?_; simp only [Act.put, List.setIfInBounds_toArray, List.set_cons_succ, List.set_cons_zero])
      | (refine @wpList_eqlV _ _ _ _ _ _ _ 22 _ (.tmp 33) (.tmp 34) rfl (by kernel_rfl) (bl V).toArray (bl V).toArray rfl rfl true guardBl (by rw [Eqb.eq_bl, eqB_same]) ?_; simp only [Act.put, List.setIfInBounds_toArray, List.set_cons_succ, List.set_cons_zero]))
    refine HSM.out.mono ?_
    rintro _ w10 ⟨rfl, hb10⟩
    dsimp only
    go_wp2_with fail
    go_ret
    exact ⟨rfl, hB9.trans (hb10.mono hB9.size)⟩
end Rm
end Go.Proofs.YtllejfnmbpjhaaaDoor
