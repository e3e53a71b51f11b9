/- RemapWrites: the law's walk (made by tools/gen_lwrites4.py). -/
import Derived.Test.YtllejfnmbpjhaaaDoorRmPair
import Derived.Test.YtllejfnmbpjhaaaDoorRmRefWr
import Derived.Test.YtllejfnmbpjhaaaDoorJRc
import Derived.Test.YtllejfnmbpjhaaaDoorEq
namespace Go.Proofs.YtllejfnmbpjhaaaDoor
set_option maxRecDepth 20000
namespace Rm
open Go.RowKit Dk Byt Eqb

attribute [local go_sem] zv29
attribute [local go_sem] zc29
def WrTwin (x0 x1 x2 x4 x5 x6 x9 x10 x11 x12 x13 x14 x15 x16 x21 x22 x23 x24 x25 x26 x27 x28 x29 x30 x31 x32 x33 x34 x35 x36 x37 x38 x39 x40 x41 x42 x43 x44 x45 x46 x47 : Value) (bx : Nat) (dv : Value) (n m : Nat) (S : Nat → Sec) (C : Nat → Wr) (f : Int) (d : Bool) (W : World) (L : Nat → Bool) (a' : Act) (w' : World) : Prop :=
  ∃ u0 u1 u2 u3 u4 u5, a' = { tmps := #[x0, x1, x2, .pointer (some ⟨bx, 0, none⟩), x4, x5, x6, u4, u5, x9, x10, x11, x12, x13, x14, x15, x16, u0, u1, u2, u3, x21, x22, x23, x24, x25, x26, x27, x28, x29, x30, x31, x32, x33, x34, x35, x36, x37, x38, x39, x40, x41, x42, x43, x44, x45, x46, x47], defers := [] } ∧ Twin.Tw (fun v w' => Copied W n m S C f d v w') 35 4 dv W L u0 u1 u2 u3 u4 u5 w'
def WrTab (x0 x1 x2 x3 x5 x6 x7 x8 x11 x12 x13 x14 x15 x16 x17 x18 x19 x20 x25 x26 x27 x28 x29 x30 x31 x32 x33 x34 x35 x36 x37 x38 x39 x40 x41 x42 x43 x44 x45 x46 x47 : Value) (bx : Nat) (dv : Value) (gen : Int) (k : Nat) (F T : Nat → Int) (W : World) (L : Nat → Bool) (a' : Act) (w' : World) : Prop :=
  ∃ u0 u1 u2 u3 u4 u5, a' = { tmps := #[x0, x1, x2, x3, .pointer (some ⟨bx, 0, none⟩), x5, x6, x7, x8, u4, u5, x11, x12, x13, x14, x15, x16, x17, x18, x19, x20, u0, u1, u2, u3, x25, x26, x27, x28, x29, x30, x31, x32, x33, x34, x35, x36, x37, x38, x39, x40, x41, x42, x43, x44, x45, x46, x47], defers := [] } ∧ Twin.Tw (fun v w' => NewTab w' W.heap.size gen k F T v) 26 2 dv W L u0 u1 u2 u3 u4 u5 w'
def WrInv (x0 x1 x2 x3 x4 x6 x13 x14 x15 x16 x17 x18 x19 x20 x21 x22 x23 x24 x35 x36 x37 x38 x39 x40 x41 x42 x43 x44 x45 x46 x47 : Value) (bA bP bB bQ lb n : Nat) (X X' : Dst) (M M' : Tab) (x : Int) (D : Nat → Int) (E : Int) (w0 : World) (L : Nat → Bool) (a' : Act) (w' : World) : Prop :=
  ∃ u0 u1 u2 u3 u4 u5 u6 u7 u8 u9 u10 u11, a' = { tmps := #[x0, x1, x2, x3, x4, .pointer (some ⟨lb, 0, none⟩), x6, .pointer (some ⟨bA, 0, none⟩), .pointer (some ⟨bB, 0, none⟩), .pointer (some ⟨bP, 0, none⟩), .pointer (some ⟨bQ, 0, none⟩), u10, u11, x13, x14, x15, x16, x17, x18, x19, x20, x21, x22, x23, x24, u0, u1, u2, u3, u4, u5, u6, u7, u8, u9, x35, x36, x37, x38, x39, x40, x41, x42, x43, x44, x45, x46, x47], defers := [] } ∧ (L 0 = true → u0 = .pointer (some ⟨lb, 0, none⟩)) ∧ (L 1 = true → u1 = .int .i64 x) ∧ (L 2 = true → u2 = .pointer (some ⟨lb, 1, none⟩)) ∧ (L 3 = true → u3 = .agg (bl D).toArray) ∧ (L 4 = true → u4 = .int .i64 E) ∧ (L 5 = true → u5 = .pointer (some ⟨lb, 0, none⟩)) ∧ (L 6 = true → u6 = .int .i64 x) ∧ (L 7 = true → u7 = .pointer (some ⟨lb, 1, none⟩)) ∧ (L 8 = true → u8 = .agg (bl D).toArray) ∧ (L 9 = true → u9 = .int .i64 E) ∧ (L 10 = true → u10 = .int .i64 E) ∧ (L 11 = true → u11 = .int .i64 E) ∧ PrW bA bP bB bQ n X X' M M' w0 (L 4) (L 9) w'
theorem WrInv_kl {L : Nat → Bool} {i k : Nat} {Q : Prop} (h : L k = true → Q) (h1 : (k == i) = false) : (k == i || L k) = true → Q := by
  rw [h1, Bool.false_or]
  exact h

theorem lay_cells {w : World} {b : Nat} {x : Int} {D : Nat → Int} {t : TypeId} {fr : Nat × Nat} (h : w.heap[b]? = some (.cells (wrV ⟨x, D⟩).toArray t fr)) : w.cell? ⟨b, 0, none⟩ = some (.int .i64 x) ∧ w.rangeAt b 1 (bl D) :=
  ⟨by rw [cell_of_row _ _ _ _ _ _ h]; rfl, fun j v hv => by
    rw [cell_of_row _ _ _ _ _ _ h, Nat.add_comm]
    simpa [wrV] using hv⟩

set_option maxRecDepth 100000 in
set_option maxHeartbeats 8000000 in
theorem lwrites4_any (sa ca : Option Addr) (n sc m cc : Nat) (S : Nat → Sec) (C : Nat → Wr) (f : Int) (d : Bool) (gen : Int) (k : Nat) (F T : Nat → Int) (pa : Option Addr) (cap : Nat) (x : Int) (D : Nat → Int) (w : World) (nb : n * 130 ≤ 140737488355328) (mb : m * 136 ≤ 140737488355328) (hf : i64 f)
    (hs : Lay w w.heap.size w.heap.size sa n sc 130 (fun i => secV (S i))) (hc : Lay w w.heap.size w.heap.size ca m cc 129 (fun i => wrV (C i))) (hl : Lay w w.heap.size w.heap.size pa k cap 2 (prV F T)) (hk16 : k * 16 ≤ 140737488355328) (hF : ∀ i, i < k → i64 (F i) ∧ i64 (T i)) (hkp : Kp w) :
    Calls Tryd.prog 5 #[.agg #[.slice sa n sc, .slice ca m cc, .int .i64 f, .bool d], .agg #[.int .i64 gen, .slice pa k cap], .agg (wrV ⟨x, D⟩).toArray] w fun e w' => e = .returned (.bool true) ∧ Below w.heap.size w w' := by
  have hn47 : n ≤ 140737488355328 := by omega
  have hm47 : m ≤ 140737488355328 := by omega
  have hk47 : k ≤ 140737488355328 := by omega
  have HK := Lib.hid (fun W (hb : Below w.heap.size w W) => hkp.below hb)
  have HL := Lib.hid (fun W (hb : Below w.heap.size w W) => (hl.below hb).more hb.size)
  have HS0 := Lib.hid (fun W (hb : Below w.heap.size w W) => (hs.below hb).more hb.size)
  have HC0 := Lib.hid (fun W (hb : Below w.heap.size w W) => (hc.below hb).more hb.size)
  have HFF := Lib.hid hF
  have HF64 := Lib.hid hf
  clear hl hs hc hF hkp hf
  obtain ⟨W, hW, hb0, bx0, tx0, lx0, hs0⟩ : ∃ W, W = ((w.alloc (.cells #[.slice sa n sc, .slice ca m cc, .int .i64 f, .bool d] 35)).alloc (.cells #[.int .i64 gen, .slice pa k cap] 26)).alloc (.cells (wrV ⟨x, D⟩).toArray 44) ∧ Below w.heap.size w W ∧ Bx W w.heap.size (.slice sa n sc) (.slice ca m cc) (.int .i64 f) (.bool d) ∧
      W.heap[w.heap.size + 1]? = some (.cells #[.int .i64 gen, .slice pa k cap] 26 (0, 0)) ∧ W.heap[w.heap.size + 2]? = some (.cells (wrV ⟨x, D⟩).toArray 44 (0, 0)) ∧ W.heap.size = w.heap.size + 3 := by
    refine ⟨_, rfl, (((Below.refl _ _).alloc (Nat.le_refl _) _).alloc (by simp) _).alloc (by simp; omega) _, (Below.heap_alloc _ _ _ (by simp; omega)).trans ((Below.heap_alloc _ _ _ (by simp)).trans (heap_alloc_new _ _)), (Below.heap_alloc _ _ _ (by simp)).trans ?_, ?_, by simp⟩
    · have := heap_alloc_new (w.alloc (.cells #[.slice sa n sc, .slice ca m cc, .int .i64 f, .bool d] 35)) (.cells #[.int .i64 gen, .slice pa k cap] 26)
      rwa [World.size_alloc] at this
    · have := heap_alloc_new ((w.alloc (.cells #[.slice sa n sc, .slice ca m cc, .int .i64 f, .bool d] 35)).alloc (.cells #[.int .i64 gen, .slice pa k cap] 26)) (.cells (wrV ⟨x, D⟩).toArray 44)
      rwa [World.size_alloc, World.size_alloc] at this
  have HBW := Lib.hid (fun w' (hw' : Below W.heap.size W w') => bx0.below hw')
  have HMW := Lib.hid (fun w' (hw' : Below W.heap.size W w') => show w'.cell? ⟨w.heap.size + 1, 0, none⟩ = some (.int .i64 gen) ∧ w'.cell? ⟨w.heap.size + 1, 1, none⟩ = some (.slice pa k cap) from
    ⟨(hw'.cell (p := ⟨w.heap.size + 1, 0, none⟩) (by show w.heap.size + 1 < _; omega)).trans (by rw [cell_of_row _ _ _ _ _ _ tx0]; rfl), (hw'.cell (p := ⟨w.heap.size + 1, 1, none⟩) (by show w.heap.size + 1 < _; omega)).trans (by rw [cell_of_row _ _ _ _ _ _ tx0]; rfl)⟩)
  have HLWW := Lib.hid (fun w' (hw' : Below W.heap.size W w') => lay_cells ((hw'.block (w.heap.size + 2) (by omega)).trans lx0))
  have und := und29
  have hl2 := size_bl D
  clear bx0 tx0 lx0
  go_enter Tryd.func5, Tryd.ntmps5
  go_wp2_with fail
  rw [← hW]
  clear hW
  refine (alive4_any W (HK.out W hb0)).mono ?_
  rintro _ w1 ⟨rfl, hb1⟩
  obtain ⟨d0, d1, d2, d3⟩ : _ ∧ _ ∧ _ ∧ _ := ⟨(HBW.out w1 hb1).c0, (HBW.out w1 hb1).c1, (HBW.out w1 hb1).c2, (HBW.out w1 hb1).c3⟩
  dsimp only
  go_wp2_with fail
  refine (great_any sa ca n sc m cc f d w1).mono ?_
  rintro _ w2 ⟨rfl, hb2⟩
  have hw2 : Below W.heap.size W w2 := hb1.trans (hb2.mono hb1.size)
  have hB2 : Below w.heap.size w w2 := hb0.trans (hw2.mono hb0.size)
  clear d0 d1 d2 d3 hb1 hb2
  dsimp only
  by_cases hgr : (300 : Int) < (m : Int)
  · go_wp2_with fail
    go_ret
    exact ⟨rfl, hB2⟩
  · have HBX := Lib.hid (fun w' (hw' : Below w2.heap.size w2 w') => HBW.out w' (hw2.trans (hw'.mono hw2.size)))
    have HM2 := Lib.hid (fun w' (hw' : Below w2.heap.size w2 w') => HMW.out w' (hw2.trans (hw'.mono hw2.size)))
    have HLW := Lib.hid (fun w' (hw' : Below w2.heap.size w2 w') => HLWW.out w' (hw2.trans (hw'.mono hw2.size)))
    have HS := Lib.hid (fun w' (hw' : Below w2.heap.size w2 w') => (HS0.out w' (hB2.trans (hw'.mono hB2.size))))
    have HC := Lib.hid (fun w' (hw' : Below w2.heap.size w2 w') => (HC0.out w' (hB2.trans (hw'.mono hB2.size))))
    have HT2 := Lib.hid (fun w' (hw' : Below w2.heap.size w2 w') => (HL.out w' (hB2.trans (hw'.mono hB2.size))))
    have HKW := Lib.hid (fun w' (hw' : Below w2.heap.size w2 w') => HK.out w' (hB2.trans (hw'.mono hB2.size)))
    have hx2 : w.heap.size + 2 < w2.heap.size := by have := hw2.size; omega
    have hOK : Ok 23 ⟨m, S, C, f, d⟩ := ⟨by show (m + 23) * 136 ≤ _; omega, HF64.out⟩
    have HOK := Lib.hid hOK
    clear HBW HMW HLWW HS0 HC0 HL hs0 hw2 hOK
    go_wp2_with fail
    refine QuietTail2.regionInv (n := 8) (Inv := WrTwin _ _ _ _ _ _ _ _ _ _ _ _ _ _ _ _ _ _ _ _ _ _ _ _ _ _ _ _ _ _ _ _ _ _ _ _ _ _ _ _ _ w.heap.size (.agg #[.slice sa n sc, .slice ca m cc, .int .i64 f, .bool d]) n m S C f d w2) (by kernel_rfl) (by decide) (by kernel_rfl) ⟨_, _, _, _, _, _, rfl, Twin.Tw.start⟩ ?stepA ?finA
    case stepA =>
      rintro i o hi ho L a' w' ⟨u0, u1, u2, u3, u4, u5, rfl, TT⟩ hL hpre
      match i, hi with
      | 0, _ =>
        simp at ho
        subst ho
        have hH := HBX.out w' TT.be; have k0 := hH.c0; have k1 := hH.c1; have k2 := hH.c2; have k3 := hH.c3; clear hH
        go_simp
        exact ⟨_, u1, u2, u3, u4, u5, rfl, TT.load0⟩
      | 1, _ =>
        simp at ho
        subst ho
        obtain rfl := TT.a0 (hpre 0 (by kernel_rfl))
        go_simp
        refine (Dk.copy_any sa ca n sc m cc w.heap.size S C f d w' nb mb (HS.out w' TT.be) (HC.out w' TT.be)).mono ?_
        rintro _ w'' ⟨v, rfl, hv, hb⟩
        exact ⟨_, v, u2, u3, u4, u5, rfl, TT.call1 hL (hv.mono TT.be.size) hb (fun _ _ _ h hb => h.below hb)⟩
      | 2, _ =>
        simp at ho
        subst ho
        have hH := HBX.out w' TT.be; have k0 := hH.c0; have k1 := hH.c1; have k2 := hH.c2; have k3 := hH.c3; clear hH
        go_simp
        exact ⟨u0, u1, _, u3, u4, u5, rfl, TT.load2⟩
      | 3, _ =>
        simp at ho
        subst ho
        obtain rfl := TT.a2 (hpre 2 (by kernel_rfl))
        go_simp
        refine (Dk.copy_any sa ca n sc m cc w.heap.size S C f d w' nb mb (HS.out w' TT.be) (HC.out w' TT.be)).mono ?_
        rintro _ w'' ⟨v, rfl, hv, hb⟩
        exact ⟨u0, u1, _, v, u4, u5, rfl, TT.call3 hL (hv.mono TT.be.size) hb (fun _ _ _ h hb => h.below hb)⟩
      | 4, _ =>
        simp at ho
        subst ho
        go_simp
        exact ⟨u0, u1, u2, u3, _, u5, rfl, TT.alloc4 hL rfl (fun _ _ _ h hb => h.below hb)⟩
      | 5, _ =>
        simp at ho
        subst ho
        go_simp
        exact ⟨u0, u1, u2, u3, u4, _, rfl, TT.alloc5 hL rfl (fun _ _ _ h hb => h.below hb)⟩
      | 6, _ =>
        simp at ho
        subst ho
        have h1 := hpre 1 (by kernel_rfl)
        have h4 := hpre 4 (by kernel_rfl)
        obtain ⟨b, c0, e4, _, hb, hs, _⟩ := TT.a4 h4
        obtain ⟨sa1, sc1, ca1, cc1, rfl, p1, q1⟩ := TT.a1 h1
        subst e4
        refine wp_store_row 35 (.tmp 7) (.tmp 18) rfl b #[.slice sa1 n sc1, .slice ca1 m cc1, .int .i64 f, .bool d] rfl rfl 35 c0 hb (by kernel_rfl) hs (disk_one _ _ _ _ _ _ _ _) ?_
        exact ⟨u0, _, u2, u3, _, u5, rfl, TT.store6 h1 h4 rfl rfl hb rfl (fun _ _ _ _ c h hb => Twin.Copied.row h hb c)⟩
      | 7, _ =>
        simp at ho
        subst ho
        have h1 := hpre 3 (by kernel_rfl)
        have h4 := hpre 5 (by kernel_rfl)
        obtain ⟨b, c0, e4, _, hb, hs, _⟩ := TT.a5 h4
        obtain ⟨sa1, sc1, ca1, cc1, rfl, p1, q1⟩ := TT.a3 h1
        subst e4
        refine wp_store_row 35 (.tmp 8) (.tmp 20) rfl b #[.slice sa1 n sc1, .slice ca1 m cc1, .int .i64 f, .bool d] rfl rfl 35 c0 hb (by kernel_rfl) hs (disk_one _ _ _ _ _ _ _ _) ?_
        exact ⟨u0, u1, u2, _, u4, _, rfl, TT.store7 h1 h4 rfl rfl hb rfl (fun _ _ _ _ c h hb => Twin.Copied.row h hb c)⟩
      | i + 8, h => omega
    rintro L a' w5A hall ⟨u0, u1, u2, u3, u4, u5, rfl, TT⟩
    obtain ⟨bA, cA, bB, cB, rfl, rfl, lA, lB, hneA, hA, hB, pA, pB, hbeA⟩ := TT.fin hall
    clear TT hall
    simp only [List.drop_succ_cons, List.drop_zero]
    refine wpList_nil ?_
    obtain ⟨sa1, sc1, ca1, cc1, hX⟩ := Twin.Copied.has' pA hA nb mb
    obtain ⟨sa2, sc2, ca2, cc2, hY⟩ := Twin.Copied.has' pB hB nb mb
    clear pA pB
    have HX := Lib.hid hX
    have HY := Lib.hid hY
    have HMX := Lib.hid (fun w' (hw' : Below w5A.heap.size w5A w') => HM2.out w' (hbeA.trans (hw'.mono hbeA.size)))
    have HT := Lib.hid (fun w' (hw' : Below w5A.heap.size w5A w') => HT2.out w' (hbeA.trans (hw'.mono hbeA.size)))
    have hx5 : w.heap.size + 2 < w5A.heap.size := by have := hbeA.size; omega
    clear hX hY HM2 HT2
    go_wp2_with fail
    refine QuietTail2.regionInv (n := 8) (Inv := WrTab _ _ _ _ _ _ _ _ _ _ _ _ _ _ _ _ _ _ _ _ _ _ _ _ _ _ _ _ _ _ _ _ _ _ _ _ _ _ _ _ _ (w.heap.size + 1) (.agg #[.int .i64 gen, .slice pa k cap]) gen k F T w5A) (by kernel_rfl) (by decide) (by kernel_rfl) ⟨_, _, _, _, _, _, rfl, Twin.Tw.start⟩ ?stepP ?finP
    case stepP =>
      rintro i o hi ho L a' w' ⟨u0, u1, u2, u3, u4, u5, rfl, TT⟩ hL hpre
      match i, hi with
      | 0, _ =>
        simp at ho
        subst ho
        obtain ⟨k0, k1⟩ := HMX.out w' TT.be
        go_simp
        exact ⟨_, u1, u2, u3, u4, u5, rfl, TT.load0⟩
      | 1, _ =>
        simp at ho
        subst ho
        obtain rfl := TT.a0 (hpre 0 (by kernel_rfl))
        go_simp
        refine (refcopy_any gen k F T pa cap w.heap.size w' (HT.out w' TT.be) hk16).mono ?_
        rintro _ w'' ⟨⟨v, rfl, hv⟩, hb⟩
        exact ⟨_, v, u2, u3, u4, u5, rfl, TT.call1 hL (hv.mono TT.be.size) hb (fun _ _ _ h hb => NewTab.below h hb)⟩
      | 2, _ =>
        simp at ho
        subst ho
        obtain ⟨k0, k1⟩ := HMX.out w' TT.be
        go_simp
        exact ⟨u0, u1, _, u3, u4, u5, rfl, TT.load2⟩
      | 3, _ =>
        simp at ho
        subst ho
        obtain rfl := TT.a2 (hpre 2 (by kernel_rfl))
        go_simp
        refine (refcopy_any gen k F T pa cap w.heap.size w' (HT.out w' TT.be) hk16).mono ?_
        rintro _ w'' ⟨⟨v, rfl, hv⟩, hb⟩
        exact ⟨u0, u1, _, v, u4, u5, rfl, TT.call3 hL (hv.mono TT.be.size) hb (fun _ _ _ h hb => NewTab.below h hb)⟩
      | 4, _ =>
        simp at ho
        subst ho
        go_simp
        exact ⟨u0, u1, u2, u3, _, u5, rfl, TT.alloc4 hL rfl (fun _ _ _ h hb => NewTab.below h hb)⟩
      | 5, _ =>
        simp at ho
        subst ho
        go_simp
        exact ⟨u0, u1, u2, u3, u4, _, rfl, TT.alloc5 hL rfl (fun _ _ _ h hb => NewTab.below h hb)⟩
      | 6, _ =>
        simp at ho
        subst ho
        have h1 := hpre 1 (by kernel_rfl)
        have h4 := hpre 4 (by kernel_rfl)
        obtain ⟨b, c0, e4, _, hb, hs, _⟩ := TT.a4 h4
        obtain ⟨ao1, cap1, rfl, q1⟩ := TT.a1 h1
        subst e4
        refine wp_store_row 26 (.tmp 9) (.tmp 22) rfl b #[.int .i64 gen, .slice ao1 k cap1] rfl rfl 26 c0 hb (by kernel_rfl) hs (tb_one _ _ _ _) ?_
        exact ⟨u0, _, u2, u3, _, u5, rfl, TT.store6 h1 h4 rfl rfl hb rfl (fun _ _ _ _ c h hb => NewTab.row h hb c)⟩
      | 7, _ =>
        simp at ho
        subst ho
        have h1 := hpre 3 (by kernel_rfl)
        have h4 := hpre 5 (by kernel_rfl)
        obtain ⟨b, c0, e4, _, hb, hs, _⟩ := TT.a5 h4
        obtain ⟨ao1, cap1, rfl, q1⟩ := TT.a3 h1
        subst e4
        refine wp_store_row 26 (.tmp 10) (.tmp 24) rfl b #[.int .i64 gen, .slice ao1 k cap1] rfl rfl 26 c0 hb (by kernel_rfl) hs (tb_one _ _ _ _) ?_
        exact ⟨u0, u1, u2, _, u4, _, rfl, TT.store7 h1 h4 rfl rfl hb rfl (fun _ _ _ _ c h hb => NewTab.row h hb c)⟩
      | i + 8, h => omega
    rintro L a' w5P hall ⟨u0, u1, u2, u3, u4, u5, rfl, TT⟩
    obtain ⟨bP, cP, bQ, cQ, rfl, rfl, lP, lQ, hneP, hP, hQ, pP, pQ, hbeP⟩ := TT.fin hall
    clear TT hall
    simp only [List.drop_succ_cons, List.drop_zero]
    refine wpList_nil ?_
    have hTA : HasT w5P bP bA ⟨gen, k, F, T⟩ := by
      obtain ⟨ao, cap', e, ho⟩ := pP
      injection e with e
      subst e
      have hA5 := (hbeP.block bA (Array.getElem?_eq_some_iff.1 hA).1).trans hA
      exact ⟨ao, cap', hP, Twin.lay_owns (fun i _ => prV_length F T i) ho hA5 (by decide)⟩
    have hTB : HasT w5P bQ bB ⟨gen, k, F, T⟩ := by
      obtain ⟨ao, cap', e, ho⟩ := pQ
      injection e with e
      subst e
      have hB5 := (hbeP.block bB (Array.getElem?_eq_some_iff.1 hB).1).trans hB
      exact ⟨ao, cap', hQ, Twin.lay_owns (fun i _ => prV_length F T i) ho hB5 (by decide)⟩
    have hsA := hbeA.size
    have hPr : Pr bA bP bB bQ n ⟨m, S, C, f, d⟩ ⟨m, S, C, f, d⟩ ⟨gen, k, F, T⟩ ⟨gen, k, F, T⟩ w2 w5P :=
      ⟨(HasD.of HX.out).below hbeP, hTA, (HasD.of HY.out).below hbeP, hTB, hbeA.trans (hbeP.mono hsA), lA, Nat.le_trans hsA lP, lB, Nat.le_trans hsA lQ, hneA, hneP⟩
    have HP := Lib.hid hPr
    have hTM : TabOk ⟨gen, k, F, T⟩ := ⟨hk47, HFF.out⟩
    have HW1 := Lib.hid (fun w' (hw' : Below w2.heap.size w2 w') (hD : HasD w' bA n ⟨m, S, C, f, d⟩) (hM : HasT w' bP bA ⟨gen, k, F, T⟩) => rwrite_d hD (HKW.out w' hw') HOK.out gen k F T hM hTM hPr.ap.1 x D)
    have HW2 := Lib.hid (fun w' (hw' : Below w2.heap.size w2 w') (hD : HasD w' bB n ⟨m, S, C, f, d⟩) (hM : HasT w' bQ bB ⟨gen, k, F, T⟩) => refwr_d hD (HKW.out w' hw') HOK.out gen k F T hM hTM hPr.ap.2.2.2 x D)
    have hRk := wRes_k n ⟨m, S, C, f, d⟩ ⟨gen, k, F, T⟩ x D
    dsimp only at hRk
    unfold Wrote at HW1 HW2
    generalize wRes n ⟨m, S, C, f, d⟩ ⟨gen, k, F, T⟩ x D = R at HW1 HW2 hRk
    obtain ⟨E, X', M'⟩ := R
    dsimp only at HW1 HW2 hRk
    clear hPr hTA hTB pP pQ hP hQ hA hB HX HY HMX HT hTM
    go_wp2_with fail
    have HS0 : Hid (PrW bA bP bB bQ n ⟨m, S, C, f, d⟩ X' ⟨gen, k, F, T⟩ M' w2 false false { w5P with drawn := w5P.drawn + 1 }) := Lib.hid (PrW.start (HP.out.below ⟨rfl, rfl, rfl, Nat.le_refl _, fun _ _ => rfl⟩))
    refine QuietTail2.regionInv (n := 12) (Inv := WrInv _ _ _ _ _ _ _ _ _ _ _ _ _ _ _ _ _ _ _ _ _ _ _ _ _ _ _ _ _ _ _ bA bP bB bQ (w.heap.size + 2) n ⟨m, S, C, f, d⟩ X' ⟨gen, k, F, T⟩ M' x D E w2) (by kernel_rfl) (by decide) (by kernel_rfl) ⟨_, _, _, _, _, _, _, _, _, _, _, _, rfl, by simp, by simp, by simp, by simp, by simp, by simp, by simp, by simp, by simp, by simp, by simp, by simp, HS0.out⟩ ?step ?fin
    case step =>
      rintro i o hi ho L a' w' ⟨u0, u1, u2, u3, u4, u5, u6, u7, u8, u9, u10, u11, rfl, i0, i1, i2, i3, i4, i5, i6, i7, i8, i9, i10, i11, iW⟩ hL hpre
      match i, hi with
      | 0, _ =>
        simp at ho
        subst ho
        go_simp
        exact ⟨_, u1, u2, u3, u4, u5, u6, u7, u8, u9, u10, u11, rfl, fun _ => rfl, WrInv_kl i1 rfl, WrInv_kl i2 rfl, WrInv_kl i3 rfl, WrInv_kl i4 rfl, WrInv_kl i5 rfl, WrInv_kl i6 rfl, WrInv_kl i7 rfl, WrInv_kl i8 rfl, WrInv_kl i9 rfl, WrInv_kl i10 rfl, WrInv_kl i11 rfl, iW⟩
      | 1, _ =>
        simp at ho
        subst ho
        obtain rfl := i0 (hpre 0 (by kernel_rfl))
        have k0 := (HLW.out w' iW.be).1
        go_simp
        exact ⟨_, _, u2, u3, u4, u5, u6, u7, u8, u9, u10, u11, rfl, WrInv_kl i0 rfl, fun _ => rfl, WrInv_kl i2 rfl, WrInv_kl i3 rfl, WrInv_kl i4 rfl, WrInv_kl i5 rfl, WrInv_kl i6 rfl, WrInv_kl i7 rfl, WrInv_kl i8 rfl, WrInv_kl i9 rfl, WrInv_kl i10 rfl, WrInv_kl i11 rfl, iW⟩
      | 2, _ =>
        simp at ho
        subst ho
        go_simp
        exact ⟨u0, u1, _, u3, u4, u5, u6, u7, u8, u9, u10, u11, rfl, WrInv_kl i0 rfl, WrInv_kl i1 rfl, fun _ => rfl, WrInv_kl i3 rfl, WrInv_kl i4 rfl, WrInv_kl i5 rfl, WrInv_kl i6 rfl, WrInv_kl i7 rfl, WrInv_kl i8 rfl, WrInv_kl i9 rfl, WrInv_kl i10 rfl, WrInv_kl i11 rfl, iW⟩
      | 3, _ =>
        simp at ho
        subst ho
        obtain rfl := i2 (hpre 2 (by kernel_rfl))
        refine wp_load_mid 22 (.tmp 27) rfl (w.heap.size + 2) 1 rfl (bl D) _ (HLW.out w' iW.be).2 und rfl hl2 ?_
        simp only [Act.put, List.setIfInBounds_toArray, List.set_cons_succ, List.set_cons_zero]
        exact ⟨u0, u1, _, _, u4, u5, u6, u7, u8, u9, u10, u11, rfl, WrInv_kl i0 rfl, WrInv_kl i1 rfl, WrInv_kl i2 rfl, fun _ => rfl, WrInv_kl i4 rfl, WrInv_kl i5 rfl, WrInv_kl i6 rfl, WrInv_kl i7 rfl, WrInv_kl i8 rfl, WrInv_kl i9 rfl, WrInv_kl i10 rfl, WrInv_kl i11 rfl, iW⟩
      | 4, _ =>
        simp at ho
        subst ho
        obtain rfl := i1 (hpre 1 (by kernel_rfl))
        obtain rfl := i3 (hpre 3 (by kernel_rfl))
        have h9 : L 9 = false := by
          cases e : L 9 with
          | false => rfl
          | true => have := iW.ord e; rw [hL] at this; cases this
        rw [hL, h9] at iW
        go_simp
        refine (HW1.out w' iW.be (iW.s0 rfl).a (iW.s0 rfl).p).mono ?_
        rintro _ w'' ⟨rfl, hT, hD, hM⟩
        have hN := PrW.one iW hT hD hM
        rw [← h9] at hN
        exact ⟨u0, _, u2, _, _, u5, u6, u7, u8, u9, u10, u11, rfl, WrInv_kl i0 rfl, WrInv_kl i1 rfl, WrInv_kl i2 rfl, WrInv_kl i3 rfl, fun _ => rfl, WrInv_kl i5 rfl, WrInv_kl i6 rfl, WrInv_kl i7 rfl, WrInv_kl i8 rfl, WrInv_kl i9 rfl, WrInv_kl i10 rfl, WrInv_kl i11 rfl, hN⟩
      | 5, _ =>
        simp at ho
        subst ho
        go_simp
        exact ⟨u0, u1, u2, u3, u4, _, u6, u7, u8, u9, u10, u11, rfl, WrInv_kl i0 rfl, WrInv_kl i1 rfl, WrInv_kl i2 rfl, WrInv_kl i3 rfl, WrInv_kl i4 rfl, fun _ => rfl, WrInv_kl i6 rfl, WrInv_kl i7 rfl, WrInv_kl i8 rfl, WrInv_kl i9 rfl, WrInv_kl i10 rfl, WrInv_kl i11 rfl, iW⟩
      | 6, _ =>
        simp at ho
        subst ho
        obtain rfl := i5 (hpre 5 (by kernel_rfl))
        have k0 := (HLW.out w' iW.be).1
        go_simp
        exact ⟨u0, u1, u2, u3, u4, _, _, u7, u8, u9, u10, u11, rfl, WrInv_kl i0 rfl, WrInv_kl i1 rfl, WrInv_kl i2 rfl, WrInv_kl i3 rfl, WrInv_kl i4 rfl, WrInv_kl i5 rfl, fun _ => rfl, WrInv_kl i7 rfl, WrInv_kl i8 rfl, WrInv_kl i9 rfl, WrInv_kl i10 rfl, WrInv_kl i11 rfl, iW⟩
      | 7, _ =>
        simp at ho
        subst ho
        go_simp
        exact ⟨u0, u1, u2, u3, u4, u5, u6, _, u8, u9, u10, u11, rfl, WrInv_kl i0 rfl, WrInv_kl i1 rfl, WrInv_kl i2 rfl, WrInv_kl i3 rfl, WrInv_kl i4 rfl, WrInv_kl i5 rfl, WrInv_kl i6 rfl, fun _ => rfl, WrInv_kl i8 rfl, WrInv_kl i9 rfl, WrInv_kl i10 rfl, WrInv_kl i11 rfl, iW⟩
      | 8, _ =>
        simp at ho
        subst ho
        obtain rfl := i7 (hpre 7 (by kernel_rfl))
        refine wp_load_mid 22 (.tmp 32) rfl (w.heap.size + 2) 1 rfl (bl D) _ (HLW.out w' iW.be).2 und rfl hl2 ?_
        simp only [Act.put, List.setIfInBounds_toArray, List.set_cons_succ, List.set_cons_zero]
        exact ⟨u0, u1, u2, u3, u4, u5, u6, _, _, u9, u10, u11, rfl, WrInv_kl i0 rfl, WrInv_kl i1 rfl, WrInv_kl i2 rfl, WrInv_kl i3 rfl, WrInv_kl i4 rfl, WrInv_kl i5 rfl, WrInv_kl i6 rfl, WrInv_kl i7 rfl, fun _ => rfl, WrInv_kl i9 rfl, WrInv_kl i10 rfl, WrInv_kl i11 rfl, iW⟩
      | 9, _ =>
        simp at ho
        subst ho
        obtain rfl := i6 (hpre 6 (by kernel_rfl))
        obtain rfl := i8 (hpre 8 (by kernel_rfl))
        obtain rfl := i4 (hpre 4 (by kernel_rfl))
        have h4 : L 4 = true := hpre 4 (by kernel_rfl)
        rw [hL, h4] at iW
        go_simp
        refine (HW2.out w' iW.be (iW.s1 rfl rfl).b (iW.s1 rfl rfl).q).mono ?_
        rintro _ w'' ⟨rfl, hT, hD, hM⟩
        have hN := PrW.two iW hT hD hM
        exact ⟨u0, u1, u2, u3, _, u5, _, u7, _, _, u10, u11, rfl, WrInv_kl i0 rfl, WrInv_kl i1 rfl, WrInv_kl i2 rfl, WrInv_kl i3 rfl, WrInv_kl i4 rfl, WrInv_kl i5 rfl, WrInv_kl i6 rfl, WrInv_kl i7 rfl, WrInv_kl i8 rfl, fun _ => rfl, WrInv_kl i10 rfl, WrInv_kl i11 rfl, (by show PrW _ _ _ _ _ _ _ _ _ _ (L 4) true _; rw [h4]; exact hN)⟩
      | 10, _ =>
        simp at ho
        subst ho
        obtain rfl := i4 (hpre 4 (by kernel_rfl))
        go_simp
        exact ⟨u0, u1, u2, u3, _, u5, u6, u7, u8, u9, _, u11, rfl, WrInv_kl i0 rfl, WrInv_kl i1 rfl, WrInv_kl i2 rfl, WrInv_kl i3 rfl, WrInv_kl i4 rfl, WrInv_kl i5 rfl, WrInv_kl i6 rfl, WrInv_kl i7 rfl, WrInv_kl i8 rfl, WrInv_kl i9 rfl, fun _ => rfl, WrInv_kl i11 rfl, iW⟩
      | 11, _ =>
        simp at ho
        subst ho
        obtain rfl := i9 (hpre 9 (by kernel_rfl))
        go_simp
        exact ⟨u0, u1, u2, u3, u4, u5, u6, u7, u8, _, u10, _, rfl, WrInv_kl i0 rfl, WrInv_kl i1 rfl, WrInv_kl i2 rfl, WrInv_kl i3 rfl, WrInv_kl i4 rfl, WrInv_kl i5 rfl, WrInv_kl i6 rfl, WrInv_kl i7 rfl, WrInv_kl i8 rfl, WrInv_kl i9 rfl, WrInv_kl i10 rfl, fun _ => rfl, iW⟩
      | i + 12, h => omega
    case fin =>
      rintro L a' w5 hall ⟨u0, u1, u2, u3, u4, u5, u6, u7, u8, u9, u10, u11, rfl, i0, i1, i2, i3, i4, i5, i6, i7, i8, i9, i10, i11, iW⟩
      obtain rfl := i0 (hall 0 (by omega))
      obtain rfl := i1 (hall 1 (by omega))
      obtain rfl := i2 (hall 2 (by omega))
      obtain rfl := i3 (hall 3 (by omega))
      obtain rfl := i4 (hall 4 (by omega))
      obtain rfl := i5 (hall 5 (by omega))
      obtain rfl := i6 (hall 6 (by omega))
      obtain rfl := i7 (hall 7 (by omega))
      obtain rfl := i8 (hall 8 (by omega))
      obtain rfl := i9 (hall 9 (by omega))
      obtain rfl := i10 (hall 10 (by omega))
      obtain rfl := i11 (hall 11 (by omega))
      have hW5 := iW
      rw [hall 4 (by omega), hall 9 (by omega)] at hW5
      clear iW
      clear i0 i1 i2 i3 i4 i5 i6 i7 i8 i9 i10 i11 hall
      simp only [List.drop_succ_cons, List.drop_zero]
      have s := hW5.s2 rfl
      refine wpList_nil ?_
      obtain ⟨sa3, sc3, ca3, cc3, hX⟩ := s.a
      obtain ⟨sa4, sc4, ca4, cc4, hY⟩ := s.b
      obtain ⟨ao3, cp3, tb3, hl3⟩ := s.p
      obtain ⟨ao4, cp4, tb4, hl4⟩ := s.q
      have a0 := hX.bx.c0
      have a1 := hX.bx.c1
      have a2 := hX.bx.c2
      have a3 := hX.bx.c3
      have b0 := hY.bx.c0
      have b1 := hY.bx.c1
      have b2 := hY.bx.c2
      have b3 := hY.bx.c3
      have HBE := Lib.hid (hB2.trans (s.be.mono hB2.size))
      have h47 := hX.n47
      have HSM := Lib.hid (same_any sa3 ca3 sa4 ca4 n sc3 X'.m cc3 sc4 cc4 bA bB X'.S X'.C X'.f X'.d w5 h47.1 h47.2 hX.ss hX.cs hY.ss hY.cs)
      have HRS := Lib.hid (fun W (hb : Below w5.heap.size w5 W) => refsame_any M'.gen M'.k M'.F M'.T ao3 ao4 cp3 cp4 bA bB W (by omega) ((hl3.below hb).more hb.size) ((hl4.below hb).more hb.size))
      have HTC := Lib.hid (fun W (hb : Below w5.heap.size w5 W) => And.intro ((hb.block bP (Array.getElem?_eq_some_iff.1 tb3).1).trans tb3) ((hb.block bQ (Array.getElem?_eq_some_iff.1 tb4).1).trans tb4))
      clear hW5 s hX hY tb3 tb4 hl3 hl4 HS0 HP HW1 HW2
      go_wp2_with fail
      refine HSM.out.mono ?_
      rintro _ w6 ⟨rfl, hb6⟩
      obtain ⟨u3, u4⟩ := HTC.out w6 hb6
      have e0 : w6.cell? ⟨bP, 0, none⟩ = some (.int .i64 M'.gen) := by rw [cell_of_row _ _ _ _ _ _ u3]; rfl
      have e1 : w6.cell? ⟨bP, 1, none⟩ = some (.slice ao3 M'.k cp3) := by rw [cell_of_row _ _ _ _ _ _ u3]; rfl
      have g0 : w6.cell? ⟨bQ, 0, none⟩ = some (.int .i64 M'.gen) := by rw [cell_of_row _ _ _ _ _ _ u4]; rfl
      have g1 : w6.cell? ⟨bQ, 1, none⟩ = some (.slice ao4 M'.k cp4) := by rw [cell_of_row _ _ _ _ _ _ u4]; rfl
      clear a0 a1 a2 a3 b0 b1 b2 b3 u3 u4
      dsimp only
      go_wp2_with fail
      refine (HRS.out w6 hb6).mono ?_
      rintro _ w7 ⟨rfl, hb7⟩
      dsimp only
      go_wp2_with fail
      go_ret
      exact ⟨rfl, HBE.out.trans ((hb6.trans (hb7.mono hb6.size)).mono HBE.out.size)⟩
end Rm
end Go.Proofs.YtllejfnmbpjhaaaDoor
