/- RemapWhole: the law's walk (made by tools/gen_lwhole.py). -/
import Derived.Test.YtllejfnmbpjhaaaDoorRmWholeW
import Derived.Test.YtllejfnmbpjhaaaDoorMix
import Derived.Test.YtllejfnmbpjhaaaDoorRmBack
import Derived.Deep.CutRange
import Derived.BigGuard
namespace Go.Proofs.YtllejfnmbpjhaaaDoor
set_option maxRecDepth 20000
namespace Rm
open Go.RowKit Dk Byt Eqb

attribute [local go_sem] zv29
attribute [local go_sem] zc29
def WhMix (x0 x1 x2 x4 x5 x6 x7 x9 x10 x11 x14 x15 x16 x17 x18 x19 x20 x21 x22 x23 x24 x25 x26 x27 x28 x29 x30 x31 x32 x33 x34 x35 x36 x37 x38 x39 x40 x41 x42 x43 x44 x45 x46 x47 x48 x49 x50 x51 x52 x53 x54 x55 x56 x57 x58 x59 x60 x61 x62 x63 x64 x65 x66 x67 x68 x69 x70 x71 x72 x73 x74 x75 x76 x77 x78 x79 x80 x81 x82 x83 x88 x89 x90 x91 x92 x93 x94 x95 x96 x97 x98 x99 x100 x101 x102 x103 x104 x105 x106 x107 x108 x109 x110 x111 x112 x113 x114 x115 x116 x117 x118 x119 x120 x121 x122 x123 x124 x125 x126 x127 x128 x129 x130 x131 x132 x133 x134 x135 x136 x137 x138 x139 x140 x141 x142 x143 x144 x145 x146 x147 x148 : Value) (bx bt : Nat) (dv ev : Value) (n m : Nat) (S : Nat → Sec) (C : Nat → Wr) (f : Int) (d : Bool) (gen : Int) (k : Nat) (F T : Nat → Int) (W : World) (L : Nat → Bool) (a' : Act) (w' : World) : Prop :=
  ∃ u0 u1 u2 u3 u4 u5, a' = { tmps := #[x0, x1, x2, .pointer (some ⟨bx, 0, none⟩), x4, x5, x6, x7, .pointer (some ⟨bt, 0, none⟩), x9, x10, x11, u4, u5, x14, x15, x16, x17, x18, x19, x20, x21, x22, x23, x24, x25, x26, x27, x28, x29, x30, x31, x32, x33, x34, x35, x36, x37, x38, x39, x40, x41, x42, x43, x44, x45, x46, x47, x48, x49, x50, x51, x52, x53, x54, x55, x56, x57, x58, x59, x60, x61, x62, x63, x64, x65, x66, x67, x68, x69, x70, x71, x72, x73, x74, x75, x76, x77, x78, x79, x80, x81, x82, x83, u0, u1, u2, u3, x88, x89, x90, x91, x92, x93, x94, x95, x96, x97, x98, x99, x100, x101, x102, x103, x104, x105, x106, x107, x108, x109, x110, x111, x112, x113, x114, x115, x116, x117, x118, x119, x120, x121, x122, x123, x124, x125, x126, x127, x128, x129, x130, x131, x132, x133, x134, x135, x136, x137, x138, x139, x140, x141, x142, x143, x144, x145, x146, x147, x148], defers := [] } ∧ Mix.Mx (fun v w' => Copied W n m S C f d v w') (fun v w' => NewTab w' W.heap.size gen k F T v) 35 26 4 2 dv ev W L u0 u1 u2 u3 u4 u5 w'
def WhMix2 (x0 x1 x2 x4 x5 x6 x7 x9 x10 x11 x12 x13 x14 x17 x18 x19 x20 x21 x22 x23 x24 x25 x26 x27 x28 x29 x30 x31 x32 x33 x34 x35 x36 x37 x38 x39 x40 x41 x42 x43 x44 x45 x46 x47 x48 x49 x50 x51 x52 x53 x54 x55 x56 x57 x58 x59 x60 x61 x62 x63 x64 x65 x66 x67 x68 x69 x70 x71 x72 x73 x74 x75 x76 x77 x78 x79 x80 x81 x82 x83 x84 x85 x86 x87 x88 x89 x90 x91 x92 x93 x94 x99 x100 x101 x102 x103 x104 x105 x106 x107 x108 x109 x110 x111 x112 x113 x114 x115 x116 x117 x118 x119 x120 x121 x122 x123 x124 x125 x126 x127 x128 x129 x130 x131 x132 x133 x134 x135 x136 x137 x138 x139 x140 x141 x142 x143 x144 x145 x146 x147 x148 : Value) (bx bt : Nat) (dv ev : Value) (n m : Nat) (S : Nat → Sec) (C : Nat → Wr) (f : Int) (d : Bool) (gen : Int) (k : Nat) (F T : Nat → Int) (W : World) (L : Nat → Bool) (a' : Act) (w' : World) : Prop :=
  ∃ u0 u1 u2 u3 u4 u5, a' = { tmps := #[x0, x1, x2, .pointer (some ⟨bx, 0, none⟩), x4, x5, x6, x7, .pointer (some ⟨bt, 0, none⟩), x9, x10, x11, x12, x13, x14, u4, u5, x17, x18, x19, x20, x21, x22, x23, x24, x25, x26, x27, x28, x29, x30, x31, x32, x33, x34, x35, x36, x37, x38, x39, x40, x41, x42, x43, x44, x45, x46, x47, x48, x49, x50, x51, x52, x53, x54, x55, x56, x57, x58, x59, x60, x61, x62, x63, x64, x65, x66, x67, x68, x69, x70, x71, x72, x73, x74, x75, x76, x77, x78, x79, x80, x81, x82, x83, x84, x85, x86, x87, x88, x89, x90, x91, x92, x93, x94, u0, u1, u2, u3, x99, x100, x101, x102, x103, x104, x105, x106, x107, x108, x109, x110, x111, x112, x113, x114, x115, x116, x117, x118, x119, x120, x121, x122, x123, x124, x125, x126, x127, x128, x129, x130, x131, x132, x133, x134, x135, x136, x137, x138, x139, x140, x141, x142, x143, x144, x145, x146, x147, x148], defers := [] } ∧ Mix.Mx (fun v w' => Copied W n m S C f d v w') (fun v w' => NewTab w' W.heap.size gen k F T v) 35 26 4 2 dv ev W L u0 u1 u2 u3 u4 u5 w'

theorem tb_ldA {n : Nat} {c : Int} (h : isTb n c) : ∃ i : Nat, i < 4 ∧ ldA n i = c := by
  obtain ⟨r, r0, r1, e⟩ := h
  have hr : r = 0 ∨ r = 1 := by omega
  unfold ldA
  rcases hr with rfl | rfl <;> rcases e with rfl | rfl
  · exact ⟨0, by omega, by simp⟩
  · exact ⟨2, by omega, by simp⟩
  · exact ⟨1, by omega, by simp⟩
  · exact ⟨3, by omega, by simp⟩

set_option maxRecDepth 100000 in
set_option maxHeartbeats 8000000 in
theorem lwhole_any (sa ca : Option Addr) (n sc m cc : Nat) (S : Nat → Sec) (C : Nat → Wr) (f : Int) (d : Bool) (x : Int) (D : Nat → Int) (at' : Int) (ka : Option Addr) (kn kc : Nat) (kf : Nat → Bool) (w : World) (nb : n * 130 ≤ 140737488355328) (mb : m * 136 ≤ 140737488355328) (hf : i64 f)
    (hs : Lay w w.heap.size w.heap.size sa n sc 130 (fun i => secV (S i))) (hc : Lay w w.heap.size w.heap.size ca m cc 129 (fun i => wrV (C i))) (hks : Keeps w w.heap.size w.heap.size ka kn kf) (hkn : kn ≤ 140737488355328) (_ : i64 at') (hsb : ∀ i, i < n → byt (S i).data) (hcb : ∀ i, i < m → byt (C i).data) (hkp : Kp w) :
    Calls Tryd.prog 7 #[.agg #[.slice sa n sc, .slice ca m cc, .int .i64 f, .bool d], .agg (wrV ⟨x, D⟩).toArray, .agg #[.int .i64 at', .slice ka kn kc]] w fun e w' => e = .returned (.bool true) ∧ Below w.heap.size w w' := by
  have hn47 : n ≤ 140737488355328 := by omega
  have hm47 : m ≤ 140737488355328 := by omega
  have HK := Lib.hid (fun W (hb : Below w.heap.size w W) => hkp.below hb)
  have HS0 := Lib.hid (fun W (hb : Below w.heap.size w W) => (hs.below hb).more hb.size)
  have HC0 := Lib.hid (fun W (hb : Below w.heap.size w W) => (hc.below hb).more hb.size)
  have HKS := Lib.hid hks
  have HSB := Lib.hid hsb
  have HCB := Lib.hid hcb
  have HF64 := Lib.hid hf
  clear hs hc hkp hf hks hsb hcb
  obtain ⟨W, hW, hb0, bx0, tx0, lx0, hs0⟩ : ∃ W, W = ((w.alloc (.cells #[.slice sa n sc, .slice ca m cc, .int .i64 f, .bool d] 35)).alloc (.cells (wrV ⟨x, D⟩).toArray 44)).alloc (.cells #[.int .i64 at', .slice ka kn kc] 52) ∧ Below w.heap.size w W ∧ Bx W w.heap.size (.slice sa n sc) (.slice ca m cc) (.int .i64 f) (.bool d) ∧
      W.heap[w.heap.size + 1]? = some (.cells (wrV ⟨x, D⟩).toArray 44 (0, 0)) ∧ W.heap[w.heap.size + 2]? = some (.cells #[.int .i64 at', .slice ka kn kc] 52 (0, 0)) ∧ W.heap.size = w.heap.size + 3 := by
    refine ⟨_, rfl, (((Below.refl _ _).alloc (Nat.le_refl _) _).alloc (by simp) _).alloc (by simp; omega) _, (Below.heap_alloc _ _ _ (by simp; omega)).trans ((Below.heap_alloc _ _ _ (by simp)).trans (heap_alloc_new _ _)), (Below.heap_alloc _ _ _ (by simp)).trans ?_, ?_, by simp⟩
    · have := heap_alloc_new (w.alloc (.cells #[.slice sa n sc, .slice ca m cc, .int .i64 f, .bool d] 35)) (.cells (wrV ⟨x, D⟩).toArray 44)
      rwa [World.size_alloc] at this
    · have := heap_alloc_new ((w.alloc (.cells #[.slice sa n sc, .slice ca m cc, .int .i64 f, .bool d] 35)).alloc (.cells (wrV ⟨x, D⟩).toArray 44)) (.cells #[.int .i64 at', .slice ka kn kc] 52)
      rwa [World.size_alloc, World.size_alloc] at this
  have HBW := Lib.hid (fun w' (hw' : Below W.heap.size W w') => bx0.below hw')
  have HLWW := Lib.hid (fun w' (hw' : Below W.heap.size W w') => layB_cells ((hw'.block (w.heap.size + 1) (by omega)).trans tx0))
  have HFWW := Lib.hid (fun w' (hw' : Below W.heap.size W w') => fall_cells ((hw'.block (w.heap.size + 2) (by omega)).trans lx0))
  clear bx0 tx0 lx0
  go_enter Tryd.func7, Tryd.ntmps7
  go_wp2_with fail
  rw [← hW]
  clear hW
  refine (alive4_any W (HK.out W hb0)).mono ?_
  rintro _ w1 ⟨rfl, hb1⟩
  obtain ⟨d0, d1, d2, d3⟩ : _ ∧ _ ∧ _ ∧ _ := ⟨(HBW.out w1 hb1).c0, (HBW.out w1 hb1).c1, (HBW.out w1 hb1).c2, (HBW.out w1 hb1).c3⟩
  dsimp only
  go_wp2_with fail
  refine (great_any sa ca n sc m cc f d w1).mono ?_
  rintro _ w2 ⟨rfl, hb2⟩
  have hw2 : Below W.heap.size W w2 := hb1.trans (hb2.mono hb1.size)
  have hB2 : Below w.heap.size w w2 := hb0.trans (hw2.mono hb0.size)
  have f0 := (HFWW.out w2 hw2).1
  obtain ⟨e0, e1, e2, e3⟩ : _ ∧ _ ∧ _ ∧ _ := ⟨(HBW.out w2 hw2).c0, (HBW.out w2 hw2).c1, (HBW.out w2 hw2).c2, (HBW.out w2 hw2).c3⟩
  clear d0 d1 d2 d3 hb1 hb2
  dsimp only
  by_cases hgr : (300 : Int) < (m : Int)
  · go_wp2_with fail
    go_ret
    exact ⟨rfl, hB2⟩
  by_cases hneg : at' < 0
  · go_wp2_with fail
    go_ret
    exact ⟨rfl, hB2⟩
  have HBX := Lib.hid (fun w' (hw' : Below w2.heap.size w2 w') => HBW.out w' (hw2.trans (hw'.mono hw2.size)))
  have HLW := Lib.hid (fun w' (hw' : Below w2.heap.size w2 w') => HLWW.out w' (hw2.trans (hw'.mono hw2.size)))
  have HFW := Lib.hid (fun w' (hw' : Below w2.heap.size w2 w') => HFWW.out w' (hw2.trans (hw'.mono hw2.size)))
  have HS := Lib.hid (fun w' (hw' : Below w2.heap.size w2 w') => (HS0.out w' (hB2.trans (hw'.mono hB2.size))))
  have HC := Lib.hid (fun w' (hw' : Below w2.heap.size w2 w') => (HC0.out w' (hB2.trans (hw'.mono hB2.size))))
  have HKW := Lib.hid (fun w' (hw' : Below w2.heap.size w2 w') => HK.out w' (hB2.trans (hw'.mono hB2.size)))
  have HBB := Lib.hid (fun w' (hw' : Below w2.heap.size w2 w') => hB2.trans (hw'.mono hB2.size))
  have hx2 : w.heap.size + 2 < w2.heap.size := by have := hw2.size; omega
  have hOK : Ok 23 ⟨m, S, C, f, d⟩ := ⟨by show (m + 23) * 136 ≤ _; omega, HF64.out⟩
  have HOK := Lib.hid hOK
  have HCP := Lib.hid (Dk.copy_any sa ca n sc m cc w.heap.size S C f d w2 nb mb (HS.out w2 (Below.refl _ _)) (HC.out w2 (Below.refl _ _)))
  clear HBW HLWW HFWW HS0 HC0 hs0 hw2 hOK
  go_wp2_with fail
  refine HCP.out.mono ?_
  rintro _ w3 ⟨v, rfl, hcp, hb3⟩
  obtain ⟨sa1, sc1, ca1, cc1, rfl, _, _⟩ := id hcp
  obtain ⟨W4, hW4, hb4, hx4, hs4⟩ : ∃ W4, W4 = w3.alloc (.cells #[.slice sa1 n sc1, .slice ca1 m cc1, .int .i64 f, .bool d] 35) ∧ Below w3.heap.size w3 W4 ∧ W4.heap[w3.heap.size]? = some (.cells #[.slice sa1 n sc1, .slice ca1 m cc1, .int .i64 f, .bool d] 35 (0, 0)) ∧ W4.heap.size = w3.heap.size + 1 :=
    ⟨_, rfl, (Below.refl _ _).alloc (Nat.le_refl _) _, heap_alloc_new _ _, by simp⟩
  obtain ⟨_, _, _, _, hX4⟩ := Twin.Copied.has' (hcp.below hb4) hx4 nb mb
  have hD4 : HasD W4 w3.heap.size n ⟨m, S, C, f, d⟩ := HasD.of hX4
  have hb24 : Below w2.heap.size w2 W4 := hb3.trans (hb4.mono hb3.size)
  have HLD := Lib.hid (load_d hD4 (fun i _ => ld_byt HSB.out HCB.out i) (HKW.out W4 hb24))
  clear HCP e0 e1 e2 e3 f0 hcp hX4 hb3 hb4 hx4 hD4
  dsimp only
  subst hW4
  go_wp2_with (refine @wpList_store_row _ _ _ _ _ _ _ rfl 35 (.tmp 7) (.tmp 30) rfl w3.heap.size #[.slice sa1 n sc1, .slice ca1 m cc1, .int .i64 f, .bool d] rfl rfl 35 _ (heap_alloc_new _ _) (by kernel_rfl) rfl (disk_one _ _ _ _ _ _ _ _) ?_; rw [World.setRow_alloc_new]; simp only [Act.put])
  generalize w3.alloc (.cells #[.slice sa1 n sc1, .slice ca1 m cc1, .int .i64 f, .bool d] 35) = W4 at hb24 hs4 HLD ⊢
  refine HLD.out.mono ?_
  rintro _ w5 ⟨⟨_, rfl, ao1, cap1, rfl, hoT⟩, hb5⟩
  have HOKL := Lib.hid (@ld_ok n ⟨m, S, C, f, d⟩)
  have HMJ : Hid (∀ j0, ldF n ⟨m, S, C, f, d⟩ = some j0 → ldT n ⟨m, S, C, f, d⟩ (ldF n ⟨m, S, C, f, d⟩) = ldT n ⟨m, S, C, f, d⟩ (some j0)) := Lib.hid (fun j0 e => by rw [e])
  have hb25 : Below w2.heap.size w2 w5 := hb24.trans (hb5.mono hb24.size)
  clear HLD hb5 hb24 hs4
  generalize ldEr n ⟨m, S, C, f, d⟩ = ER at HOKL ⊢
  generalize ldT n ⟨m, S, C, f, d⟩ (ldF n ⟨m, S, C, f, d⟩) = M at hoT HMJ ⊢
  obtain ⟨gen, k, F, T⟩ := M
  dsimp only at hoT
  obtain ⟨W6, hW6, hb6, hx6, hs6⟩ : ∃ W6, W6 = w5.alloc (.cells #[.int .i64 gen, .slice ao1 k cap1] 26) ∧ Below w5.heap.size w5 W6 ∧ W6.heap[w5.heap.size]? = some (.cells #[.int .i64 gen, .slice ao1 k cap1] 26 (0, 0)) ∧ W6.heap.size = w5.heap.size + 1 :=
    ⟨_, rfl, (Below.refl _ _).alloc (Nat.le_refl _) _, heap_alloc_new _ _, by simp⟩
  have hT6 : HasT W6 w5.heap.size w.heap.size ⟨gen, k, F, T⟩ := ⟨ao1, cap1, hx6, Twin.lay_owns (fun i _ => prV_length F T i) (owns_below hoT hb6) (show W6.heap[w.heap.size]? = _ from HBX.out W6 (hb25.trans (hb6.mono hb25.size))) (by decide)⟩
  have hb26 : Below w2.heap.size w2 W6 := hb25.trans (hb6.mono hb25.size)
  have c0 := (HBX.out W6 hb26).c0
  have c1 := (HBX.out W6 hb26).c1
  clear hb6 hx6 hoT
  dsimp only
  subst hW6
  by_cases hE : ER = 0
  rotate_left
  · have ne : (ER != 0) = true := by simpa using hE
    go_wp2_with (refine @wpList_store_row _ _ _ _ _ _ _ rfl 26 (.tmp 8) (.tmp 33) rfl w5.heap.size #[.int .i64 gen, .slice ao1 k cap1] rfl rfl 26 _ (heap_alloc_new _ _) (by kernel_rfl) rfl (tb_one _ _ _ _) ?_; rw [World.setRow_alloc_new]; simp only [Act.put])
    go_ret
    exact ⟨rfl, HBB.out _ hb26⟩
  by_cases hm0 : (0 : Int) < (m : Int)
  · subst hE
    go_wp2_with (refine @wpList_store_row _ _ _ _ _ _ _ rfl 26 (.tmp 8) (.tmp 33) rfl w5.heap.size #[.int .i64 gen, .slice ao1 k cap1] rfl rfl 26 _ (heap_alloc_new _ _) (by kernel_rfl) rfl (tb_one _ _ _ _) ?_; rw [World.setRow_alloc_new]; simp only [Act.put])
    go_ret
    exact ⟨rfl, HBB.out _ hb26⟩
  obtain ⟨hfm, hh0, hd, j0, hj, hjF, hrt⟩ := HOKL.out hE
  obtain rfl : m = 0 := by omega
  have HMM := Lib.hid (HMJ.out j0 hjF)
  have HJ := Lib.hid hj
  have HFM := Lib.hid hfm
  have HH0 := Lib.hid hh0
  have HDF := Lib.hid hd
  have HRT := Lib.hid hrt
  clear HMJ hj hfm hjF hrt hd HOKL
  subst hE
  obtain ⟨h, hhe⟩ : ∃ h : Nat, halfN n = (h : Int) := ⟨(halfN n).toNat, by have := (halfN_bd n).1; omega⟩
  have HHE := Lib.hid hhe
  have hhn : (n : Int) = 2 * (h : Int) + 20 ∧ 4 ≤ h := by
    have := (halfN_bd n).2.2 hh0
    omega
  have hhz : ((h : Int) == 0) = false := by
    have := hhn.2
    simp
    omega
  have HHF := Lib.hid (fun W => half_any (n : Int) W)
  rw [hhe] at HHF
  have HHN := Lib.hid hhn
  clear hhe hh0 hhn
  go_wp2_with (refine @wpList_store_row _ _ _ _ _ _ _ rfl 26 (.tmp 8) (.tmp 33) rfl w5.heap.size #[.int .i64 gen, .slice ao1 k cap1] rfl rfl 26 _ (heap_alloc_new _ _) (by kernel_rfl) rfl (tb_one _ _ _ _) ?_; rw [World.setRow_alloc_new]; simp only [Act.put])
  generalize w5.alloc (.cells #[.int .i64 gen, .slice ao1 k cap1] 26) = W6 at hb26 hT6 hs6 c0 c1 ⊢
  refine (HHF.out W6).mono ?_
  rintro _ w7 ⟨rfl, hb7⟩
  have hb27 : Below w2.heap.size w2 w7 := hb26.trans (hb7.mono hb26.size)
  have hT7 := hasT_below hT6 hb7
  have hbT : w5.heap.size < w7.heap.size := by have := hb7.size; omega
  generalize w5.heap.size = bT at hT7 hbT ⊢
  have c0' := (HBX.out w7 hb27).c0
  clear hT6 hs6 c0 c1 hb26 hb7 hm0
  dsimp only
  go_wp2_with fail
  refine (HHF.out w7).mono ?_
  rintro _ w8 ⟨rfl, hb8⟩
  have hb28 : Below w2.heap.size w2 w8 := hb27.trans (hb8.mono hb27.size)
  have HT8 := Lib.hid (hasT_below hT7 hb8)
  have hbT8 : bT < w8.heap.size := by have := hb8.size; omega
  clear HHF hT7 c0' hb27 hb8 hbT
  dsimp only
  go_wp2_with fail
  go_loopw [11] (fun iv wr => ∃ i : Nat, i ≤ 4 ∧ iv = .int .i64 i ∧ Below w8.heap.size w8 wr ∧ Hid (∀ c : Nat, c < i → (S (ldA n c).toNat).noWrite = false)) (fun iv _ => 4 - (intOf iv).toNat)
  case atStart => exact ⟨0, by omega, rfl, Below.refl _ _, Lib.hid (fun c hc => by omega)⟩
  case round =>
    obtain ⟨i, hi, rfl, hB, hall⟩ := hrel
    have hb2r : Below w2.heap.size w2 wr := hb28.trans (hB.mono hb28.size)
    by_cases hlt : i < 4
    · have hi4 : (i : Int) < 4 := by omega
      have c0 := (HBX.out wr hb2r).c0
      have hlay := HS.out wr hb2r
      obtain ⟨b, off, rfl, hbl, _, hrow⟩ := hlay.rows.resolve_left (by have := HHN.out; omega)
      have hcs : ∃ p : Nat, p < n ∧ ldA n i = (p : Int) ∧ (i : Int) / 2 * (h : Int) + (i : Int) % 2 = (p : Int) ∧ 0 ≤ (i : Int) / 2 * (h : Int) ∧ (i : Int) / 2 * (h : Int) ≤ 4096 := by
        have h4 : i = 0 ∨ i = 1 ∨ i = 2 ∨ i = 3 := by omega
        have hhn := HHN.out
        have hl : ldA n i = (i : Int) / 2 * (h : Int) + (i : Int) % 2 % 2 := by unfold ldA; rw [HHE.out]
        have hb := halfN_bd n
        rw [HHE.out] at hb
        rcases h4 with rfl | rfl | rfl | rfl
        · exact ⟨0, by omega, by rw [hl]; simp, by simp, by simp, by simp⟩
        · exact ⟨1, by omega, by rw [hl]; simp, by simp, by simp, by simp⟩
        · exact ⟨h, by omega, by rw [hl]; simp, by simp, by simp, by simp; omega⟩
        · exact ⟨h + 1, by omega, by rw [hl]; simp, by simp, by simp, by simp; omega⟩
      obtain ⟨p, hp, hpa, hpx, hq0, hq1⟩ := hcs
      have HPA := Lib.hid hpa
      have cN : wr.cell? ⟨b, off + p * 130 + 128, none⟩ = some (.bool (S p).noRead) := hrow p hp 128 _ (secV_read _)
      have cW : wr.cell? ⟨b, off + p * 130 + 129, none⟩ = some (.bool (S p).noWrite) := hrow p hp 129 _ (secV_write _)
      have hw1 : IntKind.i64.wrap ((i : Int) / 2 * (h : Int)) = (i : Int) / 2 * (h : Int) := IntWalk.i64_in _ (by omega)
      have hw2 : IntKind.i64.wrap ((i : Int) / 2 * (h : Int) + (i : Int) % 2) = (p : Int) := by rw [hpx]; exact IntWalk.i64_in _ (by omega)
      have hp0 : (0 : Int) ≤ (p : Int) := by omega
      have hpn : (p : Int) < (n : Int) := by omega
      clear hlay hrow hpa hpx hq0 hq1
      cases hnr : (S p).noRead with
      | true =>
        rw [hnr] at cN
        go_wp2_with fail
        go_ret
        exact ⟨rfl, HBB.out wr hb2r⟩
      | false =>
        rw [hnr] at cN
        cases hnw : (S p).noWrite with
        | true =>
          rw [hnw] at cW
          go_wp2_with fail
          go_ret
          exact ⟨rfl, HBB.out wr hb2r⟩
        | false =>
          rw [hnw] at cW
          have hall' : Hid (∀ c : Nat, c < i + 1 → (S (ldA n c).toNat).noWrite = false) := Lib.hid (fun c hc => by
            by_cases hci : c < i
            · exact hall.out c hci
            · obtain rfl : c = i := by omega
              rw [HPA.out]
              exact hnw)
          go_wp2_with fail
          go_roundw
          case rel => exact ⟨i + 1, by omega, by go_num, hB, hall'⟩
          case measure => simp [intOf]; omega
    · have e4 : i = 4 := by omega
      have hni : ¬ (i : Int) < 4 := by omega
      rw [e4] at hall
      clear e4
      have HNW : Hid (∀ c, isTb n c → (S c.toNat).noWrite = false) := Lib.hid (fun c hc => by
        obtain ⟨i, hi, e⟩ := tb_ldA hc
        rw [← e]
        exact hall.out i hi)
      have hrt' : rightB n gen k F T = true := by
        have := HRT.out
        rw [← HMM.out] at this
        exact this
      have hk20 := (right_parts hrt').2.2.2.1
      have hk16 : k * 16 ≤ 140737488355328 := by omega
      have HTB := Lib.hid (right_tab hrt')
      have HWO := Lib.hid (fun (q : Int) (K : Nat → Bool) => whole (X0 := ⟨0, S, C, f, d⟩) (q := q) (j0 := j0) rfl HDF.out HFM.out HH0.out HJ.out HNW.out x D K)
      rw [← HMM.out] at HWO
      have HSBT : Hid (∀ c, isTb n c → byt (S c.toNat).data) := Lib.hid (fun c hc => HSB.out _ (by
        have := isTb_bd HH0.out hc
        omega))
      have HT9 := hasT_below HT8.out hB
      obtain ⟨pa, cap, tbT, hlT⟩ := HT9
      have HMX := Lib.hid (fun w' (hw' : Below wr.heap.size wr w') => show w'.cell? ⟨bT, 0, none⟩ = some (.int .i64 gen) ∧ w'.cell? ⟨bT, 1, none⟩ = some (.slice pa k cap) from by
        have hb := (hw'.block bT (Array.getElem?_eq_some_iff.1 tbT).1).trans tbT
        exact ⟨by rw [cell_of_row _ _ _ _ _ _ hb]; rfl, by rw [cell_of_row _ _ _ _ _ _ hb]; rfl⟩)
      have HT := Lib.hid (fun w' (hw' : Below wr.heap.size wr w') => (hlT.below hw').more hw'.size)
      have hx2r : w2.heap.size ≤ wr.heap.size := hb2r.size
      replace HBX := Lib.hid (fun w' (hw' : Below wr.heap.size wr w') => HBX.out w' (hb2r.trans (hw'.mono hb2r.size)))
      replace HS := Lib.hid (fun w' (hw' : Below wr.heap.size wr w') => HS.out w' (hb2r.trans (hw'.mono hb2r.size)))
      replace HC := Lib.hid (fun w' (hw' : Below wr.heap.size wr w') => HC.out w' (hb2r.trans (hw'.mono hb2r.size)))
      replace HKW := Lib.hid (fun w' (hw' : Below wr.heap.size wr w') => HKW.out w' (hb2r.trans (hw'.mono hb2r.size)))
      replace HBB := Lib.hid (fun w' (hw' : Below wr.heap.size wr w') => HBB.out w' (hb2r.trans (hw'.mono hb2r.size)))
      replace HLW := Lib.hid (fun w' (hw' : Below wr.heap.size wr w') => HLW.out w' (hb2r.trans (hw'.mono hb2r.size)))
      replace HFW := Lib.hid (fun w' (hw' : Below wr.heap.size wr w') => HFW.out w' (hb2r.trans (hw'.mono hb2r.size)))
      clear hrt' hall HNW HRT HMM HT8 hB hbT8 hb28 tbT hlT HSB HCB HJ HDF hb2r
      go_wp2_with fail
      refine QuietTail2.regionInv (n := 8) (Inv := WhMix _ _ _ _ _ _ _ _ _ _ _ _ _ _ _ _ _ _ _ _ _ _ _ _ _ _ _ _ _ _ _ _ _ _ _ _ _ _ _ _ _ _ _ _ _ _ _ _ _ _ _ _ _ _ _ _ _ _ _ _ _ _ _ _ _ _ _ _ _ _ _ _ _ _ _ _ _ _ _ _ _ _ _ _ _ _ _ _ _ _ _ _ _ _ _ _ _ _ _ _ _ _ _ _ _ _ _ _ _ _ _ _ _ _ _ _ _ _ _ _ _ _ _ _ _ _ _ _ _ _ _ _ _ _ _ _ _ _ _ _ _ (w.heap.size) (bT) (.agg #[.slice sa n sc, .slice ca 0 cc, .int .i64 f, .bool d]) (.agg #[.int .i64 gen, .slice pa k cap]) n 0 S C f d gen k F T wr) (by kernel_rfl) (by decide) (by kernel_rfl) ⟨_, _, _, _, _, _, rfl, Mix.Mx.start⟩ ?stepM ?finM
      case stepM =>
        rintro i o hi ho L a' w' ⟨u0, u1, u2, u3, u4, u5, rfl, TT⟩ hL hpre
        match i, hi with
        | 0, _ =>
          simp at ho
          subst ho
          have hH := HBX.out w' TT.be; have k0 := hH.c0; have k1 := hH.c1; have k2 := hH.c2; have k3 := hH.c3; clear hH
          go_simp
          exact ⟨_, u1, u2, u3, u4, u5, rfl, TT.load0⟩
        | 1, _ =>
          simp at ho
          subst ho
          obtain rfl := TT.a0 (hpre 0 (by kernel_rfl))
          go_simp
          refine (Dk.copy_any sa ca n sc 0 cc w.heap.size S C f d w' nb mb (HS.out w' TT.be) (HC.out w' TT.be)).mono ?_
          rintro _ w'' ⟨v, rfl, hv, hb⟩
          exact ⟨_, v, u2, u3, u4, u5, rfl, TT.call1 hL (hv.mono TT.be.size) hb (fun _ _ _ h hb => h.below hb) (fun _ _ _ h hb => NewTab.below h hb)⟩
        | 2, _ =>
          simp at ho
          subst ho
          obtain ⟨k0, k1⟩ := HMX.out w' TT.be
          go_simp
          exact ⟨u0, u1, _, u3, u4, u5, rfl, TT.load2⟩
        | 3, _ =>
          simp at ho
          subst ho
          obtain rfl := TT.a2 (hpre 2 (by kernel_rfl))
          go_simp
          refine (refcopy_any gen k F T pa cap w.heap.size w' (HT.out w' TT.be) hk16).mono ?_
          rintro _ w'' ⟨⟨v, rfl, hv⟩, hb⟩
          exact ⟨u0, u1, _, v, u4, u5, rfl, TT.call3 hL (hv.mono TT.be.size) hb (fun _ _ _ h hb => h.below hb) (fun _ _ _ h hb => NewTab.below h hb)⟩
        | 4, _ =>
          simp at ho
          subst ho
          go_simp
          exact ⟨u0, u1, u2, u3, _, u5, rfl, TT.alloc4 hL rfl (fun _ _ _ h hb => h.below hb) (fun _ _ _ h hb => NewTab.below h hb)⟩
        | 5, _ =>
          simp at ho
          subst ho
          go_simp
          exact ⟨u0, u1, u2, u3, u4, _, rfl, TT.alloc5 hL rfl (fun _ _ _ h hb => h.below hb) (fun _ _ _ h hb => NewTab.below h hb)⟩
        | 6, _ =>
          simp at ho
          subst ho
          have h1 := hpre 1 (by kernel_rfl)
          have h4 := hpre 4 (by kernel_rfl)
          obtain ⟨b, c0, e4, _, hb, hs, _⟩ := TT.a4 h4
          obtain ⟨sa1, sc1, ca1, cc1, rfl, p1, q1⟩ := TT.a1 h1
          subst e4
          refine wp_store_row 35 (.tmp 12) (.tmp 85) rfl b #[.slice sa1 n sc1, .slice ca1 0 cc1, .int .i64 f, .bool d] rfl rfl 35 c0 hb (by kernel_rfl) hs (disk_one _ _ _ _ _ _ _ _) ?_
          exact ⟨u0, _, u2, u3, _, u5, rfl, TT.store6 h1 h4 rfl rfl hb rfl (fun _ _ _ _ c h hb => Twin.Copied.row h hb c) (fun _ _ _ _ c h hb => tab_row h hb (by decide) c)⟩
        | 7, _ =>
          simp at ho
          subst ho
          have h1 := hpre 3 (by kernel_rfl)
          have h4 := hpre 5 (by kernel_rfl)
          obtain ⟨b, c0, e4, _, hb, hs, _⟩ := TT.a5 h4
          obtain ⟨ao1, cap1, rfl, q1⟩ := TT.a3 h1
          subst e4
          refine wp_store_row 26 (.tmp 13) (.tmp 87) rfl b #[.int .i64 gen, .slice ao1 k cap1] rfl rfl 26 c0 hb (by kernel_rfl) hs (tb_one _ _ _ _) ?_
          exact ⟨u0, u1, u2, _, u4, _, rfl, TT.store7 h1 h4 rfl rfl hb rfl (fun _ _ _ _ c h hb => disk_row h hb (by decide) (by decide) c) (fun _ _ _ _ c h hb => NewTab.row h hb c)⟩
        | i + 8, h => omega
      rintro L a' w5A hall ⟨u0, u1, u2, u3, u4, u5, rfl, TT⟩
      obtain ⟨bA, cA, bP, cP, rfl, rfl, lA, lP, hneA, hA, hP, pA, pP, hbeA⟩ := TT.fin hall
      clear TT hall
      simp only [List.drop_succ_cons, List.drop_zero]
      refine wpList_nil ?_
      obtain ⟨sa7, sc7, ca7, cc7, hX7⟩ := Twin.Copied.has' pA hA nb mb
      have hTA : HasT w5A bP bA ⟨gen, k, F, T⟩ := by
        obtain ⟨ao, cap', e, ho⟩ := pP
        injection e with e
        subst e
        exact ⟨ao, cap', hP, Twin.lay_owns (fun i _ => prV_length F T i) ho hA (by decide)⟩
      have hsA := hbeA.size
      have HA := Lib.hid (arm_d (HasD.of hX7) HFM.out (k := -1) (by omega))
      clear pA pP hA hP hX7
      go_wp2_with fail
      refine HA.out.mono ?_
      rintro _ w7 ⟨rfl, hg7, hD7⟩
      have hbe7 : Below wr.heap.size wr w7 := hbeA.trans (one_below hg7 lA hsA)
      have hT7 := hasT_grown hTA hg7 hneA.symm
      obtain ⟨l0, l1⟩ := HLW.out w7 hbe7
      have HWR := Lib.hid (rwrite_d hD7 (HKW.out w7 hbe7) ⟨HOK.out.1, by show i64 (-1); unfold i64; omega⟩ gen k F T hT7 HTB.out hneA x D)
      unfold Wrote at HWR
      have hRk := wRes_k n (fuse ⟨0, S, C, f, d⟩ (-1)) ⟨gen, k, F, T⟩ x D
      generalize wRes n (fuse ⟨0, S, C, f, d⟩ (-1)) ⟨gen, k, F, T⟩ x D = RY at HWR HWO hRk
      obtain ⟨E1, Y', P'⟩ := RY
      dsimp only at HWR hRk
      clear HA hg7 hD7 hT7 hTA hbeA hsA
      dsimp only
      go_wp2_with (refine @wpList_loadG _ _ _ _ _ _ _ (by kernel_rfl) 22 (.tmp 92) rfl (w.heap.size + 1) 1 rfl (bl D) _ l1 undB rfl (size_bl D) ?_; simp only [Act.put, List.setIfInBounds_toArray, List.set_cons_succ, List.set_cons_zero])
      refine HWR.out.mono ?_
      rintro _ w9 ⟨rfl, hT9, hD9, hM9⟩
      have hbe9 : Below wr.heap.size wr w9 := hbe7.trans (two_below hT9 lA lP hbe7.size)
      have HPB := Lib.hid (fun w' (hw' : Below w9.heap.size w9 w') => hasT_below hM9 hw')
      replace HBX := Lib.hid (fun w' (hw' : Below w9.heap.size w9 w') => HBX.out w' (hbe9.trans (hw'.mono hbe9.size)))
      replace HS := Lib.hid (fun w' (hw' : Below w9.heap.size w9 w') => HS.out w' (hbe9.trans (hw'.mono hbe9.size)))
      replace HC := Lib.hid (fun w' (hw' : Below w9.heap.size w9 w') => HC.out w' (hbe9.trans (hw'.mono hbe9.size)))
      replace HKW := Lib.hid (fun w' (hw' : Below w9.heap.size w9 w') => HKW.out w' (hbe9.trans (hw'.mono hbe9.size)))
      replace HBB := Lib.hid (fun w' (hw' : Below w9.heap.size w9 w') => HBB.out w' (hbe9.trans (hw'.mono hbe9.size)))
      replace HLW := Lib.hid (fun w' (hw' : Below w9.heap.size w9 w') => HLW.out w' (hbe9.trans (hw'.mono hbe9.size)))
      replace HFW := Lib.hid (fun w' (hw' : Below w9.heap.size w9 w') => HFW.out w' (hbe9.trans (hw'.mono hbe9.size)))
      replace HMX := Lib.hid (fun w' (hw' : Below w9.heap.size w9 w') => HMX.out w' (hbe9.trans (hw'.mono hbe9.size)))
      replace HT := Lib.hid (fun w' (hw' : Below w9.heap.size w9 w') => HT.out w' (hbe9.trans (hw'.mono hbe9.size)))
      have hx29 : w2.heap.size ≤ w9.heap.size := Nat.le_trans hx2r hbe9.size
      clear HWR hT9 hD9 hM9 hbe7 hbe9 l0 l1 hneA lA lP
      dsimp only
      go_wp2_with fail
      refine QuietTail2.regionInv (n := 8) (Inv := WhMix2 _ _ _ _ _ _ _ _ _ _ _ _ _ _ _ _ _ _ _ _ _ _ _ _ _ _ _ _ _ _ _ _ _ _ _ _ _ _ _ _ _ _ _ _ _ _ _ _ _ _ _ _ _ _ _ _ _ _ _ _ _ _ _ _ _ _ _ _ _ _ _ _ _ _ _ _ _ _ _ _ _ _ _ _ _ _ _ _ _ _ _ _ _ _ _ _ _ _ _ _ _ _ _ _ _ _ _ _ _ _ _ _ _ _ _ _ _ _ _ _ _ _ _ _ _ _ _ _ _ _ _ _ _ _ _ _ _ _ _ _ _ (w.heap.size) (bT) (.agg #[.slice sa n sc, .slice ca 0 cc, .int .i64 f, .bool d]) (.agg #[.int .i64 gen, .slice pa k cap]) n 0 S C f d gen k F T w9) (by kernel_rfl) (by decide) (by kernel_rfl) ⟨_, _, _, _, _, _, rfl, Mix.Mx.start⟩ ?stepN ?finN
      case stepN =>
        rintro i o hi ho L a' w' ⟨u0, u1, u2, u3, u4, u5, rfl, TT⟩ hL hpre
        match i, hi with
        | 0, _ =>
          simp at ho
          subst ho
          have hH := HBX.out w' TT.be; have k0 := hH.c0; have k1 := hH.c1; have k2 := hH.c2; have k3 := hH.c3; clear hH
          go_simp
          exact ⟨_, u1, u2, u3, u4, u5, rfl, TT.load0⟩
        | 1, _ =>
          simp at ho
          subst ho
          obtain rfl := TT.a0 (hpre 0 (by kernel_rfl))
          go_simp
          refine (Dk.copy_any sa ca n sc 0 cc w.heap.size S C f d w' nb mb (HS.out w' TT.be) (HC.out w' TT.be)).mono ?_
          rintro _ w'' ⟨v, rfl, hv, hb⟩
          exact ⟨_, v, u2, u3, u4, u5, rfl, TT.call1 hL (hv.mono TT.be.size) hb (fun _ _ _ h hb => h.below hb) (fun _ _ _ h hb => NewTab.below h hb)⟩
        | 2, _ =>
          simp at ho
          subst ho
          obtain ⟨k0, k1⟩ := HMX.out w' TT.be
          go_simp
          exact ⟨u0, u1, _, u3, u4, u5, rfl, TT.load2⟩
        | 3, _ =>
          simp at ho
          subst ho
          obtain rfl := TT.a2 (hpre 2 (by kernel_rfl))
          go_simp
          refine (refcopy_any gen k F T pa cap w.heap.size w' (HT.out w' TT.be) hk16).mono ?_
          rintro _ w'' ⟨⟨v, rfl, hv⟩, hb⟩
          exact ⟨u0, u1, _, v, u4, u5, rfl, TT.call3 hL (hv.mono TT.be.size) hb (fun _ _ _ h hb => h.below hb) (fun _ _ _ h hb => NewTab.below h hb)⟩
        | 4, _ =>
          simp at ho
          subst ho
          go_simp
          exact ⟨u0, u1, u2, u3, _, u5, rfl, TT.alloc4 hL rfl (fun _ _ _ h hb => h.below hb) (fun _ _ _ h hb => NewTab.below h hb)⟩
        | 5, _ =>
          simp at ho
          subst ho
          go_simp
          exact ⟨u0, u1, u2, u3, u4, _, rfl, TT.alloc5 hL rfl (fun _ _ _ h hb => h.below hb) (fun _ _ _ h hb => NewTab.below h hb)⟩
        | 6, _ =>
          simp at ho
          subst ho
          have h1 := hpre 1 (by kernel_rfl)
          have h4 := hpre 4 (by kernel_rfl)
          obtain ⟨b, c0, e4, _, hb, hs, _⟩ := TT.a4 h4
          obtain ⟨sa1, sc1, ca1, cc1, rfl, p1, q1⟩ := TT.a1 h1
          subst e4
          refine wp_store_row 35 (.tmp 15) (.tmp 96) rfl b #[.slice sa1 n sc1, .slice ca1 0 cc1, .int .i64 f, .bool d] rfl rfl 35 c0 hb (by kernel_rfl) hs (disk_one _ _ _ _ _ _ _ _) ?_
          exact ⟨u0, _, u2, u3, _, u5, rfl, TT.store6 h1 h4 rfl rfl hb rfl (fun _ _ _ _ c h hb => Twin.Copied.row h hb c) (fun _ _ _ _ c h hb => tab_row h hb (by decide) c)⟩
        | 7, _ =>
          simp at ho
          subst ho
          have h1 := hpre 3 (by kernel_rfl)
          have h4 := hpre 5 (by kernel_rfl)
          obtain ⟨b, c0, e4, _, hb, hs, _⟩ := TT.a5 h4
          obtain ⟨ao1, cap1, rfl, q1⟩ := TT.a3 h1
          subst e4
          refine wp_store_row 26 (.tmp 16) (.tmp 98) rfl b #[.int .i64 gen, .slice ao1 k cap1] rfl rfl 26 c0 hb (by kernel_rfl) hs (tb_one _ _ _ _) ?_
          exact ⟨u0, u1, u2, _, u4, _, rfl, TT.store7 h1 h4 rfl rfl hb rfl (fun _ _ _ _ c h hb => disk_row h hb (by decide) (by decide) c) (fun _ _ _ _ c h hb => NewTab.row h hb c)⟩
        | i + 8, h => omega
      rintro L a' wZ hall ⟨u0, u1, u2, u3, u4, u5, rfl, TT⟩
      obtain ⟨bZ, cZ, bQ, cQ, rfl, rfl, lZ, lQ, hneZ, hZ, hQ, pZ, pQ, hbeZ⟩ := TT.fin hall
      clear TT hall
      simp only [List.drop_succ_cons, List.drop_zero]
      refine wpList_nil ?_
      obtain ⟨sa7, sc7, ca7, cc7, hX7⟩ := Twin.Copied.has' pZ hZ nb mb
      have hTZ : HasT wZ bQ bZ ⟨gen, k, F, T⟩ := by
        obtain ⟨ao, cap', e, ho⟩ := pQ
        injection e with e
        subst e
        exact ⟨ao, cap', hQ, Twin.lay_owns (fun i _ => prV_length F T i) ho hZ (by decide)⟩
      have hsZ := hbeZ.size
      have f0 := (HFW.out wZ hbeZ).1
      have ha0 : 0 ≤ at' := by omega
      have HA := Lib.hid (arm_d (HasD.of hX7) HFM.out (k := at' % 40) (by omega))
      clear pZ pQ hZ hQ hX7
      go_wp2_with fail
      refine HA.out.mono ?_
      rintro _ w11 ⟨rfl, hg11, hD11⟩
      have hbe11 : Below w9.heap.size w9 w11 := hbeZ.trans (one_below hg11 lZ hsZ)
      have hT11 := hasT_grown hTZ hg11 hneZ.symm
      obtain ⟨l0, l1⟩ := HLW.out w11 hbe11
      have HWR := Lib.hid (rwrite_d hD11 (HKW.out w11 hbe11) ⟨HOK.out.1, by show i64 (at' % 40); unfold i64; omega⟩ gen k F T hT11 HTB.out hneZ x D)
      have HW1 := Lib.hid (HWO.out (at' % 40) (keepB kn kf))
      unfold Wrote at HWR
      generalize wRes n (fuse ⟨0, S, C, f, d⟩ (at' % 40)) ⟨gen, k, F, T⟩ x D = RZ at HWR HW1
      obtain ⟨E2, Z', Q'⟩ := RZ
      dsimp only at HWR
      clear HA hg11 hD11 hT11 hTZ hbeZ hsZ HWO f0
      dsimp only
      go_wp2_with (refine @wpList_loadG _ _ _ _ _ _ _ (by kernel_rfl) 22 (.tmp 106) rfl (w.heap.size + 1) 1 rfl (bl D) _ l1 undB rfl (size_bl D) ?_; simp only [Act.put, List.setIfInBounds_toArray, List.set_cons_succ, List.set_cons_zero])
      refine HWR.out.mono ?_
      rintro _ w13 ⟨rfl, hT13, hD13, hM13⟩
      have hbe13 : Below w9.heap.size w9 w13 := hbe11.trans (two_below hT13 lZ lQ hbe11.size)
      clear HWR hT13 hM13 hbe11 l0 l1
      dsimp only
      have HD13 := Lib.hid hD13
      have hEE := Lib.hid HW1.out.e
      clear hD13
      go_upto_region 23 with fail
      go_cut [115] from 109 (fun v wc => v = .bool false ∧ wc = w13)
      case first =>
        have hq : (E2 != E1) = false ∨ ((E2 != E1) = true ∧ E2 = 3) := by
          rcases hEE.out with e | e
          · exact .inl (by simp at e; simp [e])
          · cases h : (E2 != E1) with
            | false => exact .inl rfl
            | true => exact .inr ⟨rfl, e⟩
        rcases hq with q1 | ⟨q1, q2⟩
        · go_wp2_with fail
          go_meet
          exact ⟨rfl, rfl⟩
        · subst q2
          go_wp2_with fail
          go_meet
          exact ⟨rfl, rfl⟩
      case rest =>
        obtain ⟨rfl, rfl⟩ := hcut
        have f1 := (HFW.out wc hbe13).2
        have HCR := Lib.hid (crash_d HD13.out HW1.out.f ka kn kc kf (keeps_more HKS.out (HBB.out wc hbe13) (HBB.out wc hbe13).size (by omega)) hkn)
        clear HD13 hEE
        go_wp2_with fail
        refine HCR.out.mono ?_
        rintro _ w14 ⟨rfl, hg14, hD14⟩
        have hbe14 : Below w9.heap.size w9 w14 := hbe13.trans (one_below hg14 lZ hbe13.size)
        obtain ⟨j, hl, hcase⟩ := HW1.out.l
        obtain ⟨eR, eF⟩ := ld_of (K := keepB kn kf) HW1.out.f HH0.out hl
        have hld := load_d hD14 (fun i hi => ((HW1.out.b HSBT.out).cr HW1.out.f HH0.out _).ld HH0.out rfl rfl hi) (HKW.out w14 hbe14)
        dsimp only at hld eR eF hcase
        rw [eR, eF] at hld
        have HLD := Lib.hid hld
        have HCS := Lib.hid hcase
        clear HCR hg14 hD14 hld hcase eR eF hl hbe13 f1 HW1
        dsimp only
        go_wp2_with fail
        refine HLD.out.mono ?_
        rintro _ w15 ⟨⟨_, rfl, ao4, cap4, rfl, hoG⟩, hb15⟩
        have hbe15 : Below w9.heap.size w9 w15 := hbe14.trans (hb15.mono hbe14.size)
        clear HLD hb15 hbe14
        generalize ldT n (cr Z' (keepB kn kf)) (some j) = G at hoG HCS ⊢
        dsimp only
        rcases HCS.out with ⟨eG, eP⟩ | ⟨eE, hlk, hgn⟩
        · subst eG
          dsimp only at hoG ⊢
          obtain ⟨W16, hW16, hb16, hx16, hs16⟩ : ∃ W16, W16 = w15.alloc (.cells #[.int .i64 gen, .slice ao4 k cap4] 26) ∧ Below w15.heap.size w15 W16 ∧ W16.heap[w15.heap.size]? = some (.cells #[.int .i64 gen, .slice ao4 k cap4] 26 (0, 0)) ∧ W16.heap.size = w15.heap.size + 1 :=
            ⟨_, rfl, (Below.refl _ _).alloc (Nat.le_refl _) _, heap_alloc_new _ _, by simp⟩
          have hbe16 : Below w9.heap.size w9 W16 := hbe15.trans (hb16.mono hbe15.size)
          obtain ⟨m0, m1⟩ := HMX.out W16 hbe16
          obtain ⟨aoP, capP, tbP, hlP⟩ := HPB.out W16 hbe16
          have HGC := Lib.hid (fun w' (hw' : Below W16.heap.size W16 w') => fall_cells ((hw'.block w15.heap.size (by omega)).trans hx16))
          have HPC := Lib.hid (fun w' (hw' : Below W16.heap.size W16 w') => fall_cells ((hw'.block bP (Array.getElem?_eq_some_iff.1 tbP).1).trans tbP))
          have hlG := lay_own (fun i _ => prV_length F T i) (owns_below hoG hb16) (.inr (Nat.le_refl _))
          have HLG := Lib.hid (fun w' (hw' : Below W16.heap.size W16 w') => (hlG.below hw').more hw'.size)
          have HLP := Lib.hid (fun w' (hw' : Below W16.heap.size W16 w') => (hlP.below hw').more hw'.size)
          obtain ⟨k0, k1⟩ := HGC.out W16 (Below.refl _ _)
          have HS1 := Lib.hid (refsame_any gen k F T ao4 pa cap4 cap W16.heap.size w.heap.size W16 (by omega) (HLG.out W16 (Below.refl _ _)) (HT.out W16 hbe16))
          by_cases e2 : E2 = 0
          · have hP := eP e2
            subst hP e2
            have HS2 := Lib.hid (fun w' (hw' : Below W16.heap.size W16 w') => refsame_any gen k F T ao4 aoP cap4 capP W16.heap.size bA w' (by omega) (HLG.out w' hw') (HLP.out w' hw'))
            clear eP HCS hoG hb16 hx16 tbP hlP hlG
            subst hW16
            go_wp2_with (refine @wpList_store_row _ _ _ _ _ _ _ rfl 26 (.tmp 18) (.tmp 122) rfl w15.heap.size #[.int .i64 gen, .slice ao4 k cap4] rfl rfl 26 _ (heap_alloc_new _ _) (by kernel_rfl) rfl (tb_one _ _ _ _) ?_; rw [World.setRow_alloc_new]; simp only [Act.put])
            refine HS1.out.mono ?_
            rintro _ w17 ⟨rfl, hb17⟩
            obtain ⟨n0, n1⟩ := HGC.out w17 hb17
            obtain ⟨o0, o1⟩ := HPC.out w17 hb17
            clear k0 k1 m0 m1
            dsimp only
            go_wp2_with fail
            refine (HS2.out w17 hb17).mono ?_
            rintro _ w18 ⟨rfl, hb18⟩
            dsimp only
            go_wp2_with fail
            go_ret
            exact ⟨rfl, (HBB.out _ hbe16).trans ((hb17.trans (hb18.mono hb17.size)).mono (HBB.out _ hbe16).size)⟩
          · have ne : (E2 != 0) = true := by simpa using e2
            clear eP HCS hoG hb16 hx16 tbP hlP hlG
            subst hW16
            go_wp2_with (refine @wpList_store_row _ _ _ _ _ _ _ rfl 26 (.tmp 18) (.tmp 122) rfl w15.heap.size #[.int .i64 gen, .slice ao4 k cap4] rfl rfl 26 _ (heap_alloc_new _ _) (by kernel_rfl) rfl (tb_one _ _ _ _) ?_; rw [World.setRow_alloc_new]; simp only [Act.put])
            refine HS1.out.mono ?_
            rintro _ w17 ⟨rfl, hb17⟩
            dsimp only
            go_wp2_with fail
            go_ret
            exact ⟨rfl, (HBB.out _ hbe16).trans (hb17.mono (HBB.out _ hbe16).size)⟩
        · obtain ⟨Gg, Gk, GF, GT⟩ := G
          obtain ⟨Pg, Pk, PF, PT⟩ := P'
          obtain ⟨l1, l2, l3⟩ := hlk
          dsimp only at hoG eE l1 l2 l3 hgn hRk ⊢
          have hgne : Gg ≠ gen := by omega
          have hkk : Gk ≤ 140737488355328 := by omega
          subst l1 l2 eE
          obtain ⟨W16, hW16, hb16, hx16, hs16⟩ : ∃ W16, W16 = w15.alloc (.cells #[.int .i64 Gg, .slice ao4 Gk cap4] 26) ∧ Below w15.heap.size w15 W16 ∧ W16.heap[w15.heap.size]? = some (.cells #[.int .i64 Gg, .slice ao4 Gk cap4] 26 (0, 0)) ∧ W16.heap.size = w15.heap.size + 1 :=
            ⟨_, rfl, (Below.refl _ _).alloc (Nat.le_refl _) _, heap_alloc_new _ _, by simp⟩
          have hbe16 : Below w9.heap.size w9 W16 := hbe15.trans (hb16.mono hbe15.size)
          obtain ⟨m0, m1⟩ := HMX.out W16 hbe16
          obtain ⟨aoP, capP, tbP, hlP⟩ := HPB.out W16 hbe16
          have HGC := Lib.hid (fun w' (hw' : Below W16.heap.size W16 w') => fall_cells ((hw'.block w15.heap.size (by omega)).trans hx16))
          have HPC := Lib.hid (fun w' (hw' : Below W16.heap.size W16 w') => fall_cells ((hw'.block bP (Array.getElem?_eq_some_iff.1 tbP).1).trans tbP))
          have hlG := lay_own (fun i _ => prV_length GF GT i) (owns_below hoG hb16) (.inr (Nat.le_refl _))
          have HLG := Lib.hid (fun w' (hw' : Below W16.heap.size W16 w') => (hlG.below hw').more hw'.size)
          have HLP := Lib.hid (fun w' (hw' : Below W16.heap.size W16 w') => (hlP.below hw').more hw'.size)
          obtain ⟨k0, k1⟩ := HGC.out W16 (Below.refl _ _)
          dsimp only at hlP HPC HLP
          have hlP' : Lay W16 W16.heap.size bA aoP Gk capP 2 (prV GF GT) := lay_like (A := ⟨Gg, Gk, PF, PT⟩) (M := ⟨Gg, Gk, GF, GT⟩) hlP ⟨rfl, rfl, fun i hi => ⟨(l3 i hi).1.symm, (l3 i hi).2.symm⟩⟩
          have HS1 := Lib.hid (refsame_ne Gg gen hgne ao4 pa Gk k cap4 cap W16)
          have HS2 := Lib.hid (fun w' (hw' : Below W16.heap.size W16 w') => refsame_any Gg Gk GF GT ao4 aoP cap4 capP W16.heap.size bA w' hkk (HLG.out w' hw') ((hlP'.below hw').more hw'.size))
          clear HCS hoG hb16 hx16 tbP hlP hlP' hlG HLP l3 hgn hgne
          by_cases e2 : E2 = 0
          · subst e2
            subst hW16
            go_wp2_with (refine @wpList_store_row _ _ _ _ _ _ _ rfl 26 (.tmp 18) (.tmp 122) rfl w15.heap.size #[.int .i64 Gg, .slice ao4 Gk cap4] rfl rfl 26 _ (heap_alloc_new _ _) (by kernel_rfl) rfl (tb_one _ _ _ _) ?_; rw [World.setRow_alloc_new]; simp only [Act.put])
            refine HS1.out.mono ?_
            rintro _ w17 ⟨rfl, hb17⟩
            obtain ⟨n0, n1⟩ := HGC.out w17 hb17
            obtain ⟨o0, o1⟩ := HPC.out w17 hb17
            clear k0 k1 m0 m1
            dsimp only
            go_wp2_with fail
            refine (HS2.out w17 hb17).mono ?_
            rintro _ w18 ⟨rfl, hb18⟩
            have hb618 := hb17.trans (hb18.mono hb17.size)
            obtain ⟨k0, k1⟩ := HGC.out w18 hb618
            obtain ⟨m0, m1⟩ := HPC.out w18 hb618
            clear n0 n1 o0 o1
            dsimp only
            go_wp2_with fail
            refine (HS2.out w18 hb618).mono ?_
            rintro _ w19 ⟨rfl, hb19⟩
            dsimp only
            go_wp2_with fail
            go_ret
            exact ⟨rfl, (HBB.out _ hbe16).trans ((hb618.trans (hb19.mono hb618.size)).mono (HBB.out _ hbe16).size)⟩
          · have ne : (E2 != 0) = true := by simpa using e2
            subst hW16
            go_wp2_with (refine @wpList_store_row _ _ _ _ _ _ _ rfl 26 (.tmp 18) (.tmp 122) rfl w15.heap.size #[.int .i64 Gg, .slice ao4 Gk cap4] rfl rfl 26 _ (heap_alloc_new _ _) (by kernel_rfl) rfl (tb_one _ _ _ _) ?_; rw [World.setRow_alloc_new]; simp only [Act.put])
            refine HS1.out.mono ?_
            rintro _ w17 ⟨rfl, hb17⟩
            obtain ⟨n0, n1⟩ := HGC.out w17 hb17
            obtain ⟨o0, o1⟩ := HPC.out w17 hb17
            clear k0 k1 m0 m1
            dsimp only
            go_wp2_with fail
            refine (HS2.out w17 hb17).mono ?_
            rintro _ w18 ⟨rfl, hb18⟩
            dsimp only
            go_wp2_with fail
            go_ret
            exact ⟨rfl, (HBB.out _ hbe16).trans ((hb17.trans (hb18.mono hb17.size)).mono (HBB.out _ hbe16).size)⟩
end Rm
end Go.Proofs.YtllejfnmbpjhaaaDoor
