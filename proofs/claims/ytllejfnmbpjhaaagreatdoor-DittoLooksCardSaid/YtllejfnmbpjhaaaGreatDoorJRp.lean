import Derived.Test.YtllejfnmbpjhaaaGreatDoorRmRefWM
import Derived.Test.YtllejfnmbpjhaaaGreatDoorJRr
import Derived.Test.YtllejfnmbpjhaaaGreatDoorEq
import Derived.Deep.CutRange
import Derived.Test.YtllejfnmbpjhaaaGreatDoorRmTab
/- remap: the reference's Write, walked (made by tools/gen_rrefw.py). -/
namespace Go.Proofs.YtllejfnmbpjhaaaGreatDoor
set_option maxRecDepth 20000
namespace Rm
open Go.RowKit Dk Byt Eqb

attribute [local go_sem] zv29
attribute [local go_sem] zc29
attribute [local irreducible] wpQuiet
def RwInv (x1 x2 x3 x4 x5 x6 x7 x8 x10 x11 x12 x13 x14 x17 x18 x19 x20 x21 x22 x23 x24 x25 x26 x27 x28 x29 x30 x31 x32 x33 x34 x35 x36 x37 x38 x39 x40 x41 x42 x43 x44 x45 x46 x47 x48 x49 x50 x51 x52 x53 x54 x55 x56 x57 x58 x59 x60 x61 x62 x63 x64 x65 x66 x67 x68 x69 x70 x71 x72 x73 x74 x75 x76 x77 x78 x79 x80 x81 x82 x83 x84 x85 x86 x87 x88 x89 x90 x91 x92 x93 x94 x95 x96 x97 x98 x99 x100 x101 x102 x103 x104 x105 x106 x107 x108 x109 x110 x111 x112 x113 x114 x115 x116 x117 x128 x129 x130 x131 x132 x133 x134 x135 x136 x137 x138 x139 x140 x141 x142 x143 x144 x145 x146 x147 x148 x149 x150 x151 x152 x153 x154 x155 x156 x157 x158 x159 x160 x161 x162 x163 x164 x165 x166 x167 x168 x169 x170 x171 x172 : Value) (gen : Int) (ta : Option Addr) (tk tc tb g n : Nat) (sa : Option Addr) (sc : Nat) (V : Nat → Int) (E : Int) (w0 : World) (L : Nat → Bool) (a' : Act) (w' : World) : Prop :=
  ∃ u0 u1 u2 u3 u4 u5 u6 u7 u8 u9 u10 u11, a' = { tmps := #[.pointer (some ⟨g, 0, none⟩), x1, x2, x3, x4, x5, x6, x7, x8, u11, x10, x11, x12, x13, x14, .pointer (some ⟨tb, 0, none⟩), u10, x17, x18, x19, x20, x21, x22, x23, x24, x25, x26, x27, x28, x29, x30, x31, x32, x33, x34, x35, x36, x37, x38, x39, x40, x41, x42, x43, x44, x45, x46, x47, x48, x49, x50, x51, x52, x53, x54, x55, x56, x57, x58, x59, x60, x61, x62, x63, x64, x65, x66, x67, x68, x69, x70, x71, x72, x73, x74, x75, x76, x77, x78, x79, x80, x81, x82, x83, x84, x85, x86, x87, x88, x89, x90, x91, x92, x93, x94, x95, x96, x97, x98, x99, x100, x101, x102, x103, x104, x105, x106, x107, x108, x109, x110, x111, x112, x113, x114, x115, x116, x117, u7, u0, u1, u2, u3, u4, u5, u6, u8, u9, x128, x129, x130, x131, x132, x133, x134, x135, x136, x137, x138, x139, x140, x141, x142, x143, x144, x145, x146, x147, x148, x149, x150, x151, x152, x153, x154, x155, x156, x157, x158, x159, x160, x161, x162, x163, x164, x165, x166, x167, x168, x169, x170, x171, x172], defers := [] } ∧ (L 0 = true → u0 = .agg #[.int .i64 gen, .slice ta tk tc]) ∧ (L 1 = true → u1 = .pointer (some ⟨g, 0, none⟩)) ∧ (L 2 = true → u2 = .pointer (some ⟨g, 0, none⟩)) ∧ (L 3 = true → u3 = .pointer (some ⟨g, 0, none⟩)) ∧ (L 4 = true → u4 = .slice sa n sc) ∧ (L 5 = true → u5 = .int .i64 n) ∧ (L 6 = true → u6 = .tuple #[.agg (bl V).toArray, .int .i64 E]) ∧ (L 7 = true → u7 = .tuple #[.agg (bl V).toArray, .int .i64 E]) ∧ (L 8 = true → u8 = .agg (bl V).toArray) ∧ (L 9 = true → u9 = .int .i64 E) ∧ (L 12 = true → u11 = .int .i64 E) ∧ (L 10 = true → ∃ bk, u10 = .pointer (some ⟨bk, 0, none⟩) ∧ w0.heap.size ≤ bk ∧ (L 11 = false → w'.heap[bk]? = some (.cells (bl fun _ => 0).toArray 36 (0, 0))) ∧ (L 11 = true → w'.heap[bk]? = some (.cells (bl V).toArray 36 (0, 0)))) ∧ (L 11 = true → L 10 = true) ∧ Below w0.heap.size w0 w'

/-- the state of the search for a spare sector -/
def RwP (w1 wr : World) (g n k : Nat) (T V : Nat → Int) (X1 : Dst) (i : Nat) (t : Int) : Prop :=
  w1.grownBy wr (some g) ∧ HasD wr g n (spS n k T V X1 i) ∧ ((t = -1 ∧ ∀ j, j < i → stopB n k T V X1 j = false) ∨
    ∃ j : Nat, i = j + 1 ∧ t = (n : Int) - 20 + j ∧ (∀ j', j' < j → stopB n k T V X1 j' = false) ∧ stopB n k T V X1 j = true ∧ spC n k T V X1 j = 0)

set_option maxRecDepth 100000 in
set_option maxHeartbeats 16000000 in
theorem refwr_d {w : World} {g b n : Nat} {X : Dst} (h : HasD w g n X) (hk : Kp w) (hok : Ok 23 X) (gen : Int) (k : Nat) (F T : Nat → Int) (hT : HasT w b g ⟨gen, k, F, T⟩) (hm : TabOk ⟨gen, k, F, T⟩) (hgb : g ≠ b) (x : Int) (V : Nat → Int) :
    Calls Tryz.prog 53 #[.pointer (some ⟨g, 0, none⟩), .pointer (some ⟨b, 0, none⟩), .int .i64 x, .agg (bl V).toArray] w (Wrote w g b n (wRes n X ⟨gen, k, F, T⟩ x V)) := by
  unfold Wrote
  obtain ⟨pa, cap, hb, hl⟩ := hT
  obtain ⟨hk47, hF⟩ := hm
  dsimp only at hb hl hk47 hF
  have HD := Lib.hid h
  have HK := Lib.hid hk
  have HOK := Lib.hid hok
  have HL := Lib.hid hl
  have HFF := Lib.hid hF
  have hg0 := hk.ne h
  have hgl := h.lt
  have hbl := (Array.getElem?_eq_some_iff.1 hb).1
  have C0 := Lib.hid (@w_c0 n X ⟨gen, k, F, T⟩ x V)
  have C1 := Lib.hid (@w_c1 n X ⟨gen, k, F, T⟩ x V)
  have C2 := Lib.hid (@w_c2 n X ⟨gen, k, F, T⟩ x V)
  have C3 := Lib.hid (@w_c3 n X ⟨gen, k, F, T⟩ x V)
  have C4 := Lib.hid (@w_c4 n X ⟨gen, k, F, T⟩ x V)
  have C5 := Lib.hid (@w_c5 n X ⟨gen, k, F, T⟩ x V)
  have C6 := Lib.hid (@w_c6 n X ⟨gen, k, F, T⟩ x V)
  generalize wRes n X ⟨gen, k, F, T⟩ x V = R at C0 C1 C2 C3 C4 C5 C6 ⊢
  obtain ⟨W, hW, hB0, hv0, hs0⟩ : ∃ W, W = w.alloc (.cells (bl V).toArray 36) ∧ Below w.heap.size w W ∧ W.heap[w.heap.size]? = some (.cells (bl V).toArray 36 (0, 0)) ∧ W.heap.size = w.heap.size + 1 :=
    ⟨_, rfl, (Below.refl _ _).alloc (Nat.le_refl _) _, heap_alloc_new _ _, by simp⟩
  have hb0 := (hB0.block b hbl).trans hb
  obtain ⟨sa, sc, ca, cc, bx0, HA⟩ := asked_d (h.below hB0) gen k F T pa cap g x ((hl.below hB0).more (by omega)) hk47
  have HBX := Lib.hid (fun w' (hw' : Below W.heap.size W w') => bx0.below hw')
  have HMX := Lib.hid (fun w' (hw' : Below W.heap.size W w') => show w'.cell? ⟨b, 0, none⟩ = some (.int .i64 gen) ∧ w'.cell? ⟨b, 1, none⟩ = some (.slice pa k cap) from
    ⟨(hw'.cell (p := ⟨b, 0, none⟩) (by show b < _; omega)).trans (by rw [cell_of_row _ _ _ _ _ _ hb0]; rfl), (hw'.cell (p := ⟨b, 1, none⟩) (by show b < _; omega)).trans (by rw [cell_of_row _ _ _ _ _ _ hb0]; rfl)⟩)
  have und := und29
  have hl1 := bl_one V
  have hl2 := size_bl V
  have hl3 := bl_length V
  have HHP := Lib.hid (@home_parts n X gen k F T x)
  have HHB : Hid (homeB n X gen k F T x = (decide (hfN n X ≠ 0) && rightB n gen k F T && lentB (hfN n X) x)) := Lib.hid rfl
  clear h hk hok hl hF hb bx0
  cases hom : homeB n X gen k F T x with
  | false =>
    rw [hom] at HA
    have HAS := Lib.hid HA
    have HR := Lib.hid (C0.out hom)
    clear HA hom C0 C1 C2 C3 C4 C5 C6
    go_enter Tryz.func53, Tryz.ntmps53
    go_wp2_with fail
    rw [← hW]
    clear hW
    refine wp_region_quiet (C := fun w' => Below W.heap.size W w') (by kernel_rfl) (by kernel_rfl) ⟨rfl, rfl, rfl, Nat.le_refl _, fun _ _ => rfl⟩ ?_
    refine q_move _ rfl rfl ?_
    simp only [Act.put, List.setIfInBounds_toArray, List.set_cons_succ, List.set_cons_zero]
    refine q_val (.pointer (some ⟨g, 0, none⟩)) rfl (fun w' hw' => by go_simp) ?_
    simp only [Act.put, List.setIfInBounds_toArray, List.set_cons_succ, List.set_cons_zero]
    refine q_val (.agg #[.slice sa n sc, .slice ca X.m cc, .int .i64 X.f, .bool X.d]) rfl (fun w' hw' => by have hH := HBX.out w' hw'; have k0 := hH.c0; have k1 := hH.c1; have k2 := hH.c2; have k3 := hH.c3; go_simp) ?_
    simp only [Act.put, List.setIfInBounds_toArray, List.set_cons_succ, List.set_cons_zero]
    refine q_move _ rfl rfl ?_
    simp only [Act.put, List.setIfInBounds_toArray, List.set_cons_succ, List.set_cons_zero]
    refine q_val (.pointer (some ⟨b, 0, none⟩)) rfl (fun w' hw' => by go_simp) ?_
    simp only [Act.put, List.setIfInBounds_toArray, List.set_cons_succ, List.set_cons_zero]
    refine q_val (.agg #[.int .i64 gen, .slice pa k cap]) rfl (fun w' hw' => by obtain ⟨k0, k1⟩ := HMX.out w' hw'; go_simp) ?_
    simp only [Act.put, List.setIfInBounds_toArray, List.set_cons_succ, List.set_cons_zero]
    refine q_move _ rfl rfl ?_
    simp only [Act.put, List.setIfInBounds_toArray, List.set_cons_succ, List.set_cons_zero]
    refine q_call 74 _ (.bool false) rfl (fun w' => by go_simp) (fun w' hw' => (HAS.out w' hw').mono fun e w'' ⟨he, hb⟩ => ⟨he, hw'.trans (hb.mono hw'.size)⟩) ?_
    simp only [Act.put, List.setIfInBounds_toArray, List.set_cons_succ, List.set_cons_zero]
    refine q_val (.bool (!false)) rfl (fun w' hw' => by go_simp) ?_
    simp only [Act.put, List.setIfInBounds_toArray, List.set_cons_succ, List.set_cons_zero]
    refine wpQuiet_nil ?_
    intro w1 hw1
    have hB1 : Below w.heap.size w w1 := hB0.trans (hw1.mono (by omega))
    have hv1 := (hw1.block w.heap.size (by omega)).trans hv0
    have ht1 := (hw1.block b (by omega)).trans hb0
    have hs1 : w.heap.size < w1.heap.size := by have := hw1.size; omega
    have hD1 := HD.out.below hB1
    have hL1 := (HL.out.below hB1).more hB1.size
    clear HAS HBX HMX hw1
    go_wp2_with fail
    go_ret
    exact ⟨by rw [HR.out]; rfl, Two.of (only_below hB1), by rw [HR.out]; exact hD1, by rw [HR.out]; exact ⟨pa, cap, ht1, hL1⟩⟩
  | true =>
    rw [hom] at HA
    have HAS := Lib.hid HA
    clear HA C0
    obtain ⟨hn0, hn1, hg1, hg2, hk20, hx64⟩ := HHP.out hom
    have HOM := Lib.hid hom
    have hparts : formed n X ∧ rightB n gen k F T = true ∧ halfN n ≠ 0 := by
      have := HHB.out
      rw [hom] at this
      have h2 := this.symm
      simp only [Bool.and_eq_true, decide_eq_true_eq] at h2
      obtain ⟨⟨h3, h4⟩, _⟩ := h2
      unfold hfN at h3
      unfold formed
      split at h3
      · exact ⟨by assumption, h4, h3⟩
      · simp at h3
    have HFM := Lib.hid hparts.1
    have HRT := Lib.hid hparts.2.1
    obtain ⟨hh0, hh1, hh2⟩ := halfN_bd n
    obtain ⟨hh3, hn2⟩ := hh2 hparts.2.2
    clear hom hparts hh2 HHB HHP
    go_enter Tryz.func53, Tryz.ntmps53
    go_wp2_with fail
    rw [← hW]
    clear hW
    refine wp_region_quiet (C := fun w' => Below W.heap.size W w') (by kernel_rfl) (by kernel_rfl) ⟨rfl, rfl, rfl, Nat.le_refl _, fun _ _ => rfl⟩ ?_
    refine q_move _ rfl rfl ?_
    simp only [Act.put, List.setIfInBounds_toArray, List.set_cons_succ, List.set_cons_zero]
    refine q_val (.pointer (some ⟨g, 0, none⟩)) rfl (fun w' hw' => by go_simp) ?_
    simp only [Act.put, List.setIfInBounds_toArray, List.set_cons_succ, List.set_cons_zero]
    refine q_val (.agg #[.slice sa n sc, .slice ca X.m cc, .int .i64 X.f, .bool X.d]) rfl (fun w' hw' => by have hH := HBX.out w' hw'; have k0 := hH.c0; have k1 := hH.c1; have k2 := hH.c2; have k3 := hH.c3; go_simp) ?_
    simp only [Act.put, List.setIfInBounds_toArray, List.set_cons_succ, List.set_cons_zero]
    refine q_move _ rfl rfl ?_
    simp only [Act.put, List.setIfInBounds_toArray, List.set_cons_succ, List.set_cons_zero]
    refine q_val (.pointer (some ⟨b, 0, none⟩)) rfl (fun w' hw' => by go_simp) ?_
    simp only [Act.put, List.setIfInBounds_toArray, List.set_cons_succ, List.set_cons_zero]
    refine q_val (.agg #[.int .i64 gen, .slice pa k cap]) rfl (fun w' hw' => by obtain ⟨k0, k1⟩ := HMX.out w' hw'; go_simp) ?_
    simp only [Act.put, List.setIfInBounds_toArray, List.set_cons_succ, List.set_cons_zero]
    refine q_move _ rfl rfl ?_
    simp only [Act.put, List.setIfInBounds_toArray, List.set_cons_succ, List.set_cons_zero]
    refine q_call 74 _ (.bool true) rfl (fun w' => by go_simp) (fun w' hw' => (HAS.out w' hw').mono fun e w'' ⟨he, hb⟩ => ⟨he, hw'.trans (hb.mono hw'.size)⟩) ?_
    simp only [Act.put, List.setIfInBounds_toArray, List.set_cons_succ, List.set_cons_zero]
    refine q_val (.bool (!true)) rfl (fun w' hw' => by go_simp) ?_
    simp only [Act.put, List.setIfInBounds_toArray, List.set_cons_succ, List.set_cons_zero]
    refine wpQuiet_nil ?_
    intro w1 hw1
    have hB1 : Below w.heap.size w w1 := hB0.trans (hw1.mono (by omega))
    have hv1 := (hw1.block w.heap.size (by omega)).trans hv0
    have ht1 := (hw1.block b (by omega)).trans hb0
    have hs1 : w.heap.size < w1.heap.size := by have := hw1.size; omega
    have hD1 := HD.out.below hB1
    have hL1 := (HL.out.below hB1).more hB1.size
    clear HAS HBX HMX hw1 hv0 hb0 hs0 hB0
    have HS := Lib.hid (fun (u : World) (hu : w1.grownBy u (some g)) => show u.heap[b]? = some (.cells #[.int .i64 gen, .slice pa k cap] 28 (0, 0)) ∧ u.heap[w.heap.size]? = some (.cells (bl V).toArray 36 (0, 0)) from
      ⟨(hu.block b (by omega) (by simpa using fun e => hgb e.symm)).trans ht1, (hu.block w.heap.size hs1 (by simp; omega)).trans hv1⟩)
    have HC := Lib.hid (fun (u : World) (hu : w1.grownBy u (some g)) => show u.cell? ⟨b, 0, none⟩ = some (.int .i64 gen) ∧ u.cell? ⟨b, 1, none⟩ = some (.slice pa k cap) ∧ u.rangeAt w.heap.size 0 (bl V) from
      ⟨by rw [cell_of_row _ _ _ _ _ _ (HS.out u hu).1]; rfl, by rw [cell_of_row _ _ _ _ _ _ (HS.out u hu).1]; rfl, fun j v hj => by rw [cell_of_row _ _ _ _ _ _ (HS.out u hu).2, Nat.zero_add]; simpa using hj⟩)
    have HLY := Lib.hid (fun (u : World) (hu : w1.grownBy u (some g)) => (hL1.grown hu (Nat.le_refl _)).more hu.size)
    have HKP := Lib.hid (fun (u : World) (hu : w1.grownBy u (some g)) => (HK.out.below hB1).grown hu hg0)
    have HTW := Lib.hid (fun (u : World) (hu : w1.grownBy u (some g)) => show Two w u g b from Two.of (Dk.only_trans (only_below hB1) hu))
    have HTT := Lib.hid (fun (u : World) (hu : w1.grownBy u (some g)) => show HasT u b g ⟨gen, k, F, T⟩ from ⟨pa, cap, (HS.out u hu).1, HLY.out u hu⟩)
    have hdr : w1.grownBy w1.drew (some g) := ⟨rfl, rfl, rfl, Nat.le_refl _, fun _ _ _ => rfl⟩
    obtain ⟨s0, s1, s2⟩ := HC.out w1.drew hdr
    have HDD := Lib.hid hD1
    clear hL1 hD1 ht1 hv1
    go_wp2_with fail
    go_region_held3 (fun w' => w'.cell? ⟨b, 0, none⟩ = some (.int .i64 gen) ∧ w'.cell? ⟨b, 1, none⟩ = some (.slice pa k cap) ∧ w'.rangeAt w.heap.size 0 (bl V))
      (first
        | exact ⟨s0, s1, s2⟩
        | exact HC.out w2 (Dk.only_trans hdr (only_below hb2))
        | exact HC.out w3 (Dk.only_trans (Dk.only_trans hdr (only_below hb2)) hg3))
      (first
        | ((go_at_call 76; refine (refat_any gen k F T pa cap g x _ (by exact HLY.out w1.drew hdr) hk47).mono ?_; rintro _ w2 ⟨rfl, hb2⟩))
        | ((go_at_call 78; refine (refwrite_x (by exact (HDD.out.below (w' := w1.drew) ⟨rfl, rfl, rfl, Nat.le_refl _, fun _ _ => rfl⟩).below hb2) (by exact HOK.out.less (by omega)) _ _).mono ?_; rintro _ w3 ⟨rfl, hg3, hD3⟩)))
    have hG3 : w1.grownBy w3 (some g) := Dk.only_trans (Dk.only_trans hdr (only_below hb2)) hg3
    have hO1 : Ok 22 (w1X n X ⟨gen, k, F, T⟩ x V) := HOK.out.wr
    have hf1 : formed n (w1X n X ⟨gen, k, F, T⟩ x V) := HFM.out.wr _ _
    have hD3' : HasD w3 g n (w1X n X ⟨gen, k, F, T⟩ x V) := hD3
    have hE1 : dWrE n X (wA ⟨gen, k, F, T⟩ x) = dWrE n X (atT F T k x) := rfl
    rw [hE1] at C1 C2 C3 C4 C5 C6
    generalize dWrE n X (atT F T k x) = E1 at C1 C2 C3 C4 C5 C6 ⊢
    have HG3 := Lib.hid hG3
    clear hE1 s0 s1 s2 hdr hb2 hg3 hD3 hG3
    by_cases e1 : E1 = 2
    · have C2' := Lib.hid (C2.out HOM.out e1)
      have C3' := Lib.hid (C3.out HOM.out e1)
      have C4' := Lib.hid (C4.out HOM.out e1)
      have C5' := Lib.hid (C5.out HOM.out e1)
      have C6' := Lib.hid (C6.out HOM.out e1)
      clear C1 C2 C3 C4 C5 C6
      subst e1
      generalize hX1 : w1X n X ⟨gen, k, F, T⟩ x V = X1 at hO1 hD3' hf1 C2' C3' C4' C5' C6'
      have HX1 := Lib.hid hX1
      have HF1 := Lib.hid hf1
      have HO1 := Lib.hid hO1
      obtain ⟨sa3, sc3, ca3, cc3, bx3, HH⟩ := halves_d hD3'
      rw [hf1.hf] at HH
      have c0 := bx3.c0
      have c1 := bx3.c1
      have c2 := bx3.c2
      have c3 := bx3.c3
      have HHH := Lib.hid HH
      have HD3 := Lib.hid hD3'
      have HH2 := Lib.hid hn2
      clear hX1 hO1 hf1 hD3' bx3 HH
      obtain ⟨H, hHe⟩ : ∃ H, H = halfN n := ⟨_, rfl⟩
      have HHE := Lib.hid hHe
      rw [← hHe] at hh0 hh1 hh3 hn2 HHH
      clear hHe
      have hw2 : IntKind.i64.wrap (2 * H) = 2 * H := IntWalk.i64_in _ (by omega)
      have hw20 : IntKind.i64.wrap (2 * H + 20) = 2 * H + 20 := IntWalk.i64_in _ (by omega)
      replace hn2 := Lib.hid hn2
      go_wp2_with fail
      refine HHH.out.mono ?_
      rintro _ w4 ⟨rfl, hb4⟩
      have HI : Hid (RwP w1 w4 g n k T V X1 0 (-1)) := Lib.hid ⟨Dk.only_trans HG3.out (only_below hb4), HD3.out.below hb4, .inl ⟨rfl, fun j hj => by omega⟩⟩
      clear hb4 c0 c1 c2 c3 HHH HG3 HD3
      dsimp only
      go_wp2_with fail
      go_loopw [11, 12] (fun tv sv wr => ∃ i : Nat, i ≤ 20 ∧ ∃ t : Int, tv = .int .i64 t ∧ sv = .int .i64 (2 * H + (i : Int)) ∧ Hid (RwP w1 wr g n k T V X1 i t)) (fun _ sv _ => (2 * H + 20 - intOf sv).toNat)
      case atStart => exact ⟨0, by omega, -1, rfl, by simp, HI⟩
      case round =>
        clear HI
        obtain ⟨i, hi, t, rfl, rfl, hR⟩ := hrel
        obtain ⟨hG, hD, hc⟩ := hR.out
        have HG := Lib.hid hG
        have HDr := Lib.hid hD
        obtain ⟨m0, m1, m2⟩ := HC.out wr hG
        have ha : (n : Int) - 20 + i = 2 * H + i := by have := hn2.out; omega
        have HAA := Lib.hid ha
        clear hR hG hD ha
        rcases hc with ⟨rfl, hst⟩ | ⟨j, rfl, rfl, hst, hsb, hsc⟩
        · have HST := Lib.hid hst
          clear hst
          by_cases hi20 : i < 20
          · have hi0 : (0 : Int) ≤ (i : Int) := by omega
            have his : 2 * H + (i : Int) < 2 * H + 20 := by omega
            have hwi : IntKind.i64.wrap (2 * H + (i : Int) + 1) = 2 * H + (i : Int) + 1 := IntWalk.i64_in _ (by omega)
            have HROW := Lib.hid (fun (j : Nat) (hj : j < k) => (HLY.out wr HG.out).rows.resolve_left (by omega))
            have HOUT : Hid (w1.grownBy wr (some g) ∧ HasD wr g n (spS n k T V X1 i)) := Lib.hid ⟨HG.out, HDr.out⟩
            go_wp2_with fail
            clear m0 m1 m2 HROW
            go_loopw [13, 14] (fun uv jv wr' => ∃ j : Nat, j ≤ k ∧ jv = .int .i64 j ∧ ∃ q : Bool, uv = .bool q ∧ Hid (q = !noneB T (2 * H + (i : Int)) j) ∧ Hid (w1.grownBy wr' (some g) ∧ HasD wr' g n (spS n k T V X1 i))) (fun _ jv _ => k - (intOf jv).toNat)
            case atStart => exact ⟨0, by omega, rfl, false, rfl, Lib.hid rfl, HOUT⟩
            case round =>
              clear HOUT HG HDr
              obtain ⟨j, hj, rfl, q, rfl, hq, hR⟩ := hrel
              obtain ⟨hG, hD⟩ := hR.out
              have HG := Lib.hid hG
              have HDr := Lib.hid hD
              obtain ⟨m0, m1, m2⟩ := HC.out wr hG
              clear hG hD
              by_cases hlt : j < k
              · have hj0 : (0 : Int) ≤ (j : Int) := by omega
                have hjk : (j : Int) < (k : Int) := by omega
                obtain ⟨pb, po, hpa, _, _, hrow⟩ := (HLY.out wr HG.out).rows.resolve_left (by omega)
                obtain ⟨dF, dT⟩ := pr_cells hrow hlt
                rw [hpa] at m1
                replace hpa := Lib.hid hpa
                clear hrow
                cases q with
                | true =>
                  have hN : Hid (true = !noneB T (2 * H + (i : Int)) (j + 1)) := Lib.hid (by
                    have h1 : noneB T (2 * H + (i : Int)) j = false := by
                      have := hq.out
                      cases h2 : noneB T (2 * H + (i : Int)) j with
                      | false => rfl
                      | true => rw [h2] at this; cases this
                    simp [noneB, h1])
                  go_wp2_with fail
                  go_roundw
                  case rel => exact ⟨j + 1, by omega, by go_num, true, rfl, hN, hR⟩
                  case measure => simp [intOf]; omega
                | false =>
                  have hN : Hid ((T j == 2 * H + (i : Int)) = !noneB T (2 * H + (i : Int)) (j + 1)) := Lib.hid (by
                    have h1 : noneB T (2 * H + (i : Int)) j = true := by
                      have := hq.out
                      cases h2 : noneB T (2 * H + (i : Int)) j with
                      | true => rfl
                      | false => rw [h2] at this; cases this
                    by_cases e : T j = 2 * H + (i : Int) <;> simp [noneB, h1, e])
                  go_wp2_with fail
                  go_roundw
                  case rel => exact ⟨j + 1, by omega, by go_num, _, rfl, hN, hR⟩
                  case measure => simp [intOf]; omega
              · obtain rfl : k = j := by omega
                cases q with
                | true =>
                  have h1 : noneB T (2 * H + (i : Int)) k = false := by
                    have := hq.out
                    cases h2 : noneB T (2 * H + (i : Int)) k with
                    | false => rfl
                    | true => rw [h2] at this; cases this
                  have HN : Hid (RwP w1 wr g n k T V X1 (i + 1) (-1)) := Lib.hid ⟨HG.out, by simp only [spS, HAA.out, h1]; exact HDr.out, .inl ⟨rfl, fun j hj => by
                    by_cases e : j = i
                    · subst e; unfold stopB; rw [HAA.out, h1]; rfl
                    · exact HST.out j (by omega)⟩⟩
                  clear h1
                  go_wp2_with fail
                  go_roundw
                  case rel => exact ⟨i + 1, by omega, -1, rfl, by go_num, HN⟩
                  case measure => simp [intOf]; omega
                | false =>
                  have h1 : noneB T (2 * H + (i : Int)) k = true := by
                    have := hq.out
                    cases h2 : noneB T (2 * H + (i : Int)) k with
                    | true => rfl
                    | false => rw [h2] at this; cases this
                  have HSP : Hid (spS n k T V X1 (i + 1) = dWr n (spS n k T V X1 i) (2 * H + (i : Int)) V) := Lib.hid (by simp only [spS, HAA.out, h1]; rfl)
                  have HSC : Hid (spC n k T V X1 i = dWrE n (spS n k T V X1 i) (2 * H + (i : Int))) := Lib.hid (by unfold spC; rw [HAA.out])
                  have HSB : Hid (stopB n k T V X1 i = decide (spC n k T V X1 i ≠ 2)) := Lib.hid (by unfold stopB; rw [HAA.out, h1]; rfl)
                  have HOi : Hid (Ok 1 (spS n k T V X1 i)) := Lib.hid ((spS_ok (m := 2) HO1.out i (by omega)).less (by omega))
                  clear h1
                  go_wp2_with (refine @wpList_loadG _ _ _ _ _ _ _ (by kernel_rfl) 36 (.tmp 7) rfl w.heap.size 0 rfl (bl V) _ m2 und rfl hl2 ?_; simp only [Act.put, List.setIfInBounds_toArray, List.set_cons_succ, List.set_cons_zero])
                  refine (refwrite_x HDr.out HOi.out (2 * H + (i : Int)) V).mono ?_
                  rintro _ w5 ⟨rfl, hg5, hD5⟩
                  rw [← HSP.out] at hD5
                  rw [← HSC.out]
                  have HG5 := Lib.hid (Dk.only_trans HG.out hg5)
                  have HD5 := Lib.hid hD5
                  obtain ⟨Ec, hEc⟩ : ∃ Ec, Ec = spC n k T V X1 i := ⟨_, rfl⟩
                  rw [← hEc]
                  have HEc := Lib.hid hEc
                  clear hg5 hD5 HSP HSC HOi hEc m0 m1 m2
                  dsimp only
                  by_cases ez : Ec = 0
                  · have HN : Hid (RwP w1 w5 g n k T V X1 (i + 1) (2 * H + (i : Int))) := Lib.hid ⟨HG5.out, HD5.out, .inr ⟨i, rfl, HAA.out.symm, HST.out, by rw [HSB.out, ← HEc.out, ez]; rfl, by rw [← HEc.out, ez]⟩⟩
                    subst ez
                    go_wp2_with fail
                    go_roundw
                    case rel => exact ⟨i + 1, by omega, 2 * H + (i : Int), rfl, by go_num, HN⟩
                    case measure => simp [intOf]; omega
                  · have ne0 : (Ec == 0) = false := by simpa using ez
                    by_cases e2 : Ec = 2
                    · have HN : Hid (RwP w1 w5 g n k T V X1 (i + 1) (-1)) := Lib.hid ⟨HG5.out, HD5.out, .inl ⟨rfl, fun j hj => by
                        by_cases e : j = i
                        · subst e; rw [HSB.out, ← HEc.out, e2]; rfl
                        · exact HST.out j (by omega)⟩⟩
                      subst e2
                      clear ez
                      go_wp2_with fail
                      go_roundw
                      case rel => exact ⟨i + 1, by omega, -1, rfl, by go_num, HN⟩
                      case measure => simp [intOf]; omega
                    · have ne2 : (Ec == 2) = false := by simpa using e2
                      have hsp := sp_at (n := n) (k := k) (T := T) (V := V) (X := X1) HST.out (by rw [HSB.out, ← HEc.out]; simpa using e2) hi20
                      have hX2 : w2X n X ⟨gen, k, F, T⟩ x V = spS n k T V X1 (i + 1) := by unfold w2X; rw [HX1.out]; exact hsp.2.2
                      have hr := C2'.out (by show spE n k T V X1 ≠ 0; rw [hsp.2.1, ← HEc.out]; exact ez)
                      rw [hX2] at hr
                      have hr' : R = (Ec, spS n k T V X1 (i + 1), ⟨gen, k, F, T⟩) := by rw [hr]; show (spE n k T V X1, _, _) = _; rw [hsp.2.1, ← HEc.out]
                      have HR := Lib.hid hr'
                      clear hr hr' hX2 hsp ez e2
                      go_wp2_with fail
                      go_ret
                      exact ⟨by rw [HR.out]; rfl, HTW.out w5 HG5.out, by rw [HR.out]; exact HD5.out, by rw [HR.out]; exact HTT.out w5 HG5.out⟩
          · obtain rfl : i = 20 := by omega
            have hsp := sp_none (n := n) (k := k) (T := T) (V := V) (X := X1) HST.out
            have hX2 : w2X n X ⟨gen, k, F, T⟩ x V = spS n k T V X1 20 := by unfold w2X; rw [HX1.out]; exact hsp.2.2
            have hr := C2'.out (by show spE n k T V X1 ≠ 0; rw [hsp.2.1]; omega)
            rw [hX2] at hr
            have hr' : R = (17, spS n k T V X1 20, ⟨gen, k, F, T⟩) := by rw [hr]; show (spE n k T V X1, _, _) = _; rw [hsp.2.1]
            have HR := Lib.hid hr'
            have his : ¬ 2 * H + ((20 : Nat) : Int) < 2 * H + 20 := by omega
            clear hr hr' hX2 hsp hi20
            go_wp2_with fail
            go_ret
            exact ⟨by rw [HR.out]; rfl, HTW.out wr HG.out, by rw [HR.out]; exact HDr.out, by rw [HR.out]; exact HTT.out wr HG.out⟩
        · have hj20 : j < 20 := by omega
          have haj : (n : Int) - 20 + j = 2 * H + j := by have := hn2.out; omega
          have hsp := sp_at (n := n) (k := k) (T := T) (V := V) (X := X1) hst hsb hj20
          have hX2 : w2X n X ⟨gen, k, F, T⟩ x V = spS n k T V X1 (j + 1) := by unfold w2X; rw [HX1.out]; exact hsp.2.2
          have hTo : spTo n k T V X1 = 2 * H + j := by rw [hsp.1, haj]
          have hE2 : spE n k T V X1 = 0 := by rw [hsp.2.1, hsc]
          have hkn : k ≠ 20 := by
            rintro rfl
            have h1 := no_room HRT.out hj20
            unfold stopB at hsb
            rw [h1] at hsb
            cases hsb
          have hkb : ((k : Int) == 20) = false := by simp; omega
          have hX3 : w3X n X ⟨gen, k, F, T⟩ x V = dFl n (spS n k T V X1 (j + 1)) := by unfold w3X; rw [hX2]
          have hN : wN n X ⟨gen, k, F, T⟩ x V = ⟨gen + 1, rpK F k x, rpF F k x, rpT F T k x (2 * H + j)⟩ := by unfold wN Tab.next; rw [HX1.out]; show (⟨gen + 1, rpK F k x, rpF F k x, rpT F T k x (spTo n k T V X1)⟩ : Tab) = _; rw [hTo]
          have h4E : w4E n X ⟨gen, k, F, T⟩ x V = lyE n (dFl n (spS n k T V X1 (j + 1))) (gen + 1) (rpK F k x) (rpF F k x) (rpT F T k x (2 * H + j)) := by unfold w4E; rw [hX3, hN]
          have h4X : w4X n X ⟨gen, k, F, T⟩ x V = lyX n (dFl n (spS n k T V X1 (j + 1))) (gen + 1) (rpK F k x) (rpF F k x) (rpT F T k x (2 * H + j)) := by unfold w4X; rw [hX3, hN]
          have D3 := C3'.out hE2
          have D4 := C4'.out hE2
          have D5 := C5'.out hE2
          have D6 := C6'.out hE2
          rw [hX2, hX3] at D3
          rw [hX2, h4E, h4X] at D4
          rw [hX2, h4E, h4X] at D5
          rw [hX2, h4E, h4X, hN] at D6
          have E3 := Lib.hid D3
          have E4 := Lib.hid D4
          have E5 := Lib.hid D5
          have E6 := Lib.hid D6
          have HO2 : Hid (Ok 2 (spS n k T V X1 (j + 1))) := Lib.hid ((spS_ok (m := 2) HO1.out (j + 1) (by omega)).less (by omega))
          have HF2 := Lib.hid (HF1.out.sp (k := k) (T := T) (V := V) (j + 1))
          have HD2 := Lib.hid HDr.out
          rw [haj]
          have hto : ¬ (2 * H + (j : Int) < 0) := by omega
          have HATC := Lib.hid (refat_any gen k F T pa cap g x wr (HLY.out wr HG.out) hk47)
          clear hst hsb hsc hsp hX2 hTo hE2 hkn hX3 hN h4E h4X D3 D4 D5 D6 C2' C3' C4' C5' C6' HDr haj
          generalize spS n k T V X1 (j + 1) = X2 at E3 E4 E5 E6 HO2 HF2 HD2
          generalize atT F T k x = A at HATC
          have hwj : ((2 * H + ((j + 1 : Nat) : Int)) < 2 * H + 20) ∨ ¬ ((2 * H + ((j + 1 : Nat) : Int)) < 2 * H + 20) := Decidable.em _
          have hxb : (A == x) = true ∨ (A == x) = false := by cases h : A == x <;> simp
          go_upto_region 9 with fail
          go_cut [52] from 44 to 87 (fun v wc => v = .bool false ∧ wr = wc)
          case first =>
            rcases hwj with hwj | hwj
            all_goals
              go_wp2_with fail
              go_meet
              exact ⟨rfl, rfl⟩
          case rest =>
            obtain ⟨rfl, rfl⟩ := hcut
            clear hwj
            go_upto_region 22 with fail
            go_cut [106] from 88 (fun v wc => v = .bool false ∧ Hid (Below wr.heap.size wr wc))
            case first =>
              rcases hxb with hxb | hxb
              all_goals
                go_wp2_with fail
                refine HATC.out.mono ?_
                rintro _ w4b ⟨rfl, hb4⟩
                obtain ⟨m0', m1', m2'⟩ := HC.out w4b (Dk.only_trans HG.out (only_below hb4))
                clear m0 m1 m2
                have HB4 := Lib.hid hb4
                clear hb4
                dsimp only
                go_wp2_with fail
                go_meet
                exact ⟨rfl, HB4⟩
            case rest =>
              obtain ⟨rfl, hb4⟩ := hcut
              have HG4 := Lib.hid (Dk.only_trans HG.out (only_below hb4.out))
              have HD4 := Lib.hid (HD2.out.below hb4.out)
              clear HATC hb4 HD2 m0 m1 m2
              go_wp2_with fail
              refine (refflush_x HD4.out (HO2.out.less (by omega))).mono ?_
              rintro _ w5 ⟨rfl, hg5, hD5⟩
              have HG5 := Lib.hid (Dk.only_trans HG4.out hg5)
              have HD5 := Lib.hid hD5
              have HO3 : Hid (Ok 2 (dFl n X2)) := Lib.hid HO2.out.fl
              have HF3 : Hid (hfN n (dFl n X2) = H) := Lib.hid (HF2.out.fl.hf.trans HHE.out.symm)
              clear HD4 hg5 hD5 HG4 HO2 HF2 HG HAA hxb
              generalize dFl n X2 = X3 at HD5 HO3 HF3 E3 E4 E5 E6
              generalize dFlE n X2 = F3 at E3 E4 E5 E6 ⊢
              obtain ⟨s0, s1, s2⟩ := HC.out w5 HG5.out
              dsimp only
              by_cases e3 : F3 = 0
              · have C4 := Lib.hid (E4.out e3)
                have C5 := Lib.hid (E5.out e3)
                have C6 := Lib.hid (E6.out e3)
                clear E3 E4 E5 E6
                subst e3
                have hdi : distB F k = true := (right_parts HRT.out).2.2.2.2.2.1
                go_wp2_with fail
                refine (refwith_any gen k F T pa cap g x (2 * H + (j : Int)) w5 (HLY.out w5 HG5.out) (by omega) hg1 hg2 hdi).mono ?_
                rintro _ w6 ⟨⟨_, rfl, ao, cp, rfl, hown⟩, hb6⟩
                have hTO := next_ok (M := ⟨gen, k, F, T⟩) ⟨hk47, HFF.out⟩ hk20 hx64 (show i64 (2 * H + (j : Int)) from by unfold i64; omega)
                unfold Tab.next at hTO
                obtain ⟨hk'47, hF'⟩ := hTO
                dsimp only at hk'47 hF'
                have HF' := Lib.hid hF'
                clear hF' s0 s1 s2 hdi
                generalize rpK F k x = k' at hown hk'47 HF' C4 C5 C6 ⊢
                generalize rpF F k x = F' at hown HF' C4 C5 C6 ⊢
                generalize rpT F T k x (2 * H + (j : Int)) = T' at hown HF' C4 C5 C6 ⊢
                obtain ⟨G', hG'⟩ : ∃ G', G' = gen + 1 := ⟨_, rfl⟩
                have hG0 : 0 ≤ G' := by omega
                have hGm : Int.tmod G' 2 = G' % 2 := Int.tmod_eq_emod_of_nonneg hG0
                rw [← hG'] at C4 C5 C6 ⊢
                have HGG := Lib.hid hG'
                have HG6 := Lib.hid (Dk.only_trans HG5.out (only_below hb6))
                have HD6 := Lib.hid (HD5.out.below hb6)
                have hs56 := hb6.size
                have hs15 := HG5.out.size
                have HOW := Lib.hid hown
                clear hown hb6 HD5 hG'
                dsimp only
                go_wp2_with (refine @wpList_store_row _ _ _ _ _ _ _ rfl 28 (.tmp 15) (.tmp 117) rfl w6.heap.size #[.int .i64 G', .slice ao k' cp] rfl rfl 28 _ (heap_alloc_new w6 _) (by kernel_rfl) rfl (tb_one _ _ _ _) ?_; rw [World.setRow_alloc_new]; simp only [Act.put]; generalize hW7 : w6.alloc (.cells #[.int .i64 G', .slice ao k' cp] 28) = w7; obtain ⟨k0, k1, HB7, HX7⟩ := new_tab hW7; clear hW7)
                have hO7 := owns_below HOW.out HB7.out
                have hG7 : w1.grownBy w7 (some g) := Dk.only_trans HG6.out (only_below HB7.out)
                have hg5 : g < w5.heap.size := by omega
                have hb5 : b < w5.heap.size := by omega
                have lt67 : w6.heap.size < w7.heap.size := (Array.getElem?_eq_some_iff.1 HX7.out).1
                have HD7 := Lib.hid (HD6.out.below HB7.out)
                obtain ⟨sa7, sc7, ca7, cc7, hH7⟩ := HD7.out
                have d0 := hH7.bx.c0
                have hgl7 := hH7.bx.lt
                have HGB := Lib.hid (fun w' (hw' : Below w7.heap.size w7 w') => (hw'.cell (p := ⟨g, 0, none⟩) hgl7).trans d0)
                have HTB := Lib.hid (fun w' (hw' : Below w7.heap.size w7 w') => show w'.cell? ⟨w6.heap.size, 0, none⟩ = some (.int .i64 G') ∧ w'.cell? ⟨w6.heap.size, 1, none⟩ = some (.slice ao k' cp) from
                  ⟨(hw'.cell (p := ⟨w6.heap.size, 0, none⟩) lt67).trans k0, (hw'.cell (p := ⟨w6.heap.size, 1, none⟩) lt67).trans k1⟩)
                have HPUT := Lib.hid (fun w' (hw' : Below w7.heap.size w7 w') => refput_any n G' k' F' T' ao cp w'.heap.size w' (lay_own (fun i _ => prV_length F' T' i) (owns_below hO7 hw') (.inr (Nat.le_refl _))) hk'47 HF'.out (Nat.lt_of_lt_of_le (HKP.out w7 hG7).2 hw'.size))
                have L0 := Lib.hid (@ly_0 n X3 G' k' F' T')
                have L1 := Lib.hid (fun he => @ly_1 n X3 G' k' F' T' H he HF3.out)
                have L2 := Lib.hid (fun he => @ly_2 n X3 G' k' F' T' H he HF3.out)
                have L3 := Lib.hid (fun he => @ly_3 n X3 G' k' F' T' H he HF3.out)
                have HO7 := Lib.hid hO7
                have HG7 := Lib.hid hG7
                clear k0 k1 hH7 d0 HOW HG6 HD6 hO7 hG7
                generalize putV n G' k' F' T' = P at HPUT L1 L2 L3
                generalize putEr n G' k' F' T' = EP at HPUT L0 L1 L2 L3
                have hl1 := bl_one P
                have hl2 := size_bl P
                have hl3 := bl_length P
                refine QuietTail2.regionInv (n := 13) (Inv := RwInv _ _ _ _ _ _ _ _ _ _ _ _ _ _ _ _ _ _ _ _ _ _ _ _ _ _ _ _ _ _ _ _ _ _ _ _ _ _ _ _ _ _ _ _ _ _ _ _ _ _ _ _ _ _ _ _ _ _ _ _ _ _ _ _ _ _ _ _ _ _ _ _ _ _ _ _ _ _ _ _ _ _ _ _ _ _ _ _ _ _ _ _ _ _ _ _ _ _ _ _ _ _ _ _ _ _ _ _ _ _ _ _ _ _ _ _ _ _ _ _ _ _ _ _ _ _ _ _ _ _ _ _ _ _ _ _ _ _ _ _ _ _ _ _ _ _ _ _ _ _ _ _ _ _ _ _ _ _ _ G' ao k' cp w6.heap.size g n sa7 sc7 P EP w7) (by kernel_rfl) (by decide) (by kernel_rfl) ⟨_, _, _, _, _, _, _, _, _, _, _, _, rfl, by simp, by simp, by simp, by simp, by simp, by simp, by simp, by simp, by simp, by simp, by simp, by simp, by simp, ⟨rfl, rfl, rfl, Nat.le_refl _, fun _ _ => rfl⟩⟩ ?step ?fin
                case step =>
                  rintro i o hi ho L a' w' ⟨u0, u1, u2, u3, u4, u5, u6, u7, u8, u9, u10, u11, rfl, i0, i1, i2, i3, i4, i5, i6, i7, i8, i9, i11, ia, ic, iB⟩ hL hpre
                  match i, hi with
                  | 0, _ =>
                    simp at ho
                    subst ho
                    obtain ⟨k0, k1⟩ := HTB.out w' iB
                    go_simp
                    exact ⟨_, u1, u2, u3, u4, u5, u6, u7, u8, u9, u10, u11, rfl, fun _ => rfl, keepL i1 rfl, keepL i2 rfl, keepL i3 rfl, keepL i4 rfl, keepL i5 rfl, keepL i6 rfl, keepL i7 rfl, keepL i8 rfl, keepL i9 rfl, keepL i11 rfl, keepA ia rfl rfl, keepC ic rfl, iB⟩
                  | 1, _ =>
                    simp at ho
                    subst ho
                    go_simp
                    exact ⟨u0, _, u2, u3, u4, u5, u6, u7, u8, u9, u10, u11, rfl, keepL i0 rfl, fun _ => rfl, keepL i2 rfl, keepL i3 rfl, keepL i4 rfl, keepL i5 rfl, keepL i6 rfl, keepL i7 rfl, keepL i8 rfl, keepL i9 rfl, keepL i11 rfl, keepA ia rfl rfl, keepC ic rfl, iB⟩
                  | 2, _ =>
                    simp at ho
                    subst ho
                    obtain rfl := i1 (hpre 1 (by kernel_rfl))
                    go_simp
                    exact ⟨u0, _, _, u3, u4, u5, u6, u7, u8, u9, u10, u11, rfl, keepL i0 rfl, keepL i1 rfl, fun _ => rfl, keepL i3 rfl, keepL i4 rfl, keepL i5 rfl, keepL i6 rfl, keepL i7 rfl, keepL i8 rfl, keepL i9 rfl, keepL i11 rfl, keepA ia rfl rfl, keepC ic rfl, iB⟩
                  | 3, _ =>
                    simp at ho
                    subst ho
                    obtain rfl := i2 (hpre 2 (by kernel_rfl))
                    go_simp
                    exact ⟨u0, u1, _, _, u4, u5, u6, u7, u8, u9, u10, u11, rfl, keepL i0 rfl, keepL i1 rfl, keepL i2 rfl, fun _ => rfl, keepL i4 rfl, keepL i5 rfl, keepL i6 rfl, keepL i7 rfl, keepL i8 rfl, keepL i9 rfl, keepL i11 rfl, keepA ia rfl rfl, keepC ic rfl, iB⟩
                  | 4, _ =>
                    simp at ho
                    subst ho
                    obtain rfl := i3 (hpre 3 (by kernel_rfl))
                    have k0 := HGB.out w' iB
                    go_simp
                    exact ⟨u0, u1, u2, _, _, u5, u6, u7, u8, u9, u10, u11, rfl, keepL i0 rfl, keepL i1 rfl, keepL i2 rfl, keepL i3 rfl, fun _ => rfl, keepL i5 rfl, keepL i6 rfl, keepL i7 rfl, keepL i8 rfl, keepL i9 rfl, keepL i11 rfl, keepA ia rfl rfl, keepC ic rfl, iB⟩
                  | 5, _ =>
                    simp at ho
                    subst ho
                    obtain rfl := i4 (hpre 4 (by kernel_rfl))
                    go_simp
                    exact ⟨u0, u1, u2, u3, _, _, u6, u7, u8, u9, u10, u11, rfl, keepL i0 rfl, keepL i1 rfl, keepL i2 rfl, keepL i3 rfl, keepL i4 rfl, fun _ => rfl, keepL i6 rfl, keepL i7 rfl, keepL i8 rfl, keepL i9 rfl, keepL i11 rfl, keepA ia rfl rfl, keepC ic rfl, iB⟩
                  | 6, _ =>
                    simp at ho
                    subst ho
                    obtain rfl := i0 (hpre 0 (by kernel_rfl))
                    obtain rfl := i5 (hpre 5 (by kernel_rfl))
                    go_simp
                    refine (HPUT.out w' iB).mono ?_
                    rintro _ w'' ⟨rfl, hbp⟩
                    exact ⟨_, u1, u2, u3, u4, _, _, u7, u8, u9, u10, u11, rfl, keepL i0 rfl, keepL i1 rfl, keepL i2 rfl, keepL i3 rfl, keepL i4 rfl, keepL i5 rfl, fun _ => rfl, keepL i7 rfl, keepL i8 rfl, keepL i9 rfl, keepL i11 rfl, keepA (allocKeep ia hbp) rfl rfl, keepC ic rfl, iB.trans (hbp.mono iB.size)⟩
                  | 7, _ =>
                    simp at ho
                    subst ho
                    obtain rfl := i6 (hpre 6 (by kernel_rfl))
                    go_simp
                    exact ⟨u0, u1, u2, u3, u4, u5, _, _, u8, u9, u10, u11, rfl, keepL i0 rfl, keepL i1 rfl, keepL i2 rfl, keepL i3 rfl, keepL i4 rfl, keepL i5 rfl, keepL i6 rfl, fun _ => rfl, keepL i8 rfl, keepL i9 rfl, keepL i11 rfl, keepA ia rfl rfl, keepC ic rfl, iB⟩
                  | 8, _ =>
                    simp at ho
                    subst ho
                    obtain rfl := i7 (hpre 7 (by kernel_rfl))
                    go_simp
                    exact ⟨u0, u1, u2, u3, u4, u5, u6, _, _, u9, u10, u11, rfl, keepL i0 rfl, keepL i1 rfl, keepL i2 rfl, keepL i3 rfl, keepL i4 rfl, keepL i5 rfl, keepL i6 rfl, keepL i7 rfl, fun _ => rfl, keepL i9 rfl, keepL i11 rfl, keepA ia rfl rfl, keepC ic rfl, iB⟩
                  | 9, _ =>
                    simp at ho
                    subst ho
                    obtain rfl := i7 (hpre 7 (by kernel_rfl))
                    go_simp
                    exact ⟨u0, u1, u2, u3, u4, u5, u6, _, u8, _, u10, u11, rfl, keepL i0 rfl, keepL i1 rfl, keepL i2 rfl, keepL i3 rfl, keepL i4 rfl, keepL i5 rfl, keepL i6 rfl, keepL i7 rfl, keepL i8 rfl, fun _ => rfl, keepL i11 rfl, keepA ia rfl rfl, keepC ic rfl, iB⟩
                  | 10, _ =>
                    simp at ho
                    subst ho
                    have hn := heap_alloc_new w' (.cells (bl fun _ => 0).toArray 36)
                    go_simp
                    exact ⟨u0, u1, u2, u3, u4, u5, u6, u7, u8, u9, _, u11, rfl, keepL i0 rfl, keepL i1 rfl, keepL i2 rfl, keepL i3 rfl, keepL i4 rfl, keepL i5 rfl, keepL i6 rfl, keepL i7 rfl, keepL i8 rfl, keepL i9 rfl, keepL i11 rfl, fun _ => ⟨_, rfl, iB.size, fun _ => hn, fun h => absurd (ic h) (by rw [hL]; simp)⟩, fun _ => rfl, iB.alloc iB.size _⟩
                  | 11, _ =>
                    simp at ho
                    subst ho
                    obtain ⟨bk, rfl, hbk, hz, _⟩ := ia (hpre 10 (by kernel_rfl))
                    obtain rfl := i8 (hpre 8 (by kernel_rfl))
                    have hz0 := hz hL
                    refine wp_store_row 36 (.tmp 16) (.tmp 126) rfl bk (bl P).toArray rfl rfl 36 _ hz0 (size_bl' _) rfl (bl_all _) ?_
                    have hz1 := setRow_heap w' bk _ (bl P).toArray 36 (0, 0) hz0
                    exact ⟨u0, u1, u2, u3, u4, u5, u6, u7, _, u9, _, u11, rfl, keepL i0 rfl, keepL i1 rfl, keepL i2 rfl, keepL i3 rfl, keepL i4 rfl, keepL i5 rfl, keepL i6 rfl, keepL i7 rfl, keepL i8 rfl, keepL i9 rfl, keepL i11 rfl, fun _ => ⟨bk, rfl, hbk, fun h => by simp at h, fun _ => hz1⟩, fun _ => by show (10 == 11 || L 10) = true; rw [hpre 10 (by kernel_rfl)]; rfl, iB.trans ⟨rfl, rfl, rfl, by simp, fun k hk => setRow_other w' bk k _ (by omega)⟩⟩
                  | 12, _ =>
                    simp at ho
                    subst ho
                    obtain rfl := i9 (hpre 9 (by kernel_rfl))
                    go_simp
                    exact ⟨u0, u1, u2, u3, u4, u5, u6, u7, u8, _, u10, _, rfl, keepL i0 rfl, keepL i1 rfl, keepL i2 rfl, keepL i3 rfl, keepL i4 rfl, keepL i5 rfl, keepL i6 rfl, keepL i7 rfl, keepL i8 rfl, keepL i9 rfl, fun _ => rfl, keepA ia rfl rfl, keepC ic rfl, iB⟩
                  | i + 13, h => omega
                case fin =>
                  rintro L a' w8 hall ⟨u0, u1, u2, u3, u4, u5, u6, u7, u8, u9, u10, u11, rfl, i0, i1, i2, i3, i4, i5, i6, i7, i8, i9, i11, ia, ic, iB⟩
                  obtain rfl := i0 (hall 0 (by omega))
                  obtain rfl := i1 (hall 1 (by omega))
                  obtain rfl := i2 (hall 2 (by omega))
                  obtain rfl := i3 (hall 3 (by omega))
                  obtain rfl := i4 (hall 4 (by omega))
                  obtain rfl := i5 (hall 5 (by omega))
                  obtain rfl := i6 (hall 6 (by omega))
                  obtain rfl := i7 (hall 7 (by omega))
                  obtain rfl := i8 (hall 8 (by omega))
                  obtain rfl := i9 (hall 9 (by omega))
                  obtain rfl := i11 (hall 12 (by omega))
                  obtain ⟨bk, rfl, hbk, _, hbV'⟩ := ia (hall 10 (by omega))
                  have hbV := hbV' (hall 11 (by omega))
                  clear i0 i1 i2 i3 i4 i5 i6 i7 i8 i9 i11 ia ic hbV' hall
                  simp only [List.drop_succ_cons, List.drop_zero]
                  have hG8 : w1.grownBy w8 (some g) := Dk.only_trans HG7.out (only_below iB)
                  have hD8 := HD7.out.below iB
                  have hX8 := (iB.block w6.heap.size lt67).trans HX7.out
                  have hO8 := owns_below HO7.out iB
                  have hs78 := iB.size
                  have hltb : bk < w8.heap.size := (Array.getElem?_eq_some_iff.1 hbV).1
                  have own_ne : ∀ q, q < w5.heap.size → (Value.slice ao k' cp).ownBlock = none ∨ (Value.slice ao k' cp).ownBlock ≠ some q := fun q hq => by
                    cases e : (Value.slice ao k' cp).ownBlock with
                    | none => exact .inl rfl
                    | some r => exact .inr (by have := (hO8.lt r e).1; simp; omega)
                  have HQ := Lib.hid (fun (u : World) (hu : w8.grownBy u (some g)) => show u.heap[w6.heap.size]? = some (.cells #[.int .i64 G', .slice ao k' cp] 28 (0, 0)) ∧ u.rangeAt bk 0 (bl P) ∧ u.ownsRow w5.heap.size 72 2 (.slice ao k' cp) k' (flat (prV F' T') k') from
                    ⟨(hu.block w6.heap.size (by omega) (by simp; omega)).trans hX8, fun j v hj => by rw [cell_of_row _ _ _ _ _ _ ((hu.block bk hltb (by simp; omega)).trans hbV), Nat.zero_add]; simpa using hj, hO8.kept hu (own_ne g hg5)⟩)
                  have HG8 := Lib.hid hG8
                  have HD8 := Lib.hid hD8
                  obtain ⟨qx, qv, _⟩ := HQ.out w8 ⟨rfl, rfl, rfl, Nat.le_refl _, fun _ _ _ => rfl⟩
                  have k0 : w8.cell? ⟨w6.heap.size, 0, none⟩ = some (.int .i64 G') := by rw [cell_of_row _ _ _ _ _ _ qx]; rfl
                  clear iB hG8 hD8 hX8 hO8 hbV HPUT HTB HGB HD7 HX7 HB7 HO7 HG7 qx own_ne
                  by_cases eP : EP = 0
                  · have M1 := Lib.hid (L1.out eP)
                    have M2 := Lib.hid (L2.out eP)
                    have M3 := Lib.hid (L3.out eP)
                    subst eP
                    clear L0 L1 L2 L3
                    go_wp2_with (refine @wpList_loadG _ _ _ _ _ _ _ (by kernel_rfl) 36 (.tmp 16) rfl bk 0 rfl (bl P) _ qv und rfl hl2 ?_; simp only [Act.put, List.setIfInBounds_toArray, List.set_cons_succ, List.set_cons_zero])
                    refine (refwrite_x HD8.out (HO3.out.less (by omega)) (G' % 2) P).mono ?_
                    rintro _ w9 ⟨rfl, hg9, hD9⟩
                    have HG89 := Lib.hid hg9
                    have HG9 := Lib.hid (Dk.only_trans HG8.out hg9)
                    have HD9 := Lib.hid hD9
                    have HO4 : Hid (Ok 1 (dWr n X3 (G' % 2) P)) := Lib.hid HO3.out.wr
                    obtain ⟨qx9, qv9, _⟩ := HQ.out w9 hg9
                    have k9 : w9.cell? ⟨w6.heap.size, 0, none⟩ = some (.int .i64 G') := by rw [cell_of_row _ _ _ _ _ _ qx9]; rfl
                    have hwg : IntKind.i64.wrap (H + G' % 2) = H + G' % 2 := IntWalk.i64_in _ (by omega)
                    clear hg9 hD9 HD8 HO3 qx9 qv k0
                    generalize dWr n X3 (G' % 2) P = Y1 at HD9 HO4 M1 M2 M3
                    generalize dWrE n X3 (G' % 2) = F4 at M1 M2 M3 ⊢
                    dsimp only
                    by_cases b1 : bad F4
                    · have hr := C4.out (by rw [(M1.out b1).1]; exact b1.1)
                      rw [(M1.out b1).1, (M1.out b1).2] at hr
                      have HR := Lib.hid hr
                      have ne0 : (F4 == 0) = false := by simpa using b1.1
                      have nb0 : (F4 != 0) = true := by simpa using b1.1
                      have nb2 : (F4 != 2) = true := by simpa using b1.2
                      have ne2 : (F4 == 2) = false := by simpa using b1.2
                      clear C4 C5 C6 M1 M2 M3 hr b1
                      go_wp2_with fail
                      go_ret
                      exact ⟨by rw [HR.out]; rfl, HTW.out w9 HG9.out, by rw [HR.out]; exact HD9.out, by rw [HR.out]; exact HTT.out w9 HG9.out⟩
                    · have hcs : F4 = 0 ∨ F4 = 2 := by unfold bad at b1; omega
                      rcases hcs with rfl | rfl
                      ·
                        have N2 := Lib.hid (M2.out b1)
                        have N3 := Lib.hid (M3.out b1)
                        go_wp2_with (refine @wpList_loadG _ _ _ _ _ _ _ (by kernel_rfl) 36 (.tmp 16) rfl bk 0 rfl (bl P) _ qv9 und rfl hl2 ?_; simp only [Act.put, List.setIfInBounds_toArray, List.set_cons_succ, List.set_cons_zero])
                        refine (refwrite_x HD9.out HO4.out (H + G' % 2) P).mono ?_
                        rintro _ w10 ⟨rfl, hg10, hD10⟩
                        have HG810 := Lib.hid (Dk.only_trans HG89.out hg10)
                        have HG10 := Lib.hid (Dk.only_trans HG9.out hg10)
                        have HD10 := Lib.hid hD10
                        have HO5 : Hid (Ok 0 (dWr n Y1 (H + G' % 2) P)) := Lib.hid HO4.out.wr
                        clear hg10 hD10 HD9 HO4 HG89 HG9 qv9 k9
                        generalize dWr n Y1 (H + G' % 2) P = Y2 at HD10 HO5 N2 N3
                        generalize dWrE n Y1 (H + G' % 2) = F5 at N2 N3 ⊢
                        dsimp only
                        by_cases b2 : bad F5
                        · have hr := C4.out (by rw [(N2.out b2).1]; exact b2.1)
                          rw [(N2.out b2).1, (N2.out b2).2] at hr
                          have HR := Lib.hid hr
                          have ne0 : (F5 == 0) = false := by simpa using b2.1
                          have nb0 : (F5 != 0) = true := by simpa using b2.1
                          have nb2 : (F5 != 2) = true := by simpa using b2.2
                          have ne2 : (F5 == 2) = false := by simpa using b2.2
                          clear C4 C5 C6 N2 N3 M1 M2 M3 hr b2
                          go_wp2_with fail
                          go_ret
                          exact ⟨by rw [HR.out]; rfl, HTW.out w10 HG10.out, by rw [HR.out]; exact HD10.out, by rw [HR.out]; exact HTT.out w10 HG10.out⟩
                        · have hcs2 : F5 = 0 ∨ F5 = 2 := by unfold bad at b2; omega
                          rcases hcs2 with rfl | rfl
                          ·
                            have hE4 := (N3.out b2).1
                            have hX4 := (N3.out b2).2
                            have hE4' : lyE n X3 G' k' F' T' = 0 := by rw [hE4]; simp
                            have D5 := C5.out hE4'
                            have D6 := C6.out hE4'
                            rw [hX4] at D5 D6
                            have Q5 := Lib.hid D5
                            have Q6 := Lib.hid D6
                            clear hE4 hX4 hE4' D5 D6 C4 C5 C6 N2 N3 M1 M2 M3
                            go_wp2_with fail
                            refine (refflush_x HD10.out HO5.out).mono ?_
                            rintro _ w11 ⟨rfl, hg11, hD11⟩
                            have hG811 := Dk.only_trans HG810.out hg11
                            obtain ⟨qx, _, qo⟩ := HQ.out w11 hG811
                            have HG11 := Lib.hid (Dk.only_trans HG8.out hG811)
                            have HD11 := Lib.hid hD11
                            have hbb := (HS.out w11 HG11.out).1
                            have k0 : w11.cell? ⟨w6.heap.size, 0, none⟩ = some (.int .i64 G') := by rw [cell_of_row _ _ _ _ _ _ qx]; rfl
                            have k1 : w11.cell? ⟨w6.heap.size, 1, none⟩ = some (.slice ao k' cp) := by rw [cell_of_row _ _ _ _ _ _ qx]; rfl
                            have HQO := Lib.hid qo
                            clear hg11 hD11 hG811 qx qo HD10 HO5
                            generalize dFl n Y2 = Y3 at HD11 Q5 Q6
                            generalize dFlE n Y2 = F6 at Q5 Q6 ⊢
                            dsimp only
                            by_cases e6 : F6 = 0
                            · have HR := Lib.hid (Q6.out e6)
                              subst e6
                              go_wp2_with (refine @wpList_store_row _ _ _ _ _ _ _ rfl 28 (.tmp 171) (.tmp 170) rfl b #[.int .i64 G', .slice ao k' cp] rfl rfl 28 _ hbb (by kernel_rfl) rfl (tb_one _ _ _ _) ?_; simp only [Act.put])
                              have hbn := setRow_heap w11 b _ #[.int .i64 G', .slice ao k' cp] 28 (0, 0) hbb
                              have hgB : w11.grownBy (w11.setRow b #[.int .i64 G', .slice ao k' cp]) (some b) := ⟨rfl, rfl, rfl, by simp, fun i _ hr => setRow_other _ _ _ _ (by simpa using hr)⟩
                              have hOn := HQO.out.kept hgB (by
                                cases e : (Value.slice ao k' cp).ownBlock with
                                | none => exact .inl rfl
                                | some r => exact .inr (by have := (HQO.out.lt r e).1; simp; omega))
                              have hTw := HTW.out w11 HG11.out
                              go_ret
                              exact ⟨by rw [HR.out]; rfl, ⟨hTw.os, hTw.tape, hTw.output, by simpa using hTw.size, fun i hi h1 h2 => (setRow_other w11 b i _ h2).trans (hTw.block i hi h1 h2)⟩, by rw [HR.out]; exact HD11.out.row hbb hgb _, by rw [HR.out]; exact ⟨ao, cp, hbn, lay_own (g := g) (fun i _ => prV_length F' T' i) hOn (.inl hg5)⟩⟩
                            · have HR := Lib.hid (Q5.out e6)
                              have ne : (F6 == 0) = false := by simpa using e6
                              clear Q5 Q6 e6
                              go_wp2_with fail
                              go_ret
                              exact ⟨by rw [HR.out]; rfl, HTW.out w11 HG11.out, by rw [HR.out]; exact HD11.out, by rw [HR.out]; exact HTT.out w11 HG11.out⟩
                          ·
                            have hE4 := (N3.out b2).1
                            have hX4 := (N3.out b2).2
                            have hE4' : lyE n X3 G' k' F' T' = 0 := by rw [hE4]; simp
                            have D5 := C5.out hE4'
                            have D6 := C6.out hE4'
                            rw [hX4] at D5 D6
                            have Q5 := Lib.hid D5
                            have Q6 := Lib.hid D6
                            clear hE4 hX4 hE4' D5 D6 C4 C5 C6 N2 N3 M1 M2 M3
                            go_wp2_with fail
                            refine (refflush_x HD10.out HO5.out).mono ?_
                            rintro _ w11 ⟨rfl, hg11, hD11⟩
                            have hG811 := Dk.only_trans HG810.out hg11
                            obtain ⟨qx, _, qo⟩ := HQ.out w11 hG811
                            have HG11 := Lib.hid (Dk.only_trans HG8.out hG811)
                            have HD11 := Lib.hid hD11
                            have hbb := (HS.out w11 HG11.out).1
                            have k0 : w11.cell? ⟨w6.heap.size, 0, none⟩ = some (.int .i64 G') := by rw [cell_of_row _ _ _ _ _ _ qx]; rfl
                            have k1 : w11.cell? ⟨w6.heap.size, 1, none⟩ = some (.slice ao k' cp) := by rw [cell_of_row _ _ _ _ _ _ qx]; rfl
                            have HQO := Lib.hid qo
                            clear hg11 hD11 hG811 qx qo HD10 HO5
                            generalize dFl n Y2 = Y3 at HD11 Q5 Q6
                            generalize dFlE n Y2 = F6 at Q5 Q6 ⊢
                            dsimp only
                            by_cases e6 : F6 = 0
                            · have HR := Lib.hid (Q6.out e6)
                              subst e6
                              go_wp2_with (refine @wpList_store_row _ _ _ _ _ _ _ rfl 28 (.tmp 171) (.tmp 170) rfl b #[.int .i64 G', .slice ao k' cp] rfl rfl 28 _ hbb (by kernel_rfl) rfl (tb_one _ _ _ _) ?_; simp only [Act.put])
                              have hbn := setRow_heap w11 b _ #[.int .i64 G', .slice ao k' cp] 28 (0, 0) hbb
                              have hgB : w11.grownBy (w11.setRow b #[.int .i64 G', .slice ao k' cp]) (some b) := ⟨rfl, rfl, rfl, by simp, fun i _ hr => setRow_other _ _ _ _ (by simpa using hr)⟩
                              have hOn := HQO.out.kept hgB (by
                                cases e : (Value.slice ao k' cp).ownBlock with
                                | none => exact .inl rfl
                                | some r => exact .inr (by have := (HQO.out.lt r e).1; simp; omega))
                              have hTw := HTW.out w11 HG11.out
                              go_ret
                              exact ⟨by rw [HR.out]; rfl, ⟨hTw.os, hTw.tape, hTw.output, by simpa using hTw.size, fun i hi h1 h2 => (setRow_other w11 b i _ h2).trans (hTw.block i hi h1 h2)⟩, by rw [HR.out]; exact HD11.out.row hbb hgb _, by rw [HR.out]; exact ⟨ao, cp, hbn, lay_own (g := g) (fun i _ => prV_length F' T' i) hOn (.inl hg5)⟩⟩
                            · have HR := Lib.hid (Q5.out e6)
                              have ne : (F6 == 0) = false := by simpa using e6
                              clear Q5 Q6 e6
                              go_wp2_with fail
                              go_ret
                              exact ⟨by rw [HR.out]; rfl, HTW.out w11 HG11.out, by rw [HR.out]; exact HD11.out, by rw [HR.out]; exact HTT.out w11 HG11.out⟩
                      ·
                        have N2 := Lib.hid (M2.out b1)
                        have N3 := Lib.hid (M3.out b1)
                        go_wp2_with (refine @wpList_loadG _ _ _ _ _ _ _ (by kernel_rfl) 36 (.tmp 16) rfl bk 0 rfl (bl P) _ qv9 und rfl hl2 ?_; simp only [Act.put, List.setIfInBounds_toArray, List.set_cons_succ, List.set_cons_zero])
                        refine (refwrite_x HD9.out HO4.out (H + G' % 2) P).mono ?_
                        rintro _ w10 ⟨rfl, hg10, hD10⟩
                        have HG810 := Lib.hid (Dk.only_trans HG89.out hg10)
                        have HG10 := Lib.hid (Dk.only_trans HG9.out hg10)
                        have HD10 := Lib.hid hD10
                        have HO5 : Hid (Ok 0 (dWr n Y1 (H + G' % 2) P)) := Lib.hid HO4.out.wr
                        clear hg10 hD10 HD9 HO4 HG89 HG9 qv9 k9
                        generalize dWr n Y1 (H + G' % 2) P = Y2 at HD10 HO5 N2 N3
                        generalize dWrE n Y1 (H + G' % 2) = F5 at N2 N3 ⊢
                        dsimp only
                        by_cases b2 : bad F5
                        · have hr := C4.out (by rw [(N2.out b2).1]; exact b2.1)
                          rw [(N2.out b2).1, (N2.out b2).2] at hr
                          have HR := Lib.hid hr
                          have ne0 : (F5 == 0) = false := by simpa using b2.1
                          have nb0 : (F5 != 0) = true := by simpa using b2.1
                          have nb2 : (F5 != 2) = true := by simpa using b2.2
                          have ne2 : (F5 == 2) = false := by simpa using b2.2
                          clear C4 C5 C6 N2 N3 M1 M2 M3 hr b2
                          go_wp2_with fail
                          go_ret
                          exact ⟨by rw [HR.out]; rfl, HTW.out w10 HG10.out, by rw [HR.out]; exact HD10.out, by rw [HR.out]; exact HTT.out w10 HG10.out⟩
                        · have hcs2 : F5 = 0 ∨ F5 = 2 := by unfold bad at b2; omega
                          rcases hcs2 with rfl | rfl
                          ·
                            have hE4 := (N3.out b2).1
                            have hX4 := (N3.out b2).2
                            have hE4' : lyE n X3 G' k' F' T' = 0 := by rw [hE4]; simp
                            have D5 := C5.out hE4'
                            have D6 := C6.out hE4'
                            rw [hX4] at D5 D6
                            have Q5 := Lib.hid D5
                            have Q6 := Lib.hid D6
                            clear hE4 hX4 hE4' D5 D6 C4 C5 C6 N2 N3 M1 M2 M3
                            go_wp2_with fail
                            refine (refflush_x HD10.out HO5.out).mono ?_
                            rintro _ w11 ⟨rfl, hg11, hD11⟩
                            have hG811 := Dk.only_trans HG810.out hg11
                            obtain ⟨qx, _, qo⟩ := HQ.out w11 hG811
                            have HG11 := Lib.hid (Dk.only_trans HG8.out hG811)
                            have HD11 := Lib.hid hD11
                            have hbb := (HS.out w11 HG11.out).1
                            have k0 : w11.cell? ⟨w6.heap.size, 0, none⟩ = some (.int .i64 G') := by rw [cell_of_row _ _ _ _ _ _ qx]; rfl
                            have k1 : w11.cell? ⟨w6.heap.size, 1, none⟩ = some (.slice ao k' cp) := by rw [cell_of_row _ _ _ _ _ _ qx]; rfl
                            have HQO := Lib.hid qo
                            clear hg11 hD11 hG811 qx qo HD10 HO5
                            generalize dFl n Y2 = Y3 at HD11 Q5 Q6
                            generalize dFlE n Y2 = F6 at Q5 Q6 ⊢
                            dsimp only
                            by_cases e6 : F6 = 0
                            · have HR := Lib.hid (Q6.out e6)
                              subst e6
                              go_wp2_with (refine @wpList_store_row _ _ _ _ _ _ _ rfl 28 (.tmp 171) (.tmp 170) rfl b #[.int .i64 G', .slice ao k' cp] rfl rfl 28 _ hbb (by kernel_rfl) rfl (tb_one _ _ _ _) ?_; simp only [Act.put])
                              have hbn := setRow_heap w11 b _ #[.int .i64 G', .slice ao k' cp] 28 (0, 0) hbb
                              have hgB : w11.grownBy (w11.setRow b #[.int .i64 G', .slice ao k' cp]) (some b) := ⟨rfl, rfl, rfl, by simp, fun i _ hr => setRow_other _ _ _ _ (by simpa using hr)⟩
                              have hOn := HQO.out.kept hgB (by
                                cases e : (Value.slice ao k' cp).ownBlock with
                                | none => exact .inl rfl
                                | some r => exact .inr (by have := (HQO.out.lt r e).1; simp; omega))
                              have hTw := HTW.out w11 HG11.out
                              go_ret
                              exact ⟨by rw [HR.out]; rfl, ⟨hTw.os, hTw.tape, hTw.output, by simpa using hTw.size, fun i hi h1 h2 => (setRow_other w11 b i _ h2).trans (hTw.block i hi h1 h2)⟩, by rw [HR.out]; exact HD11.out.row hbb hgb _, by rw [HR.out]; exact ⟨ao, cp, hbn, lay_own (g := g) (fun i _ => prV_length F' T' i) hOn (.inl hg5)⟩⟩
                            · have HR := Lib.hid (Q5.out e6)
                              have ne : (F6 == 0) = false := by simpa using e6
                              clear Q5 Q6 e6
                              go_wp2_with fail
                              go_ret
                              exact ⟨by rw [HR.out]; rfl, HTW.out w11 HG11.out, by rw [HR.out]; exact HD11.out, by rw [HR.out]; exact HTT.out w11 HG11.out⟩
                          ·
                            have hE4 := (N3.out b2).1
                            have hX4 := (N3.out b2).2
                            have hE4' : lyE n X3 G' k' F' T' = 2 := by rw [hE4]; simp
                            have hr := C4.out (by rw [hE4']; omega)
                            rw [hE4', hX4] at hr
                            have HR := Lib.hid hr
                            clear hE4 hX4 hE4' hr C4 C5 C6 N2 N3 M1 M2 M3
                            go_wp2_with fail
                            go_ret
                            exact ⟨by rw [HR.out]; rfl, HTW.out w10 HG10.out, by rw [HR.out]; exact HD10.out, by rw [HR.out]; exact HTT.out w10 HG10.out⟩
                  · have hr := C4.out (by rw [(L0.out eP).1]; exact eP)
                    rw [(L0.out eP).1, (L0.out eP).2] at hr
                    have HR := Lib.hid hr
                    have ne : (EP == 0) = false := by simpa using eP
                    clear C4 C5 C6 L0 L1 L2 L3 eP hr
                    go_wp2_with fail
                    go_ret
                    exact ⟨by rw [HR.out]; rfl, HTW.out w8 HG8.out, by rw [HR.out]; exact HD8.out, by rw [HR.out]; exact HTT.out w8 HG8.out⟩
              · have HR := Lib.hid (E3.out e3)
                have ne : (F3 == 0) = false := by simpa using e3
                clear E3 E4 E5 E6 e3
                go_wp2_with fail
                go_ret
                exact ⟨by rw [HR.out]; rfl, HTW.out w5 HG5.out, by rw [HR.out]; exact HD5.out, by rw [HR.out]; exact HTT.out w5 HG5.out⟩
    · have HR := Lib.hid (C1.out HOM.out e1)
      have ne : (E1 == 2) = false := by simpa using e1
      clear C1 C2 C3 C4 C5 C6 e1
      go_wp2_with fail
      go_ret
      exact ⟨by rw [HR.out]; rfl, HTW.out w3 HG3.out, by rw [HR.out]; exact hD3', by rw [HR.out]; exact HTT.out w3 HG3.out⟩
end Rm
end Go.Proofs.YtllejfnmbpjhaaaGreatDoor
/- remap: two disks with their tables, of which one pair is turned, then the other. -/
namespace Go.Proofs.YtllejfnmbpjhaaaGreatDoor
set_option maxRecDepth 20000
namespace Rm
open Go.RowKit Dk Byt

theorem far2 {w w' : World} {B g : Nat} {ao : Option Addr} {n cap k : Nat} {T : Nat → List Value} (h : Lay w B g ao n cap k T) (hk : ∀ i, i < n → (T i).length = k) (hk4 : 4 < k) {q1 q2 : Nat} {c1 c2 : Array Value} {t1 t2 : TypeId} {f1 f2 : Nat × Nat} (h1 : w.heap[q1]? = some (.cells c1 t1 f1)) (s1 : c1.size ≤ 4) (h2 : w.heap[q2]? = some (.cells c2 t2 f2)) (s2 : c2.size ≤ 4) (hT : Two w w' q1 q2) (hB : B ≤ w.heap.size) : Lay w' B g ao n cap k T := by
  refine ⟨h.room, h.nil, ?_⟩
  rcases h.rows with h0 | ⟨b, off, e, hb, hne, hr⟩
  · exact .inl h0
  · rcases Nat.eq_zero_or_pos n with h0 | h0
    · exact .inl h0
    · have no : ∀ {q : Nat} {c : Array Value} {t : TypeId} {f : Nat × Nat}, w.heap[q]? = some (.cells c t f) → c.size ≤ 4 → b ≠ q := by
        rintro q c t f hq hs rfl
        have hl := hk 0 h0
        have h4 : 4 < (T 0).length := by omega
        have := hr 0 h0 4 _ (List.getElem?_eq_getElem h4)
        rw [cell_of_row w b _ c t f hq, Array.getElem?_eq_none (by omega)] at this
        cases this
      exact .inr ⟨b, off, e, hb, hne, fun i hi j v hv => (World.cell?_of_block (w := w) (hT.block b (by omega) (no h1 s1) (no h2 s2))).trans (hr i hi j v hv)⟩
theorem HasD.two {w w' : World} {g n q1 q2 : Nat} {X : Dst} (h : HasD w g n X) {c1 c2 : Array Value} {t1 t2 : TypeId} {f1 f2 : Nat × Nat} (h1 : w.heap[q1]? = some (.cells c1 t1 f1)) (s1 : c1.size ≤ 4) (h2 : w.heap[q2]? = some (.cells c2 t2 f2)) (s2 : c2.size ≤ 4) (hT : Two w w' q1 q2) (n1 : g ≠ q1) (n2 : g ≠ q2) : HasD w' g n X := by
  obtain ⟨sa, sc, ca, cc, hh⟩ := h
  exact ⟨sa, sc, ca, cc, hh.bx.block (hT.block g hh.bx.lt n1 n2), (far2 hh.ss (fun i _ => secV_length _) (by omega) h1 s1 h2 s2 hT (Nat.le_refl _)).more hT.size, (far2 hh.cs (fun i _ => wrV_length _) (by omega) h1 s1 h2 s2 hT (Nat.le_refl _)).more hT.size, hh.nb, hh.mb⟩
theorem HasD.box {w : World} {g n : Nat} {X : Dst} (h : HasD w g n X) : ∃ c t f, w.heap[g]? = some (.cells c t f) ∧ c.size = 4 ∧ NoTwo c := by
  obtain ⟨sa, sc, ca, cc, hh⟩ := h
  exact ⟨_, _, _, hh.bx, rfl, noTwo_disk _ _ _ _ _ _ _ _⟩
theorem HasT.box {w : World} {b g : Nat} {M : Tab} (h : HasT w b g M) : ∃ c t f, w.heap[b]? = some (.cells c t f) ∧ c.size = 2 ∧ NoTwo c := by
  obtain ⟨pa, cap, hb, _⟩ := h
  exact ⟨_, _, _, hb, rfl, noTwo_tab _ _ _ _⟩
theorem box_ne {w : World} {a b : Nat} {c d : Array Value} {t t' : TypeId} {f f' : Nat × Nat} (h1 : w.heap[a]? = some (.cells c t f)) (h2 : w.heap[b]? = some (.cells d t' f')) (hs : c.size ≠ d.size) : a ≠ b := by
  rintro rfl
  rw [h1] at h2
  injection h2 with h2
  injection h2 with h2
  exact hs (by rw [h2])

/-- two disks with their tables -/
structure Pr (bA bP bB bQ n : Nat) (X Y : Dst) (M N : Tab) (w0 w' : World) : Prop where
  a : HasD w' bA n X
  p : HasT w' bP bA M
  b : HasD w' bB n Y
  q : HasT w' bQ bB N
  be : Below w0.heap.size w0 w'
  la : w0.heap.size ≤ bA
  lp : w0.heap.size ≤ bP
  lb : w0.heap.size ≤ bB
  lq : w0.heap.size ≤ bQ
  ab : bA ≠ bB
  pq : bP ≠ bQ
section
variable {bA bP bB bQ n : Nat} {X Y X' Y' : Dst} {M N M' N' : Tab} {w0 w' w'' : World}
theorem Pr.ap (h : Pr bA bP bB bQ n X Y M N w0 w') : bA ≠ bP ∧ bA ≠ bQ ∧ bB ≠ bP ∧ bB ≠ bQ := by
  obtain ⟨_, _, _, a1, a2, _⟩ := h.a.box
  obtain ⟨_, _, _, p1, p2, _⟩ := h.p.box
  obtain ⟨_, _, _, b1, b2, _⟩ := h.b.box
  obtain ⟨_, _, _, q1, q2, _⟩ := h.q.box
  exact ⟨box_ne a1 p1 (by omega), box_ne a1 q1 (by omega), box_ne b1 p1 (by omega), box_ne b1 q1 (by omega)⟩
theorem Pr.one (h : Pr bA bP bB bQ n X Y M N w0 w') (hT : Two w' w'' bA bP) (hD : HasD w'' bA n X') (hM : HasT w'' bP bA M') : Pr bA bP bB bQ n X' Y M' N w0 w'' := by
  obtain ⟨d1, d2, d3, d4⟩ := h.ap
  obtain ⟨_, _, _, a1, a2, a3⟩ := h.a.box
  obtain ⟨_, _, _, p1, p2, p3⟩ := h.p.box
  obtain ⟨_, _, _, b1, b2, b3⟩ := h.b.box
  refine ⟨hD, hM, h.b.two a1 (by omega) p1 (by omega) hT h.ab.symm d3, h.q.apart a1 p1 a3 p3 d2.symm h.pq.symm hT b1 b3, ?_, h.la, h.lp, h.lb, h.lq, h.ab, h.pq⟩
  exact ⟨hT.os.trans h.be.os, hT.tape.trans h.be.tape, hT.output.trans h.be.output, Nat.le_trans h.be.size hT.size, fun k hk => (hT.block k (Nat.lt_of_lt_of_le hk h.be.size) (by have := h.la; omega) (by have := h.lp; omega)).trans (h.be.block k hk)⟩
theorem Pr.flip (h : Pr bA bP bB bQ n X Y M N w0 w') : Pr bB bQ bA bP n Y X N M w0 w' := ⟨h.b, h.q, h.a, h.p, h.be, h.lb, h.lq, h.la, h.lp, h.ab.symm, h.pq.symm⟩
theorem Pr.two (h : Pr bA bP bB bQ n X Y M N w0 w') (hT : Two w' w'' bB bQ) (hD : HasD w'' bB n Y') (hM : HasT w'' bQ bB N') : Pr bA bP bB bQ n X Y' M N' w0 w'' := (h.flip.one hT hD hM).flip
theorem Pr.below (h : Pr bA bP bB bQ n X Y M N w0 w') (hb : Below w'.heap.size w' w'') : Pr bA bP bB bQ n X Y M N w0 w'' := by
  have keep : ∀ {b g : Nat} {M : Tab}, HasT w' b g M → HasT w'' b g M := by
    rintro b g M ⟨pa, cap, h1, h2⟩
    exact ⟨pa, cap, (hb.block b (Array.getElem?_eq_some_iff.1 h1).1).trans h1, (h2.below hb).more hb.size⟩
  exact ⟨h.a.below hb, keep h.p, h.b.below hb, keep h.q, h.be.trans (hb.mono h.be.size), h.la, h.lp, h.lb, h.lq, h.ab, h.pq⟩
/-- .. while two calls turn the one pair, then the other -/
structure PrW (bA bP bB bQ n : Nat) (X X' : Dst) (M M' : Tab) (w0 : World) (c d : Bool) (w' : World) : Prop where
  ord : d = true → c = true
  be : Below w0.heap.size w0 w'
  s0 : c = false → Pr bA bP bB bQ n X X M M w0 w'
  s1 : c = true → d = false → Pr bA bP bB bQ n X' X M' M w0 w'
  s2 : d = true → Pr bA bP bB bQ n X' X' M' M' w0 w'
theorem PrW.start (h : Pr bA bP bB bQ n X X M M w0 w') : PrW bA bP bB bQ n X X' M M' w0 false false w' :=
  ⟨fun e => (by cases e), h.be, fun _ => h, fun e => (by cases e), fun e => (by cases e)⟩
theorem PrW.one (h : PrW bA bP bB bQ n X X' M M' w0 false false w') (hT : Two w' w'' bA bP) (hD : HasD w'' bA n X') (hM : HasT w'' bP bA M') : PrW bA bP bB bQ n X X' M M' w0 true false w'' := by
  have s := (h.s0 rfl).one hT hD hM
  exact ⟨fun e => (by cases e), s.be, fun e => (by cases e), fun _ _ => s, fun e => (by cases e)⟩
theorem PrW.two (h : PrW bA bP bB bQ n X X' M M' w0 true false w') (hT : Two w' w'' bB bQ) (hD : HasD w'' bB n X') (hM : HasT w'' bQ bB M') : PrW bA bP bB bQ n X X' M M' w0 true true w'' := by
  have s := (h.s1 rfl rfl).two hT hD hM
  exact ⟨fun _ => rfl, s.be, fun e => (by cases e), fun _ e => (by cases e), fun _ => s⟩
end
theorem wRes_k (n : Nat) (X : Dst) (M : Tab) (x : Int) (V : Nat → Int) : (wRes n X M x V).2.2.k ≤ M.k + 1 := by
  have h : (wN n X M x V).k ≤ M.k + 1 := by
    show rpK M.F M.k x ≤ M.k + 1
    unfold rpK
    split <;> omega
  unfold wRes
  repeat (first | split | (show M.k ≤ M.k + 1; omega) | exact h)
end Rm
end Go.Proofs.YtllejfnmbpjhaaaGreatDoor
