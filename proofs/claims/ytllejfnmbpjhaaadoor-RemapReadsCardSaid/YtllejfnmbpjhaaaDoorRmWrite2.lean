/- remap: Write, walked. -/
import Derived.Test.YtllejfnmbpjhaaaDoorRmWrite
namespace Go.Proofs.YtllejfnmbpjhaaaDoor
set_option maxRecDepth 20000
namespace Rm
open Go.RowKit Dk Byt

attribute [local go_sem] zv29
attribute [local go_sem] zc29
section
variable {n : Nat} {X : Dst} {M : Tab} {x : Int} {V : Nat → Int}
theorem w_c0 (h : homeB n X M.gen M.k M.F M.T x = false) : wRes n X M x V = (1, X, M) := by unfold wRes; rw [if_pos h]
theorem w_c1 (h : homeB n X M.gen M.k M.F M.T x = true) (h1 : dWrE n X (wA M x) ≠ 2) : wRes n X M x V = (dWrE n X (wA M x), w1X n X M x V, M) := by unfold wRes; rw [if_neg (by rw [h]; simp), if_pos h1]
theorem w_c2 (h : homeB n X M.gen M.k M.F M.T x = true) (h1 : dWrE n X (wA M x) = 2) (h2 : spE n M.k M.T V (w1X n X M x V) ≠ 0) : wRes n X M x V = (spE n M.k M.T V (w1X n X M x V), w2X n X M x V, M) := by
  unfold wRes; rw [if_neg (by rw [h]; simp), if_neg (by rw [h1]; simp), if_pos h2]
theorem w_c3 (h : homeB n X M.gen M.k M.F M.T x = true) (h1 : dWrE n X (wA M x) = 2) (h2 : spE n M.k M.T V (w1X n X M x V) = 0) (h3 : dFlE n (w2X n X M x V) ≠ 0) : wRes n X M x V = (dFlE n (w2X n X M x V), w3X n X M x V, M) := by
  unfold wRes; rw [if_neg (by rw [h]; simp), if_neg (by rw [h1]; simp), if_neg (by rw [h2]; simp), if_pos h3]
theorem w_c4 (h : homeB n X M.gen M.k M.F M.T x = true) (h1 : dWrE n X (wA M x) = 2) (h2 : spE n M.k M.T V (w1X n X M x V) = 0) (h3 : dFlE n (w2X n X M x V) = 0) (h4 : w4E n X M x V ≠ 0) : wRes n X M x V = (w4E n X M x V, w4X n X M x V, M) := by
  unfold wRes; rw [if_neg (by rw [h]; simp), if_neg (by rw [h1]; simp), if_neg (by rw [h2]; simp), if_neg (by rw [h3]; simp), if_pos h4]
theorem w_c5 (h : homeB n X M.gen M.k M.F M.T x = true) (h1 : dWrE n X (wA M x) = 2) (h2 : spE n M.k M.T V (w1X n X M x V) = 0) (h3 : dFlE n (w2X n X M x V) = 0) (h4 : w4E n X M x V = 0) (h5 : dFlE n (w4X n X M x V) ≠ 0) : wRes n X M x V = (dFlE n (w4X n X M x V), dFl n (w4X n X M x V), M) := by
  unfold wRes; rw [if_neg (by rw [h]; simp), if_neg (by rw [h1]; simp), if_neg (by rw [h2]; simp), if_neg (by rw [h3]; simp), if_neg (by rw [h4]; simp), if_pos h5]
theorem w_c6 (h : homeB n X M.gen M.k M.F M.T x = true) (h1 : dWrE n X (wA M x) = 2) (h2 : spE n M.k M.T V (w1X n X M x V) = 0) (h3 : dFlE n (w2X n X M x V) = 0) (h4 : w4E n X M x V = 0) (h5 : dFlE n (w4X n X M x V) = 0) : wRes n X M x V = (0, dFl n (w4X n X M x V), wN n X M x V) := by
  unfold wRes; rw [if_neg (by rw [h]; simp), if_neg (by rw [h1]; simp), if_neg (by rw [h2]; simp), if_neg (by rw [h3]; simp), if_neg (by rw [h4]; simp), if_neg (by rw [h5]; simp)]
end

theorem new_tab {w w' : World} {z : Int} {ao : Option Addr} {k c : Nat} (h : w.alloc (.cells #[.int .i64 z, .slice ao k c] 26) = w') : w'.cell? ⟨w.heap.size, 0, none⟩ = some (.int .i64 z) ∧ w'.cell? ⟨w.heap.size, 1, none⟩ = some (.slice ao k c) ∧ Hid (Below w.heap.size w w') ∧ Hid (w'.heap[w.heap.size]? = some (.cells #[.int .i64 z, .slice ao k c] 26 (0, 0))) := by
  subst h
  have hx := heap_alloc_new w (.cells #[.int .i64 z, .slice ao k c] 26)
  exact ⟨by rw [cell_of_row _ _ _ _ _ _ hx]; rfl, by rw [cell_of_row _ _ _ _ _ _ hx]; rfl, Lib.hid ((Below.refl _ _).alloc (Nat.le_refl _) _), Lib.hid hx⟩
/-- Write's post -/
def Wrote (w : World) (g b n : Nat) (R : Int × Dst × Tab) (e : Ending) (w' : World) : Prop := e = .returned (.int .i64 R.1) ∧ Two w w' g b ∧ HasD w' g n R.2.1 ∧ HasT w' b g R.2.2

set_option maxRecDepth 100000 in
set_option maxHeartbeats 4000000 in
theorem rwrite_d {w : World} {g b n : Nat} {X : Dst} (h : HasD w g n X) (hk : Kp w) (hok : Ok 23 X) (gen : Int) (k : Nat) (F T : Nat → Int) (hT : HasT w b g ⟨gen, k, F, T⟩) (hm : TabOk ⟨gen, k, F, T⟩) (hgb : g ≠ b) (x : Int) (V : Nat → Int) :
    Calls Tryd.prog 21 #[.pointer (some ⟨g, 0, none⟩), .pointer (some ⟨b, 0, none⟩), .int .i64 x, .agg (bl V).toArray] w (Wrote w g b n (wRes n X ⟨gen, k, F, T⟩ x V)) := by
  unfold Wrote
  obtain ⟨pa, cap, hb, hl⟩ := hT
  obtain ⟨hk47, hF⟩ := hm
  dsimp only at hb hl hk47 hF
  have HD := Lib.hid h
  have HK := Lib.hid hk
  have HOK := Lib.hid hok
  have HL := Lib.hid hl
  have HFF := Lib.hid hF
  have hg0 := hk.ne h
  have hgl := h.lt
  have hbl := (Array.getElem?_eq_some_iff.1 hb).1
  have C0 := Lib.hid (@w_c0 n X ⟨gen, k, F, T⟩ x V)
  have C1 := Lib.hid (@w_c1 n X ⟨gen, k, F, T⟩ x V)
  have C2 := Lib.hid (@w_c2 n X ⟨gen, k, F, T⟩ x V)
  have C3 := Lib.hid (@w_c3 n X ⟨gen, k, F, T⟩ x V)
  have C4 := Lib.hid (@w_c4 n X ⟨gen, k, F, T⟩ x V)
  have C5 := Lib.hid (@w_c5 n X ⟨gen, k, F, T⟩ x V)
  have C6 := Lib.hid (@w_c6 n X ⟨gen, k, F, T⟩ x V)
  generalize wRes n X ⟨gen, k, F, T⟩ x V = R at C0 C1 C2 C3 C4 C5 C6 ⊢
  have HHM := Lib.hid (fun W (h : HasD W g n X) hl => home_d h gen k F T pa cap g x hl hk47 hF)
  have HHP := Lib.hid (@home_parts n X gen k F T x)
  have hB0 : Below w.heap.size w (w.alloc (.cells (bl V).toArray 22)) := (Below.refl _ _).alloc (Nat.le_refl _) _
  have hv0 : (w.alloc (.cells (bl V).toArray 22)).heap[w.heap.size]? = some (.cells (bl V).toArray 22 (0, 0)) := heap_alloc_new _ _
  have hs0 : (w.alloc (.cells (bl V).toArray 22)).heap.size = w.heap.size + 1 := by simp
  have hb0 := (hB0.block b hbl).trans hb
  have d0 : (w.alloc (.cells (bl V).toArray 22)).cell? ⟨b, 0, none⟩ = some (.int .i64 gen) := by rw [cell_of_row _ _ _ _ _ _ hb0]; rfl
  have d1 : (w.alloc (.cells (bl V).toArray 22)).cell? ⟨b, 1, none⟩ = some (.slice pa k cap) := by rw [cell_of_row _ _ _ _ _ _ hb0]; rfl
  have und := und29
  have hl1 := bl_one V
  have hl2 := size_bl V
  have hl3 := bl_length V
  clear h hk hok hl hF hb
  go_enter Tryd.func21, Tryd.ntmps21
  go_wp2_with fail
  generalize w.alloc (.cells (bl V).toArray 22) = W at hB0 hv0 hs0 hb0 d0 d1 ⊢
  refine (HHM.out W (HD.out.below hB0) ((HL.out.below hB0).more (by omega))).mono ?_
  rintro _ w1 ⟨rfl, hb1⟩
  have hB1 : Below w.heap.size w w1 := hB0.trans (hb1.mono (by omega))
  have hv1 := (hb1.block w.heap.size (by omega)).trans hv0
  have ht1 := (hb1.block b (by omega)).trans hb0
  have hs1 : w.heap.size < w1.heap.size := by have := hb1.size; omega
  have hD1 := HD.out.below hB1
  have hL1 := (HL.out.below hB1).more hB1.size
  clear hB0 hb1 hv0 hb0 hs0 d0 d1 HHM
  dsimp only
  cases hom : homeB n X gen k F T x with
  | false =>
    have HR := Lib.hid (C0.out hom)
    clear hom
    go_wp2_with fail
    go_ret
    exact ⟨by rw [HR.out]; rfl, Two.of (only_below hB1), by rw [HR.out]; exact hD1, by rw [HR.out]; exact ⟨pa, cap, ht1, hL1⟩⟩
  | true =>
    obtain ⟨hn0, hn1, hg1, hg2, hk20, hx64⟩ := HHP.out hom
    have HOM := Lib.hid hom
    have HS := Lib.hid (fun (u : World) (hu : w1.grownBy u (some g)) => show u.heap[b]? = some (.cells #[.int .i64 gen, .slice pa k cap] 26 (0, 0)) ∧ u.heap[w.heap.size]? = some (.cells (bl V).toArray 22 (0, 0)) from
      ⟨(hu.block b (by omega) (by simpa using fun e => hgb e.symm)).trans ht1, (hu.block w.heap.size hs1 (by simp; omega)).trans hv1⟩)
    have HC := Lib.hid (fun (u : World) (hu : w1.grownBy u (some g)) => show u.cell? ⟨b, 0, none⟩ = some (.int .i64 gen) ∧ u.cell? ⟨b, 1, none⟩ = some (.slice pa k cap) ∧ u.rangeAt w.heap.size 0 (bl V) from
      ⟨by rw [cell_of_row _ _ _ _ _ _ (HS.out u hu).1]; rfl, by rw [cell_of_row _ _ _ _ _ _ (HS.out u hu).1]; rfl, fun j v hj => by rw [cell_of_row _ _ _ _ _ _ (HS.out u hu).2, Nat.zero_add]; simpa using hj⟩)
    have HLY := Lib.hid (fun (u : World) (hu : w1.grownBy u (some g)) => (hL1.grown hu (Nat.le_refl _)).more hu.size)
    have HKP := Lib.hid (fun (u : World) (hu : w1.grownBy u (some g)) => (HK.out.below hB1).grown hu hg0)
    have HTW := Lib.hid (fun (u : World) (hu : w1.grownBy u (some g)) => show Two w u g b from Two.of (Dk.only_trans (only_below hB1) hu))
    have HTT := Lib.hid (fun (u : World) (hu : w1.grownBy u (some g)) => show HasT u b g ⟨gen, k, F, T⟩ from ⟨pa, cap, (HS.out u hu).1, HLY.out u hu⟩)
    have hdr : w1.grownBy w1.drew (some g) := ⟨rfl, rfl, rfl, Nat.le_refl _, fun _ _ _ => rfl⟩
    obtain ⟨s0, s1, s2⟩ := HC.out w1.drew hdr
    obtain ⟨t0, t1, t2⟩ := HC.out w1 ⟨rfl, rfl, rfl, Nat.le_refl _, fun _ _ _ => rfl⟩
    have HDD := Lib.hid hD1
    clear hom C0 hL1 hD1 ht1 hv1
    go_wp2_with fail
    clear t0 t1 t2
    go_region_held3 (fun w' => w'.cell? ⟨b, 0, none⟩ = some (.int .i64 gen) ∧ w'.cell? ⟨b, 1, none⟩ = some (.slice pa k cap) ∧ w'.rangeAt w.heap.size 0 (bl V))
      (first
        | exact ⟨s0, s1, s2⟩
        | exact HC.out w2 (Dk.only_trans hdr (only_below hb2))
        | exact HC.out w3 (Dk.only_trans (Dk.only_trans hdr (only_below hb2)) hg3))
      (first
        | ((go_at_call 46; refine (at_any gen k F T pa cap g x _ (by exact HLY.out w1.drew hdr) hk47).mono ?_; rintro _ w2 ⟨rfl, hb2⟩))
        | ((go_at_call 55; refine (write_d (by exact (HDD.out.below (w' := w1.drew) ⟨rfl, rfl, rfl, Nat.le_refl _, fun _ _ => rfl⟩).below hb2) (by exact HOK.out.less (by omega)) _ _).mono ?_; rintro _ w3 ⟨rfl, hg3, hD3⟩)))
    have hG3 : w1.grownBy w3 (some g) := Dk.only_trans (Dk.only_trans hdr (only_below hb2)) hg3
    have hO1 : Ok 22 (w1X n X ⟨gen, k, F, T⟩ x V) := HOK.out.wr
    have hD3' : HasD w3 g n (w1X n X ⟨gen, k, F, T⟩ x V) := hD3
    have hE1 : dWrE n X (wA ⟨gen, k, F, T⟩ x) = dWrE n X (atT F T k x) := rfl
    rw [hE1] at C1 C2 C3 C4 C5 C6
    generalize dWrE n X (atT F T k x) = E1 at C1 C2 C3 C4 C5 C6 ⊢
    have HG3 := Lib.hid hG3
    clear hE1 s0 s1 s2 hdr hb2 hg3 hD3 hG3
    by_cases e1 : E1 = 2
    · have C2' := Lib.hid (C2.out HOM.out e1)
      have C3' := Lib.hid (C3.out HOM.out e1)
      have C4' := Lib.hid (C4.out HOM.out e1)
      have C5' := Lib.hid (C5.out HOM.out e1)
      have C6' := Lib.hid (C6.out HOM.out e1)
      clear C1 C2 C3 C4 C5 C6
      subst e1
      generalize hX1 : w1X n X ⟨gen, k, F, T⟩ x V = X1 at hO1 hD3' C2' C3' C4' C5' C6'
      have HX1 := Lib.hid hX1
      have hdr3 : w1.grownBy w3.drew (some g) := Dk.only_trans HG3.out ⟨rfl, rfl, rfl, Nat.le_refl _, fun _ _ _ => rfl⟩
      obtain ⟨s0, s1, s2⟩ := HC.out w3.drew hdr3
      have HO1 := Lib.hid hO1
      have HD3 : Hid (HasD w3.drew g n X1) := Lib.hid (hD3'.below ⟨rfl, rfl, rfl, Nat.le_refl _, fun _ _ => rfl⟩)
      clear hX1 hO1 hD3'
      go_wp2_with fail
      go_region_held3 (fun w' => w'.cell? ⟨b, 0, none⟩ = some (.int .i64 gen) ∧ w'.cell? ⟨b, 1, none⟩ = some (.slice pa k cap) ∧ w'.rangeAt w.heap.size 0 (bl V))
        (first
          | exact ⟨s0, s1, s2⟩
          | exact HC.out w4 (Dk.only_trans hdr3 hg4))
        (first
          | ((go_at_call 56; refine (spare_d (mr := 2) HD3.out (by exact HO1.out) hn0 hn1 gen k F T pa cap g V (by exact HLY.out w3.drew hdr3) hk20 HFF.out).mono ?_; rintro _ w4 ⟨rfl, hg4, hD4⟩)))
      have hG4 : w1.grownBy w4 (some g) := Dk.only_trans hdr3 hg4
      have hX2 : w2X n X ⟨gen, k, F, T⟩ x V = spX n k T V X1 := by unfold w2X; rw [HX1.out]
      have hX3 : w3X n X ⟨gen, k, F, T⟩ x V = dFl n (spX n k T V X1) := by unfold w3X; rw [hX2]
      have hN : wN n X ⟨gen, k, F, T⟩ x V = ⟨gen + 1, rpK F k x, rpF F k x, rpT F T k x (spTo n k T V X1)⟩ := by unfold wN Tab.next; rw [HX1.out]
      have h4E : w4E n X ⟨gen, k, F, T⟩ x V = lyE n (dFl n (spX n k T V X1)) (gen + 1) (rpK F k x) (rpF F k x) (rpT F T k x (spTo n k T V X1)) := by unfold w4E; rw [hX3, hN]
      have h4X : w4X n X ⟨gen, k, F, T⟩ x V = lyX n (dFl n (spX n k T V X1)) (gen + 1) (rpK F k x) (rpF F k x) (rpT F T k x (spTo n k T V X1)) := by unfold w4X; rw [hX3, hN]
      have hO2 : Ok 2 (spX n k T V X1) := spX_ok (m := 2) HO1.out
      have hTo : i64 (spTo n k T V X1) := spTo_bd hn0 hn1
      rw [hX2] at C2' C3' C4' C5' C6'
      rw [hX3] at C3'
      rw [h4E, h4X] at C4' C5' C6'
      rw [hN] at C6'
      have HG4 := Lib.hid hG4
      have HO2 := Lib.hid hO2
      clear hX2 hX3 hN h4E h4X hG4 hg4 hdr3 HD3 HO1 HX1 s0 s1 s2 hO2
      generalize spX n k T V X1 = X2 at hD4 HO2 C2' C3' C4' C5' C6'
      generalize spTo n k T V X1 = to at hTo C4' C5' C6' ⊢
      generalize spE n k T V X1 = E2 at C2' C3' C4' C5' C6' ⊢
      by_cases e2 : E2 = 0
      · have C3 := Lib.hid (C3'.out e2)
        have C4 := Lib.hid (C4'.out e2)
        have C5 := Lib.hid (C5'.out e2)
        have C6 := Lib.hid (C6'.out e2)
        clear C2' C3' C4' C5' C6'
        subst e2
        go_wp2_with fail
        refine (flush_d hD4 (HO2.out.less (by omega))).mono ?_
        rintro _ w5 ⟨rfl, hg5, hD5⟩
        have HG5 := Lib.hid (Dk.only_trans HG4.out hg5)
        have HO3 : Hid (Ok 2 (dFl n X2)) := Lib.hid HO2.out.fl
        clear hD4 hg5 HG4 HO2
        generalize dFl n X2 = X3 at hD5 HO3 C3 C4 C5 C6
        generalize dFlE n X2 = E3 at C3 C4 C5 C6 ⊢
        dsimp only
        by_cases e3 : E3 = 0
        · have C4' := Lib.hid (C4.out e3)
          have C5' := Lib.hid (C5.out e3)
          have C6' := Lib.hid (C6.out e3)
          clear C3 C4 C5 C6
          subst e3
          obtain ⟨s0, s1, s2⟩ := HC.out w5 HG5.out
          go_wp2_with fail
          refine (replaced_any gen k F T pa cap g x to w5 (HLY.out w5 HG5.out) (by omega) hg1 hg2).mono ?_
          rintro _ w6 ⟨⟨v, rfl, ao, cp, rfl, hown⟩, hb6⟩
          have hTO := next_ok (M := ⟨gen, k, F, T⟩) ⟨hk47, HFF.out⟩ hk20 hx64 hTo
          unfold Tab.next at hTO
          obtain ⟨hk'47, hF'⟩ := hTO
          dsimp only at hk'47 hF'
          have HF' := Lib.hid hF'
          clear hF' s0 s1 s2
          generalize rpK F k x = k' at hown hk'47 HF' C4' C5' C6' ⊢
          generalize rpF F k x = F' at hown HF' C4' C5' C6' ⊢
          generalize rpT F T k x to = T' at hown HF' C4' C5' C6' ⊢
          have HG6 := Lib.hid (Dk.only_trans HG5.out (only_below hb6))
          have HD6 := Lib.hid (hD5.below hb6)
          have hs56 := hb6.size
          have hs15 := HG5.out.size
          have HOW := Lib.hid hown
          clear hown hb6 hD5
          dsimp only
          go_wp2_with (refine wpList_store_row rfl 26 (.tmp 13) (.tmp 60) rfl w6.heap.size #[.int .i64 (gen + 1), .slice ao k' cp] rfl rfl 26 _ (heap_alloc_new w6 _) (by kernel_rfl) rfl (tb_one _ _ _ _) ?_; rw [World.setRow_alloc_new]; simp only [Act.put]; generalize hW7 : w6.alloc (.cells #[.int .i64 (gen + 1), .slice ao k' cp] 26) = w7; obtain ⟨k0, k1, HB7, HX7⟩ := new_tab hW7; clear hW7)
          have hO7 := owns_below HOW.out HB7.out
          have hG7 : w1.grownBy w7 (some g) := Dk.only_trans HG6.out (only_below HB7.out)
          have hg5 : g < w5.heap.size := by omega
          have hb5 : b < w5.heap.size := by omega
          have hL7 := lay_own (g := g) (fun i _ => prV_length F' T' i) hO7 (.inl hg5)
          have lt67 : w6.heap.size < w7.heap.size := (Array.getElem?_eq_some_iff.1 HX7.out).1
          refine (lay_d (HD6.out.below HB7.out) HO3.out (HKP.out w7 hG7) (gen + 1) k' F' T' ao cp g hL7 hk'47 HF'.out).mono ?_
          rintro _ w8 ⟨rfl, hg8, hD8⟩
          have HO4 : Hid (Ok 0 (lyX n X3 (gen + 1) k' F' T')) := Lib.hid (lyX_ok HO3.out)
          have HG8 := Lib.hid (Dk.only_trans hG7 hg8)
          have HX8 := Lib.hid ((hg8.block w6.heap.size lt67 (by simp; omega)).trans HX7.out)
          have own_ne : ∀ (a : Option Addr) (c : Nat) (u : World) (B : Nat) (xs : List Value), u.ownsRow B 100 2 (.slice a k' c) k' xs → ∀ q, q < B → (Value.slice a k' c).ownBlock = none ∨ (Value.slice a k' c).ownBlock ≠ some q := fun a c u B xs h q hq => by
            cases e : (Value.slice a k' c).ownBlock with
            | none => exact .inl rfl
            | some r => exact .inr (by have := (h.lt r e).1; simp; omega)
          have HO8 := Lib.hid (hO7.kept hg8 (own_ne _ _ _ _ _ hO7 g hg5))
          have lt8 : w7.heap.size ≤ w8.heap.size := hg8.size
          clear hO7 hG7 hL7 hg8 HB7 HX7 HOW HG6 HD6 k0 k1
          generalize lyX n X3 (gen + 1) k' F' T' = X4 at hD8 HO4 C4' C5' C6'
          generalize lyE n X3 (gen + 1) k' F' T' = E4 at C4' C5' C6' ⊢
          dsimp only
          by_cases e4 : E4 = 0
          · have C5 := Lib.hid (C5'.out e4)
            have C6 := Lib.hid (C6'.out e4)
            clear C4' C5' C6'
            subst e4
            go_wp2_with fail
            refine (flush_d hD8 HO4.out).mono ?_
            rintro _ w9 ⟨rfl, hg9, hD9⟩
            have HG9 := Lib.hid (Dk.only_trans HG8.out hg9)
            have HX9 := Lib.hid ((hg9.block w6.heap.size (by omega) (by simp; omega)).trans HX8.out)
            have HO9 := Lib.hid (HO8.out.kept hg9 (own_ne _ _ _ _ _ HO8.out g hg5))
            have hbb := (HS.out w9 HG9.out).1
            have k0 : w9.cell? ⟨w6.heap.size, 0, none⟩ = some (.int .i64 (gen + 1)) := by rw [cell_of_row _ _ _ _ _ _ HX9.out]; rfl
            have k1 : w9.cell? ⟨w6.heap.size, 1, none⟩ = some (.slice ao k' cp) := by rw [cell_of_row _ _ _ _ _ _ HX9.out]; rfl
            clear hD8 hg9 HG8 HX8 HO8
            generalize dFlE n X4 = E5 at C5 C6 ⊢
            generalize dFl n X4 = X5 at hD9 C5 C6
            dsimp only
            by_cases e5 : E5 = 0
            · have HR := Lib.hid (C6.out e5)
              clear C5 C6
              subst e5
              go_wp2_with (refine wpList_store_row rfl 26 (.tmp 74) (.tmp 73) rfl b #[.int .i64 (gen + 1), .slice ao k' cp] rfl rfl 26 _ hbb (by kernel_rfl) rfl (tb_one _ _ _ _) ?_; simp only [Act.put])
              have hbn := setRow_heap w9 b _ #[.int .i64 (gen + 1), .slice ao k' cp] 26 (0, 0) hbb
              have hgB : w9.grownBy (w9.setRow b #[.int .i64 (gen + 1), .slice ao k' cp]) (some b) := ⟨rfl, rfl, rfl, by simp, fun i _ hr => setRow_other _ _ _ _ (by simpa using hr)⟩
              have hOn := HO9.out.kept hgB (own_ne _ _ _ _ _ HO9.out b hb5)
              have hTw := HTW.out w9 HG9.out
              go_ret
              exact ⟨by rw [HR.out]; rfl, ⟨hTw.os, hTw.tape, hTw.output, by simpa using hTw.size, fun i hi h1 h2 => (setRow_other w9 b i _ h2).trans (hTw.block i hi h1 h2)⟩, by rw [HR.out]; exact hD9.row hbb hgb _, by rw [HR.out]; exact ⟨ao, cp, hbn, lay_own (g := g) (fun i _ => prV_length F' T' i) hOn (.inl hg5)⟩⟩
            · have HR := Lib.hid (C5.out e5)
              have ne : (E5 == 0) = false := by simpa using e5
              clear C5 C6 e5
              go_wp2_with fail
              go_ret
              exact ⟨by rw [HR.out]; rfl, HTW.out w9 HG9.out, by rw [HR.out]; exact hD9, by rw [HR.out]; exact HTT.out w9 HG9.out⟩
          · have HR := Lib.hid (C4'.out e4)
            have ne : (E4 == 0) = false := by simpa using e4
            clear C4' C5' C6' e4
            go_wp2_with fail
            go_ret
            exact ⟨by rw [HR.out]; rfl, HTW.out w8 HG8.out, by rw [HR.out]; exact hD8, by rw [HR.out]; exact HTT.out w8 HG8.out⟩
        · have HR := Lib.hid (C3.out e3)
          have ne : (E3 == 0) = false := by simpa using e3
          clear C3 C4 C5 C6 e3
          go_wp2_with fail
          go_ret
          exact ⟨by rw [HR.out]; rfl, HTW.out w5 HG5.out, by rw [HR.out]; exact hD5, by rw [HR.out]; exact HTT.out w5 HG5.out⟩
      · have HR := Lib.hid (C2'.out e2)
        have ne : (E2 == 0) = false := by simpa using e2
        clear C2' C3' C4' C5' C6' e2
        go_wp2_with fail
        go_ret
        exact ⟨by rw [HR.out]; rfl, HTW.out w4 HG4.out, by rw [HR.out]; exact hD4, by rw [HR.out]; exact HTT.out w4 HG4.out⟩
    · have HR := Lib.hid (C1.out HOM.out e1)
      have ne : (E1 == 2) = false := by simpa using e1
      clear C1 C2 C3 C4 C5 C6 e1
      go_wp2_with fail
      go_ret
      exact ⟨by rw [HR.out]; rfl, HTW.out w3 HG3.out, by rw [HR.out]; exact hD3', by rw [HR.out]; exact HTT.out w3 HG3.out⟩
end Rm
end Go.Proofs.YtllejfnmbpjhaaaDoor
