/- ptr: the reference's Node (made by tools/gen_pnode.py). -/
import Derived.Test.YtpbhdndkmjkphaaDoorPtNode
namespace Go.Proofs.YtpbhdndkmjkphaaDoor
set_option maxRecDepth 20000
namespace Pt
open Go.RowKit Dk Eqb Byt

def RnInv (x0 x1 x2 x3 x7 x8 x9 x10 x11 x12 x13 x14 x15 x16 x17 x18 x19 x20 x21 x22 x23 x30 x31 : Value) (bb pb j : Nat) (p : Pn) (E : Int) (c : Bool) (F F' : Nat → Int) (W0 : World) (L : Nat → Bool) (a' : Act) (w' : World) : Prop :=
  ∃ u0 u1 u2 u3 u4 u5, a' = { tmps := #[x0, x1, x2, x3, .pointer (some ⟨bb, 0, none⟩), .int .i64 (j : Int), .pointer (some ⟨pb, 0, none⟩), x7, x8, x9, x10, x11, x12, x13, x14, x15, x16, x17, x18, x19, x20, x21, x22, x23, u0, u1, u2, u3, u4, u5, x30, x31], defers := [] } ∧ (L 0 = true → u0 = .slice (some ⟨bb, 0, none⟩) 128 128) ∧ (L 1 = true → u1 = .int .i64 (j : Int)) ∧ (L 2 = true → u2 = .int .i64 (40 * (j : Int))) ∧ (L 3 = true → u3 = .agg (pV p).toArray) ∧ (L 4 = true → u4 = .int .i64 E) ∧ (L 5 = true → u5 = .bool c) ∧ NdW bb pb p F F' W0 (L 4) w'
theorem RnInv_kl {L : Nat → Bool} {i k : Nat} {Q : Prop} (h : L k = true → Q) (h1 : (k == i) = false) : (k == i || L k) = true → Q := by
  rw [h1, Bool.false_or]
  exact h

attribute [local go_sem] zvP zvB
attribute [local go_sem] zcB
set_option maxRecDepth 100000 in
set_option maxHeartbeats 2000000 in
theorem refnode_any (n : Nat) (P : Nat → Pn) (pa : Option Addr) (cap g : Nat) (w : World) (hl : Lay w w.heap.size g pa n cap 34 (fun i => pV (P i))) (hn : n ≤ 140737488355328) :
    Calls Tryd.prog 26 #[.slice pa n cap] w fun e w' => e = .returned (.tuple #[.agg (bl (ndV n P)).toArray, .int .i64 (ndE n P)]) ∧ Below w.heap.size w w' := by
  obtain ⟨W, hW, hB0, hx0, hr0, hs0⟩ : ∃ W, W = (w.alloc (.cells (bl fun _ => 0).toArray 22)).alloc (.cells (bl fun _ => 0).toArray 22) ∧ Below w.heap.size w W ∧ W.heap[w.heap.size]? = some (.cells (bl fun _ => 0).toArray 22 (0, 0)) ∧ Row W (w.heap.size + 1) 0 128 (fun _ => 0) ∧ W.heap.size = w.heap.size + 2 := by
    refine ⟨_, rfl, ((Below.refl _ _).alloc (Nat.le_refl _) _).alloc (by simp) _, (Below.heap_alloc _ _ _ (by simp)).trans (heap_alloc_new w _), row_of (t := 22) ?_, by simp⟩
    have := heap_alloc_new (w.alloc (.cells (bl fun _ => 0).toArray 22)) (.cells (bl fun _ => 0).toArray 22)
    rwa [World.size_alloc] at this
  have HNO := Lib.hid (fun (h : ¬ ndOk n P) => nd_no h)
  have HYES := Lib.hid (fun (h : ndOk n P) => nd_yes h)
  have HL := Lib.hid hl
  clear hl
  by_cases hn3 : 3 < n
  · have HV := Lib.hid (HNO.out (fun h => by have := h.1; omega))
    clear HNO HYES HL
    go_enter Tryd.func26, Tryd.ntmps26
    subst hW
    go_wp2_with (first
      | (refine @wpList_loadG _ _ _ _ _ _ _ (by kernel_rfl) 22 (.tmp 4) rfl (w.heap.size + 1) 0 rfl (bl fun _ => 0) _ (row_range hr0) undB rfl (size_bl _) ?_; simp only [Act.put, List.setIfInBounds_toArray, List.set_cons_succ, List.set_cons_zero])
      | (refine @wpList_store_row _ _ _ _ _ _ _ rfl 22 (.tmp 2) (.tmp 10) rfl w.heap.size (bl fun _ => 0).toArray rfl rfl 22 _ hx0 (sizeB _) rfl (allB _) ?_; simp only [Act.put]))
    have hr9 := setRow_heap _ w.heap.size _ (bl fun _ => 0).toArray 22 (0, 0) hx0
    refine bodyPost_ret (results_bl rfl rfl rfl hr9) rfl ?_
    exact ⟨by rw [HV.out.1, HV.out.2], hB0.trans ⟨rfl, rfl, rfl, by simp, fun k hk => setRow_other _ _ k _ (by omega)⟩⟩
  · have hn3' : n ≤ 3 := by omega
    go_enter Tryd.func26, Tryd.ntmps26
    go_wp2_with fail
    rw [← hW]
    clear hW
    have HI : Hid (Below w.heap.size w W ∧ W.heap[w.heap.size]? = some (.cells (bl fun _ => 0).toArray 22 (0, 0)) ∧ Row W (w.heap.size + 1) 0 128 (NB n P 0) ∧ ∀ i, i < 0 → rightB (nP n P i) = true) := Lib.hid ⟨hB0, hx0, hr0, fun i hi => by omega⟩
    clear hB0 hx0 hr0
    go_loopw [5] (fun i wr => ∃ j : Nat, j ≤ 3 ∧ i = .int .i64 j ∧ Hid (Below w.heap.size w wr ∧ wr.heap[w.heap.size]? = some (.cells (bl fun _ => 0).toArray 22 (0, 0)) ∧ Row wr (w.heap.size + 1) 0 128 (NB n P j) ∧ ∀ i, i < j → rightB (nP n P i) = true)) (fun i _ => 3 - (intOf i).toNat)
    case atStart => exact ⟨0, by omega, rfl, HI⟩
    case round =>
      clear HI
      obtain ⟨j, hj, rfl, hR⟩ := hrel
      obtain ⟨hB, hx, hr, hok⟩ := hR.out
      by_cases hj2 : j < 3
      · have hj0 : (0 : Int) ≤ (j : Int) := by omega
        have HOK := Lib.hid hok
        have HR := Lib.hid hr
        have hrl := hr.lt
        have HNB : Hid (NB n P (j + 1) = ppF 128 (40 * (j : Int)) (nP n P j) (NB n P j)) := Lib.hid rfl
        clear hok hR hr
        by_cases hjn : j < n
        · skip
          have hpp : nP n P j = P j := by unfold nP; rw [if_pos hjn]
          obtain ⟨b, off, rfl, hbl, _, hrow⟩ := (HL.out.below hB).rows.resolve_left (by omega)
          have hcell := hrow j hjn
          have hjn' : (j : Int) < (n : Int) := by omega
          clear hrow
          rw [hpp] at HNB
          generalize P j = p at *
          go_wp2_with fail
          refine (refhole_any wr).mono ?_
          rintro _ w1 ⟨rfl, hb1⟩
          have hs1 := hb1.size
          have hcell1 : w1.rangeAt b (off + j * 34) (pV p) := fun i v hv => (hb1.cell (p := ⟨b, off + j * 34 + i, none⟩) (show b < wr.heap.size by have := hB.size; omega)).trans (hcell i v hv)
          have hcell2 : (w1.alloc (.cells (pV hole).toArray 26)).rangeAt b (off + j * 34) (pV p) := fun i v hv => (World.cell?_alloc_lt _ _ _ (show b < w1.heap.size by have := hB.size; omega)).trans (hcell1 i v hv)
          clear hcell hcell1
          dsimp only
          go_wp2_with (first
            | (refine @wpList_store_row _ _ _ _ _ _ _ rfl 26 (.tmp 6) (.tmp 15) rfl w1.heap.size (pV hole).toArray rfl rfl 26 _ (heap_alloc_new w1 _) (sizeP' _) rfl (pV_all _) ?_; rw [World.setRow_alloc_new]; simp only [Act.put])
            | (refine @wpList_loadG _ _ _ _ _ _ _ (by kernel_rfl) 26 (.tmp 22) (by rfl) b (off + j * 34) (by rfl) (pV p) _ hcell2 undP rfl (sizeP _) ?_; simp only [Act.put, List.setIfInBounds_toArray, List.set_cons_succ, List.set_cons_zero])
            | (refine @wpList_store_row _ _ _ _ _ _ _ rfl 26 (.tmp 6) (.tmp 23) rfl w1.heap.size (pV p).toArray rfl rfl 26 _ (heap_alloc_new w1 _) (sizeP' _) (by rw [pV_asize, pV_asize]) (pV_all _) ?_; rw [World.setRow_alloc_new]; simp only [Act.put]))
          have hb2 : Below w1.heap.size w1 (w1.alloc (.cells (pV p).toArray 26)) := (Below.refl _ _).alloc (Nat.le_refl _) _
          have hp2 : (w1.alloc (.cells (pV p).toArray 26)).heap[w1.heap.size]? = some (.cells (pV p).toArray 26 (0, 0)) := heap_alloc_new _ _
          generalize w1.alloc (.cells (pV p).toArray 26) = W2 at hb2 hp2 ⊢
          have hr2 := (HR.out.block (hb1.block (w.heap.size + 1) hrl)).block (hb2.block (w.heap.size + 1) (by omega))
          have hx2 := (hb2.block w.heap.size (by omega)).trans ((hb1.block w.heap.size (by omega)).trans hx)
          have hB2 := (hB.trans (hb1.mono hB.size)).trans (hb2.mono (by have := hB.size; omega))
          have hs2 := hb2.size
          clear hx hB hb1 hb2 HR hcell2
          cases hrj : rightB p with
          | false =>
            have hnd : ¬ ndOk n P := fun h => by have := h.2 j hj2; rw [hpp, hrj] at this; cases this
            have HV := Lib.hid (HNO.out hnd)
            have hq := fun w' h => refput_any w' 0 (some ⟨w.heap.size + 1, 0, none⟩) 128 128 (NB n P j) (40 * (j : Int)) p h (by omega) (by omega) (by omega)
            unfold PpPost at hq
            rw [(pp_bad (NB n P j) hrj).1, (pp_bad (j := j) (NB n P j) hrj).2] at hq
            have HQ := Lib.hid hq
            clear hq hnd hrj hpp HNO HYES HNB HOK
            generalize NB n P j = F at *
            have HS0 : Hid (NdW (w.heap.size + 1) w1.heap.size p F F W2 false { W2 with drawn := W2.drawn + 1 }) := Lib.hid ⟨fun _ => row_own (hr2.block rfl), fun e => (by cases e), only_below ⟨rfl, rfl, rfl, Nat.le_refl _, fun _ _ => rfl⟩, hp2⟩
            clear hr2 hp2
            refine QuietTail2.regionInv (n := 6) (Inv := RnInv _ _ _ _ _ _ _ _ _ _ _ _ _ _ _ _ _ _ _ _ _ _ _ (w.heap.size + 1) w1.heap.size j p 1 true F F W2) (by kernel_rfl) (by decide) (by kernel_rfl) ⟨_, _, _, _, _, _, rfl, by simp, by simp, by simp, by simp, by simp, by simp, HS0.out⟩ ?step ?fin
            case step =>
              rintro i o hi ho L a' w' ⟨u0, u1, u2, u3, u4, u5, rfl, i0, i1, i2, i3, i4, i5, iW⟩ hL hpre
              match i, hi with
              | 0, _ =>
                simp at ho
                subst ho
                go_simp
                exact ⟨_, u1, u2, u3, u4, u5, rfl, fun _ => rfl, RnInv_kl i1 rfl, RnInv_kl i2 rfl, RnInv_kl i3 rfl, RnInv_kl i4 rfl, RnInv_kl i5 rfl, iW⟩
              | 1, _ =>
                simp at ho
                subst ho
                go_simp
                exact ⟨u0, _, u2, u3, u4, u5, rfl, RnInv_kl i0 rfl, fun _ => rfl, RnInv_kl i2 rfl, RnInv_kl i3 rfl, RnInv_kl i4 rfl, RnInv_kl i5 rfl, iW⟩
              | 2, _ =>
                simp at ho
                subst ho
                obtain rfl := i1 (hpre 1 (by kernel_rfl))
                have k0 : IntKind.i64.wrap (40 * (j : Int)) = 40 * j := IntWalk.i64_in _ (by omega)
                go_simp
                exact ⟨u0, _, _, u3, u4, u5, rfl, RnInv_kl i0 rfl, RnInv_kl i1 rfl, fun _ => rfl, RnInv_kl i3 rfl, RnInv_kl i4 rfl, RnInv_kl i5 rfl, iW⟩
              | 3, _ =>
                simp at ho
                subst ho
                refine wp_load_mid 26 (.tmp 6) rfl w1.heap.size 0 rfl (pV p) _ (row_pt iW.ptr) undP rfl (sizeP p) ?_
                simp only [Act.put, List.setIfInBounds_toArray, List.set_cons_succ, List.set_cons_zero]
                exact ⟨u0, u1, u2, _, u4, u5, rfl, RnInv_kl i0 rfl, RnInv_kl i1 rfl, RnInv_kl i2 rfl, fun _ => rfl, RnInv_kl i4 rfl, RnInv_kl i5 rfl, iW⟩
              | 4, _ =>
                simp at ho
                subst ho
                obtain rfl := i0 (hpre 0 (by kernel_rfl))
                obtain rfl := i2 (hpre 2 (by kernel_rfl))
                obtain rfl := i3 (hpre 3 (by kernel_rfl))
                rw [hL] at iW
                go_simp
                refine (HQ.out w' (iW.o0 rfl)).mono ?_
                rintro _ w'' ⟨rfl, hG, hO⟩
                exact ⟨_, u1, _, _, _, u5, rfl, RnInv_kl i0 rfl, RnInv_kl i1 rfl, RnInv_kl i2 rfl, RnInv_kl i3 rfl, fun _ => rfl, RnInv_kl i5 rfl, (NdW.step (by omega) iW hG hO)⟩
              | 5, _ =>
                simp at ho
                subst ho
                obtain rfl := i4 (hpre 4 (by kernel_rfl))
                go_simp
                exact ⟨u0, u1, u2, u3, _, _, rfl, RnInv_kl i0 rfl, RnInv_kl i1 rfl, RnInv_kl i2 rfl, RnInv_kl i3 rfl, RnInv_kl i4 rfl, fun _ => rfl, iW⟩
              | i + 6, h => omega
            case fin =>
              rintro L a' w5 hall ⟨u0, u1, u2, u3, u4, u5, rfl, i0, i1, i2, i3, i4, i5, iW⟩
              obtain rfl := i0 (hall 0 (by omega))
              obtain rfl := i1 (hall 1 (by omega))
              obtain rfl := i2 (hall 2 (by omega))
              obtain rfl := i3 (hall 3 (by omega))
              obtain rfl := i4 (hall 4 (by omega))
              obtain rfl := i5 (hall 5 (by omega))
              have hW5 := iW
              rw [hall 4 (by omega)] at hW5
              clear iW
              clear i0 i1 i2 i3 i4 i5 hall
              simp only [List.drop_succ_cons, List.drop_zero]
              refine wpList_nil ?_
              have hG := hW5.only
              have hx5 := (hG.block w.heap.size (by omega) (by simp)).trans hx2
              have hB5 : Below w.heap.size w w5 := (row_own (own_row (hW5.o1 rfl))).mono (Nat.zero_le _) |> fun _ => hB2.grown hG (by have := hB2.size; omega) (fun k hk => by simp at hk; omega)
              have hO5 := own_row (hW5.o1 rfl)
              clear hW5 HS0 HQ hx2 hB2 hG
              go_wp2_with (first
                | (refine @wpList_buildG _ _ _ _ _ _ _ (by kernel_rfl) 22 #[] rfl (bl fun _ => 0).toArray (by kernel_rfl) ?_; simp only [Act.put, List.setIfInBounds_toArray, List.set_cons_succ, List.set_cons_zero])
                | (refine @wpList_store_row _ _ _ _ _ _ _ rfl 22 (.tmp 2) (.tmp 30) rfl w.heap.size (bl fun _ => 0).toArray rfl rfl 22 _ hx5 (sizeB _) rfl (allB _) ?_; simp only [Act.put]))
              have hr9 := setRow_heap _ w.heap.size _ (bl fun _ => 0).toArray 22 (0, 0) hx5
              refine bodyPost_ret (results_bl rfl rfl rfl hr9) rfl ?_
              exact ⟨by rw [HV.out.1, HV.out.2], hB5.trans ⟨rfl, rfl, rfl, by simp, fun k hk => setRow_other _ _ k _ (by omega)⟩⟩
          | true =>
            have HOK2 : Hid (∀ i, i < j + 1 → rightB (nP n P i) = true) := Lib.hid (fun i hi => by
              by_cases e : i = j
              · subst e; rw [hpp]; exact hrj
              · exact HOK.out i (by omega))
            have hq := fun w' h => refput_any w' 0 (some ⟨w.heap.size + 1, 0, none⟩) 128 128 (NB n P j) (40 * (j : Int)) p h (by omega) (by omega) (by omega)
            unfold PpPost at hq
            rw [← HNB.out, pp_at hj2 hrj] at hq
            have HQ := Lib.hid hq
            clear hq hrj hpp HNO HYES HOK
            generalize hF : NB n P j = F at *
            generalize hF' : NB n P (j + 1) = F' at *
            have HF' := Lib.hid hF'
            clear hF hF' HNB
            have HS0 : Hid (NdW (w.heap.size + 1) w1.heap.size p F F' W2 false { W2 with drawn := W2.drawn + 1 }) := Lib.hid ⟨fun _ => row_own (hr2.block rfl), fun e => (by cases e), only_below ⟨rfl, rfl, rfl, Nat.le_refl _, fun _ _ => rfl⟩, hp2⟩
            clear hr2 hp2
            refine QuietTail2.regionInv (n := 6) (Inv := RnInv _ _ _ _ _ _ _ _ _ _ _ _ _ _ _ _ _ _ _ _ _ _ _ (w.heap.size + 1) w1.heap.size j p 0 false F F' W2) (by kernel_rfl) (by decide) (by kernel_rfl) ⟨_, _, _, _, _, _, rfl, by simp, by simp, by simp, by simp, by simp, by simp, HS0.out⟩ ?step ?fin
            case step =>
              rintro i o hi ho L a' w' ⟨u0, u1, u2, u3, u4, u5, rfl, i0, i1, i2, i3, i4, i5, iW⟩ hL hpre
              match i, hi with
              | 0, _ =>
                simp at ho
                subst ho
                go_simp
                exact ⟨_, u1, u2, u3, u4, u5, rfl, fun _ => rfl, RnInv_kl i1 rfl, RnInv_kl i2 rfl, RnInv_kl i3 rfl, RnInv_kl i4 rfl, RnInv_kl i5 rfl, iW⟩
              | 1, _ =>
                simp at ho
                subst ho
                go_simp
                exact ⟨u0, _, u2, u3, u4, u5, rfl, RnInv_kl i0 rfl, fun _ => rfl, RnInv_kl i2 rfl, RnInv_kl i3 rfl, RnInv_kl i4 rfl, RnInv_kl i5 rfl, iW⟩
              | 2, _ =>
                simp at ho
                subst ho
                obtain rfl := i1 (hpre 1 (by kernel_rfl))
                have k0 : IntKind.i64.wrap (40 * (j : Int)) = 40 * j := IntWalk.i64_in _ (by omega)
                go_simp
                exact ⟨u0, _, _, u3, u4, u5, rfl, RnInv_kl i0 rfl, RnInv_kl i1 rfl, fun _ => rfl, RnInv_kl i3 rfl, RnInv_kl i4 rfl, RnInv_kl i5 rfl, iW⟩
              | 3, _ =>
                simp at ho
                subst ho
                refine wp_load_mid 26 (.tmp 6) rfl w1.heap.size 0 rfl (pV p) _ (row_pt iW.ptr) undP rfl (sizeP p) ?_
                simp only [Act.put, List.setIfInBounds_toArray, List.set_cons_succ, List.set_cons_zero]
                exact ⟨u0, u1, u2, _, u4, u5, rfl, RnInv_kl i0 rfl, RnInv_kl i1 rfl, RnInv_kl i2 rfl, fun _ => rfl, RnInv_kl i4 rfl, RnInv_kl i5 rfl, iW⟩
              | 4, _ =>
                simp at ho
                subst ho
                obtain rfl := i0 (hpre 0 (by kernel_rfl))
                obtain rfl := i2 (hpre 2 (by kernel_rfl))
                obtain rfl := i3 (hpre 3 (by kernel_rfl))
                rw [hL] at iW
                go_simp
                refine (HQ.out w' (iW.o0 rfl)).mono ?_
                rintro _ w'' ⟨rfl, hG, hO⟩
                exact ⟨_, u1, _, _, _, u5, rfl, RnInv_kl i0 rfl, RnInv_kl i1 rfl, RnInv_kl i2 rfl, RnInv_kl i3 rfl, fun _ => rfl, RnInv_kl i5 rfl, (NdW.step (by omega) iW hG hO)⟩
              | 5, _ =>
                simp at ho
                subst ho
                obtain rfl := i4 (hpre 4 (by kernel_rfl))
                go_simp
                exact ⟨u0, u1, u2, u3, _, _, rfl, RnInv_kl i0 rfl, RnInv_kl i1 rfl, RnInv_kl i2 rfl, RnInv_kl i3 rfl, RnInv_kl i4 rfl, fun _ => rfl, iW⟩
              | i + 6, h => omega
            case fin =>
              rintro L a' w5 hall ⟨u0, u1, u2, u3, u4, u5, rfl, i0, i1, i2, i3, i4, i5, iW⟩
              obtain rfl := i0 (hall 0 (by omega))
              obtain rfl := i1 (hall 1 (by omega))
              obtain rfl := i2 (hall 2 (by omega))
              obtain rfl := i3 (hall 3 (by omega))
              obtain rfl := i4 (hall 4 (by omega))
              obtain rfl := i5 (hall 5 (by omega))
              have hW5 := iW
              rw [hall 4 (by omega)] at hW5
              clear iW
              clear i0 i1 i2 i3 i4 i5 hall
              simp only [List.drop_succ_cons, List.drop_zero]
              refine wpList_nil ?_
              have hG := hW5.only
              have hx5 := (hG.block w.heap.size (by omega) (by simp)).trans hx2
              have hB5 : Below w.heap.size w w5 := (row_own (own_row (hW5.o1 rfl))).mono (Nat.zero_le _) |> fun _ => hB2.grown hG (by have := hB2.size; omega) (fun k hk => by simp at hk; omega)
              have hO5 := own_row (hW5.o1 rfl)
              clear hW5 HS0 HQ hx2 hB2 hG
              have HN : Hid (Below w.heap.size w w5 ∧ w5.heap[w.heap.size]? = some (.cells (bl fun _ => 0).toArray 22 (0, 0)) ∧ Row w5 (w.heap.size + 1) 0 128 (NB n P (j + 1)) ∧ ∀ i, i < j + 1 → rightB (nP n P i) = true) := Lib.hid ⟨hB5, hx5, by rw [HF'.out]; exact hO5, HOK2.out⟩
              clear hB5 hx5 hO5 HF' HOK2
              go_wp2_with fail
              go_roundw
              case rel => exact ⟨j + 1, by omega, by go_num, HN⟩
              case measure => simp [intOf]; omega
        · skip
          have hpp : nP n P j = hole := by unfold nP; rw [if_neg hjn]
          have hjn' : ¬ (j : Int) < (n : Int) := by omega
          rw [hpp] at HNB
          have HPP := Lib.hid hpp
          go_wp2_with fail
          refine (refhole_any wr).mono ?_
          rintro _ w1 ⟨rfl, hb1⟩
          have hs1 := hb1.size
          dsimp only
          go_wp2_with (first
            | (refine @wpList_store_row _ _ _ _ _ _ _ rfl 26 (.tmp 6) (.tmp 15) rfl w1.heap.size (pV hole).toArray rfl rfl 26 _ (heap_alloc_new w1 _) (sizeP' _) rfl (pV_all _) ?_; rw [World.setRow_alloc_new]; simp only [Act.put]))
          have hb2 : Below w1.heap.size w1 (w1.alloc (.cells (pV hole).toArray 26)) := (Below.refl _ _).alloc (Nat.le_refl _) _
          have hp2 : (w1.alloc (.cells (pV hole).toArray 26)).heap[w1.heap.size]? = some (.cells (pV hole).toArray 26 (0, 0)) := heap_alloc_new _ _
          generalize w1.alloc (.cells (pV hole).toArray 26) = W2 at hb2 hp2 ⊢
          have hr2 := (HR.out.block (hb1.block (w.heap.size + 1) hrl)).block (hb2.block (w.heap.size + 1) (by omega))
          have hx2 := (hb2.block w.heap.size (by omega)).trans ((hb1.block w.heap.size (by omega)).trans hx)
          have hB2 := (hB.trans (hb1.mono hB.size)).trans (hb2.mono (by have := hB.size; omega))
          have hs2 := hb2.size
          clear hx hB hb1 hb2 HR
          cases hrj : rightB hole with
          | false =>
            have hnd : ¬ ndOk n P := fun h => by have := h.2 j hj2; rw [HPP.out, hrj] at this; cases this
            have HV := Lib.hid (HNO.out hnd)
            have hq := fun w' h => refput_any w' 0 (some ⟨w.heap.size + 1, 0, none⟩) 128 128 (NB n P j) (40 * (j : Int)) hole h (by omega) (by omega) (by omega)
            unfold PpPost at hq
            rw [(pp_bad (NB n P j) hrj).1, (pp_bad (j := j) (NB n P j) hrj).2] at hq
            have HQ := Lib.hid hq
            clear hq hnd hrj hpp HNO HYES HNB HOK
            generalize NB n P j = F at *
            have HS0 : Hid (NdW (w.heap.size + 1) w1.heap.size hole F F W2 false { W2 with drawn := W2.drawn + 1 }) := Lib.hid ⟨fun _ => row_own (hr2.block rfl), fun e => (by cases e), only_below ⟨rfl, rfl, rfl, Nat.le_refl _, fun _ _ => rfl⟩, hp2⟩
            clear hr2 hp2
            refine QuietTail2.regionInv (n := 6) (Inv := RnInv _ _ _ _ _ _ _ _ _ _ _ _ _ _ _ _ _ _ _ _ _ _ _ (w.heap.size + 1) w1.heap.size j hole 1 true F F W2) (by kernel_rfl) (by decide) (by kernel_rfl) ⟨_, _, _, _, _, _, rfl, by simp, by simp, by simp, by simp, by simp, by simp, HS0.out⟩ ?step ?fin
            case step =>
              rintro i o hi ho L a' w' ⟨u0, u1, u2, u3, u4, u5, rfl, i0, i1, i2, i3, i4, i5, iW⟩ hL hpre
              match i, hi with
              | 0, _ =>
                simp at ho
                subst ho
                go_simp
                exact ⟨_, u1, u2, u3, u4, u5, rfl, fun _ => rfl, RnInv_kl i1 rfl, RnInv_kl i2 rfl, RnInv_kl i3 rfl, RnInv_kl i4 rfl, RnInv_kl i5 rfl, iW⟩
              | 1, _ =>
                simp at ho
                subst ho
                go_simp
                exact ⟨u0, _, u2, u3, u4, u5, rfl, RnInv_kl i0 rfl, fun _ => rfl, RnInv_kl i2 rfl, RnInv_kl i3 rfl, RnInv_kl i4 rfl, RnInv_kl i5 rfl, iW⟩
              | 2, _ =>
                simp at ho
                subst ho
                obtain rfl := i1 (hpre 1 (by kernel_rfl))
                have k0 : IntKind.i64.wrap (40 * (j : Int)) = 40 * j := IntWalk.i64_in _ (by omega)
                go_simp
                exact ⟨u0, _, _, u3, u4, u5, rfl, RnInv_kl i0 rfl, RnInv_kl i1 rfl, fun _ => rfl, RnInv_kl i3 rfl, RnInv_kl i4 rfl, RnInv_kl i5 rfl, iW⟩
              | 3, _ =>
                simp at ho
                subst ho
                refine wp_load_mid 26 (.tmp 6) rfl w1.heap.size 0 rfl (pV hole) _ (row_pt iW.ptr) undP rfl (sizeP hole) ?_
                simp only [Act.put, List.setIfInBounds_toArray, List.set_cons_succ, List.set_cons_zero]
                exact ⟨u0, u1, u2, _, u4, u5, rfl, RnInv_kl i0 rfl, RnInv_kl i1 rfl, RnInv_kl i2 rfl, fun _ => rfl, RnInv_kl i4 rfl, RnInv_kl i5 rfl, iW⟩
              | 4, _ =>
                simp at ho
                subst ho
                obtain rfl := i0 (hpre 0 (by kernel_rfl))
                obtain rfl := i2 (hpre 2 (by kernel_rfl))
                obtain rfl := i3 (hpre 3 (by kernel_rfl))
                rw [hL] at iW
                go_simp
                refine (HQ.out w' (iW.o0 rfl)).mono ?_
                rintro _ w'' ⟨rfl, hG, hO⟩
                exact ⟨_, u1, _, _, _, u5, rfl, RnInv_kl i0 rfl, RnInv_kl i1 rfl, RnInv_kl i2 rfl, RnInv_kl i3 rfl, fun _ => rfl, RnInv_kl i5 rfl, (NdW.step (by omega) iW hG hO)⟩
              | 5, _ =>
                simp at ho
                subst ho
                obtain rfl := i4 (hpre 4 (by kernel_rfl))
                go_simp
                exact ⟨u0, u1, u2, u3, _, _, rfl, RnInv_kl i0 rfl, RnInv_kl i1 rfl, RnInv_kl i2 rfl, RnInv_kl i3 rfl, RnInv_kl i4 rfl, fun _ => rfl, iW⟩
              | i + 6, h => omega
            case fin =>
              rintro L a' w5 hall ⟨u0, u1, u2, u3, u4, u5, rfl, i0, i1, i2, i3, i4, i5, iW⟩
              obtain rfl := i0 (hall 0 (by omega))
              obtain rfl := i1 (hall 1 (by omega))
              obtain rfl := i2 (hall 2 (by omega))
              obtain rfl := i3 (hall 3 (by omega))
              obtain rfl := i4 (hall 4 (by omega))
              obtain rfl := i5 (hall 5 (by omega))
              have hW5 := iW
              rw [hall 4 (by omega)] at hW5
              clear iW
              clear i0 i1 i2 i3 i4 i5 hall
              simp only [List.drop_succ_cons, List.drop_zero]
              refine wpList_nil ?_
              have hG := hW5.only
              have hx5 := (hG.block w.heap.size (by omega) (by simp)).trans hx2
              have hB5 : Below w.heap.size w w5 := (row_own (own_row (hW5.o1 rfl))).mono (Nat.zero_le _) |> fun _ => hB2.grown hG (by have := hB2.size; omega) (fun k hk => by simp at hk; omega)
              have hO5 := own_row (hW5.o1 rfl)
              clear hW5 HS0 HQ hx2 hB2 hG
              go_wp2_with (first
                | (refine @wpList_buildG _ _ _ _ _ _ _ (by kernel_rfl) 22 #[] rfl (bl fun _ => 0).toArray (by kernel_rfl) ?_; simp only [Act.put, List.setIfInBounds_toArray, List.set_cons_succ, List.set_cons_zero])
                | (refine @wpList_store_row _ _ _ _ _ _ _ rfl 22 (.tmp 2) (.tmp 30) rfl w.heap.size (bl fun _ => 0).toArray rfl rfl 22 _ hx5 (sizeB _) rfl (allB _) ?_; simp only [Act.put]))
              have hr9 := setRow_heap _ w.heap.size _ (bl fun _ => 0).toArray 22 (0, 0) hx5
              refine bodyPost_ret (results_bl rfl rfl rfl hr9) rfl ?_
              exact ⟨by rw [HV.out.1, HV.out.2], hB5.trans ⟨rfl, rfl, rfl, by simp, fun k hk => setRow_other _ _ k _ (by omega)⟩⟩
          | true =>
            have HOK2 : Hid (∀ i, i < j + 1 → rightB (nP n P i) = true) := Lib.hid (fun i hi => by
              by_cases e : i = j
              · subst e; rw [HPP.out]; exact hrj
              · exact HOK.out i (by omega))
            have hq := fun w' h => refput_any w' 0 (some ⟨w.heap.size + 1, 0, none⟩) 128 128 (NB n P j) (40 * (j : Int)) hole h (by omega) (by omega) (by omega)
            unfold PpPost at hq
            rw [← HNB.out, pp_at hj2 hrj] at hq
            have HQ := Lib.hid hq
            clear hq hrj hpp HNO HYES HOK
            generalize hF : NB n P j = F at *
            generalize hF' : NB n P (j + 1) = F' at *
            have HF' := Lib.hid hF'
            clear hF hF' HNB
            have HS0 : Hid (NdW (w.heap.size + 1) w1.heap.size hole F F' W2 false { W2 with drawn := W2.drawn + 1 }) := Lib.hid ⟨fun _ => row_own (hr2.block rfl), fun e => (by cases e), only_below ⟨rfl, rfl, rfl, Nat.le_refl _, fun _ _ => rfl⟩, hp2⟩
            clear hr2 hp2
            refine QuietTail2.regionInv (n := 6) (Inv := RnInv _ _ _ _ _ _ _ _ _ _ _ _ _ _ _ _ _ _ _ _ _ _ _ (w.heap.size + 1) w1.heap.size j hole 0 false F F' W2) (by kernel_rfl) (by decide) (by kernel_rfl) ⟨_, _, _, _, _, _, rfl, by simp, by simp, by simp, by simp, by simp, by simp, HS0.out⟩ ?step ?fin
            case step =>
              rintro i o hi ho L a' w' ⟨u0, u1, u2, u3, u4, u5, rfl, i0, i1, i2, i3, i4, i5, iW⟩ hL hpre
              match i, hi with
              | 0, _ =>
                simp at ho
                subst ho
                go_simp
                exact ⟨_, u1, u2, u3, u4, u5, rfl, fun _ => rfl, RnInv_kl i1 rfl, RnInv_kl i2 rfl, RnInv_kl i3 rfl, RnInv_kl i4 rfl, RnInv_kl i5 rfl, iW⟩
              | 1, _ =>
                simp at ho
                subst ho
                go_simp
                exact ⟨u0, _, u2, u3, u4, u5, rfl, RnInv_kl i0 rfl, fun _ => rfl, RnInv_kl i2 rfl, RnInv_kl i3 rfl, RnInv_kl i4 rfl, RnInv_kl i5 rfl, iW⟩
              | 2, _ =>
                simp at ho
                subst ho
                obtain rfl := i1 (hpre 1 (by kernel_rfl))
                have k0 : IntKind.i64.wrap (40 * (j : Int)) = 40 * j := IntWalk.i64_in _ (by omega)
                go_simp
                exact ⟨u0, _, _, u3, u4, u5, rfl, RnInv_kl i0 rfl, RnInv_kl i1 rfl, fun _ => rfl, RnInv_kl i3 rfl, RnInv_kl i4 rfl, RnInv_kl i5 rfl, iW⟩
              | 3, _ =>
                simp at ho
                subst ho
                refine wp_load_mid 26 (.tmp 6) rfl w1.heap.size 0 rfl (pV hole) _ (row_pt iW.ptr) undP rfl (sizeP hole) ?_
                simp only [Act.put, List.setIfInBounds_toArray, List.set_cons_succ, List.set_cons_zero]
                exact ⟨u0, u1, u2, _, u4, u5, rfl, RnInv_kl i0 rfl, RnInv_kl i1 rfl, RnInv_kl i2 rfl, fun _ => rfl, RnInv_kl i4 rfl, RnInv_kl i5 rfl, iW⟩
              | 4, _ =>
                simp at ho
                subst ho
                obtain rfl := i0 (hpre 0 (by kernel_rfl))
                obtain rfl := i2 (hpre 2 (by kernel_rfl))
                obtain rfl := i3 (hpre 3 (by kernel_rfl))
                rw [hL] at iW
                go_simp
                refine (HQ.out w' (iW.o0 rfl)).mono ?_
                rintro _ w'' ⟨rfl, hG, hO⟩
                exact ⟨_, u1, _, _, _, u5, rfl, RnInv_kl i0 rfl, RnInv_kl i1 rfl, RnInv_kl i2 rfl, RnInv_kl i3 rfl, fun _ => rfl, RnInv_kl i5 rfl, (NdW.step (by omega) iW hG hO)⟩
              | 5, _ =>
                simp at ho
                subst ho
                obtain rfl := i4 (hpre 4 (by kernel_rfl))
                go_simp
                exact ⟨u0, u1, u2, u3, _, _, rfl, RnInv_kl i0 rfl, RnInv_kl i1 rfl, RnInv_kl i2 rfl, RnInv_kl i3 rfl, RnInv_kl i4 rfl, fun _ => rfl, iW⟩
              | i + 6, h => omega
            case fin =>
              rintro L a' w5 hall ⟨u0, u1, u2, u3, u4, u5, rfl, i0, i1, i2, i3, i4, i5, iW⟩
              obtain rfl := i0 (hall 0 (by omega))
              obtain rfl := i1 (hall 1 (by omega))
              obtain rfl := i2 (hall 2 (by omega))
              obtain rfl := i3 (hall 3 (by omega))
              obtain rfl := i4 (hall 4 (by omega))
              obtain rfl := i5 (hall 5 (by omega))
              have hW5 := iW
              rw [hall 4 (by omega)] at hW5
              clear iW
              clear i0 i1 i2 i3 i4 i5 hall
              simp only [List.drop_succ_cons, List.drop_zero]
              refine wpList_nil ?_
              have hG := hW5.only
              have hx5 := (hG.block w.heap.size (by omega) (by simp)).trans hx2
              have hB5 : Below w.heap.size w w5 := (row_own (own_row (hW5.o1 rfl))).mono (Nat.zero_le _) |> fun _ => hB2.grown hG (by have := hB2.size; omega) (fun k hk => by simp at hk; omega)
              have hO5 := own_row (hW5.o1 rfl)
              clear hW5 HS0 HQ hx2 hB2 hG
              have HN : Hid (Below w.heap.size w w5 ∧ w5.heap[w.heap.size]? = some (.cells (bl fun _ => 0).toArray 22 (0, 0)) ∧ Row w5 (w.heap.size + 1) 0 128 (NB n P (j + 1)) ∧ ∀ i, i < j + 1 → rightB (nP n P i) = true) := Lib.hid ⟨hB5, hx5, by rw [HF'.out]; exact hO5, HOK2.out⟩
              clear hB5 hx5 hO5 HF' HOK2
              go_wp2_with fail
              go_roundw
              case rel => exact ⟨j + 1, by omega, by go_num, HN⟩
              case measure => simp [intOf]; omega
      · obtain rfl : j = 3 := by omega
        have HV := Lib.hid (HYES.out ⟨hn3', hok⟩)
        have hrg := row_range hr
        clear hok hR hr HNO HYES
        generalize NB n P 3 = F at *
        go_wp2_with (first
          | (refine @wpList_loadG _ _ _ _ _ _ _ (by kernel_rfl) 22 (.tmp 4) rfl (w.heap.size + 1) 0 rfl (bl F) _ hrg undB rfl (size_bl _) ?_; simp only [Act.put, List.setIfInBounds_toArray, List.set_cons_succ, List.set_cons_zero])
          | (refine @wpList_store_row _ _ _ _ _ _ _ rfl 22 (.tmp 2) (.tmp 31) rfl w.heap.size (bl F).toArray rfl rfl 22 _ hx (sizeB _) (by rw [List.size_toArray, List.size_toArray, bl_length, bl_length]) (allB _) ?_; simp only [Act.put]))
        have hr9 := setRow_heap _ w.heap.size _ (bl F).toArray 22 (0, 0) hx
        refine bodyPost_ret (results_bl rfl rfl rfl hr9) rfl ?_
        exact ⟨by rw [HV.out.1, HV.out.2], hB.trans ⟨rfl, rfl, rfl, by simp, fun k hk => setRow_other _ _ k _ (by omega)⟩⟩
end Pt
end Go.Proofs.YtpbhdndkmjkphaaDoor
