/- ptr: Node (made by tools/gen_pnodec.py). -/
import Derived.Test.YtllejfnmbpjhaaaDoorPtNode
import Derived.Test.YtllejfnmbpjhaaaDoorPtCopy
namespace Go.Proofs.YtllejfnmbpjhaaaDoor
set_option maxRecDepth 20000
namespace Pt
open Go.RowKit Dk Eqb Byt

def mj (n : Nat) (P : Nat → Pn) (j i : Nat) : Pn := if i < j then nP n P i else pz
theorem mj_start (n : Nat) (P : Nat → Pn) : cp P n = mj n P n := by
  funext i
  unfold cp mj nP
  by_cases h : i < n
  · rw [if_pos h, if_pos h, if_pos h]
  · rw [if_neg h, if_neg h]
theorem mj_next (n : Nat) (P : Nat → Pn) {j : Nat} (h : n ≤ j) : upd (mj n P j) j hole = mj n P (j + 1) := by
  funext i
  unfold upd mj
  by_cases e : i = j
  · subst e; rw [if_pos rfl, if_pos (by omega)]; unfold nP; rw [if_neg (by omega)]
  · rw [if_neg e]
    by_cases h' : i < j
    · rw [if_pos h', if_pos (by omega)]
    · rw [if_neg h', if_neg (by omega)]
theorem mj_all (n : Nat) (P : Nat → Pn) : f3 (mj n P 3) = f3 (nP n P) := f3_congr fun i hi => by unfold mj; rw [if_pos hi]
def NcInv (x0 x1 x2 x3 x4 x5 x10 x11 x12 x13 x14 x15 x16 x17 x18 x19 x20 x21 x22 x23 x24 x25 x26 x27 x28 x34 x35 x36 x37 x38 x39 : Value) (bb pb j : Nat) (p : Pn) (E : Int) (F F' : Nat → Int) (W0 : World) (L : Nat → Bool) (a' : Act) (w' : World) : Prop :=
  ∃ u0 u1 u2 u3 u4 u5, a' = { tmps := #[x0, x1, x2, x3, x4, x5, .pointer (some ⟨bb, 0, none⟩), .int .i64 (j : Int), .pointer (some ⟨pb, 0, none⟩), u5, x10, x11, x12, x13, x14, x15, x16, x17, x18, x19, x20, x21, x22, x23, x24, x25, x26, x27, x28, u0, u1, u2, u3, u4, x34, x35, x36, x37, x38, x39], defers := [] } ∧ (L 0 = true → u0 = .slice (some ⟨bb, 0, none⟩) 128 128) ∧ (L 1 = true → u1 = .int .i64 (j : Int)) ∧ (L 2 = true → u2 = .int .i64 (40 * (j : Int))) ∧ (L 3 = true → u3 = .agg (pV p).toArray) ∧ (L 4 = true → u4 = .int .i64 E) ∧ (L 5 = true → u5 = .int .i64 E) ∧ NdW bb pb p F F' W0 (L 4) w'
theorem NcInv_kl {L : Nat → Bool} {i k : Nat} {Q : Prop} (h : L k = true → Q) (h1 : (k == i) = false) : (k == i || L k) = true → Q := by
  rw [h1, Bool.false_or]
  exact h

attribute [local go_sem] zvP zvB zv3
attribute [local go_sem] zcB zc3
set_option maxRecDepth 100000 in
set_option maxHeartbeats 2000000 in
theorem node_any (n : Nat) (P : Nat → Pn) (pa : Option Addr) (cap g : Nat) (w : World) (hl : Lay w w.heap.size g pa n cap 34 (fun i => pV (P i))) (hn : n ≤ 140737488355328) :
    Calls Tryd.prog 29 #[.slice pa n cap] w fun e w' => e = .returned (.tuple #[.agg (bl (ndV n P)).toArray, .int .i64 (ndE n P)]) ∧ Below w.heap.size w w' := by
  have hB0 : Below w.heap.size w (w.alloc (.cells (bl fun _ => 0).toArray 22)) := (Below.refl _ _).alloc (Nat.le_refl _) _
  have hx0 : (w.alloc (.cells (bl fun _ => 0).toArray 22)).heap[w.heap.size]? = some (.cells (bl fun _ => 0).toArray 22 (0, 0)) := heap_alloc_new w _
  have hB1 : Below w.heap.size w ((w.alloc (.cells (bl fun _ => 0).toArray 22)).alloc (.cells (f3 zP).toArray 66)) := hB0.alloc (by simp) _
  have hx1 : ((w.alloc (.cells (bl fun _ => 0).toArray 22)).alloc (.cells (f3 zP).toArray 66)).heap[w.heap.size]? = some (.cells (bl fun _ => 0).toArray 22 (0, 0)) := (Below.heap_alloc _ _ _ (by simp)).trans hx0
  have hy1 : R3 ((w.alloc (.cells (bl fun _ => 0).toArray 22)).alloc (.cells (f3 zP).toArray 66)) (w.heap.size + 1) zP := R3.new (t := 66) (by
    have := heap_alloc_new (w.alloc (.cells (bl fun _ => 0).toArray 22)) (.cells (f3 zP).toArray 66)
    rwa [World.size_alloc] at this)
  have HNO := Lib.hid (fun (h : ¬ ndOk n P) => nd_no h)
  have HYES := Lib.hid (fun (h : ndOk n P) => nd_yes h)
  have hLay := hl.below hB1
  clear hl
  by_cases hn3 : 3 < n
  · have HV := Lib.hid (HNO.out (fun h => by have := h.1; omega))
    clear HNO HYES hLay hB1 hx1 hy1
    go_enter Tryd.func29, Tryd.ntmps29
    go_wp2_with (first
      | (refine @wpList_buildG _ _ _ _ _ _ _ (by kernel_rfl) 22 #[] rfl (bl fun _ => 0).toArray (by kernel_rfl) ?_; simp only [Act.put, List.setIfInBounds_toArray, List.set_cons_succ, List.set_cons_zero])
      | (refine @wpList_store_row _ _ _ _ _ _ _ rfl 22 (.tmp 2) (.tmp 13) rfl w.heap.size (bl fun _ => 0).toArray rfl rfl 22 _ hx0 (sizeB _) rfl (allB _) ?_; simp only [Act.put]))
    have hr9 := setRow_heap _ w.heap.size _ (bl fun _ => 0).toArray 22 (0, 0) hx0
    refine bodyPost_ret (results_bl rfl rfl rfl hr9) rfl ?_
    exact ⟨by rw [HV.out.1, HV.out.2], hB0.trans ⟨rfl, rfl, rfl, by simp, fun k hk => setRow_other _ _ k _ (by omega)⟩⟩
  · have hn3' : n ≤ 3 := by omega
    have HI : Hid (Below w.heap.size w (((w.alloc (.cells (bl fun _ => 0).toArray 22)).alloc (.cells (f3 zP).toArray 66)).setCells (w.heap.size + 1) 0 (flat (fun i => pV (P i)) n)) ∧ (((w.alloc (.cells (bl fun _ => 0).toArray 22)).alloc (.cells (f3 zP).toArray 66)).setCells (w.heap.size + 1) 0 (flat (fun i => pV (P i)) n)).heap[w.heap.size]? = some (.cells (bl fun _ => 0).toArray 22 (0, 0)) ∧ R3 (((w.alloc (.cells (bl fun _ => 0).toArray 22)).alloc (.cells (f3 zP).toArray 66)).setCells (w.heap.size + 1) 0 (flat (fun i => pV (P i)) n)) (w.heap.size + 1) (mj n P n)) := Lib.hid ⟨below_cells (by omega) _ _ hB1, (other_cells (by omega) _ _ _).trans hx1, by rw [← mj_start]; exact hy1.copied n hn3'⟩
    have hnn : ¬ (3 : Int) < (n : Int) := by omega
    go_enter Tryd.func29, Tryd.ntmps29
    go_wp2_with (first
      | (refine @wpList_copy_pts _ _ _ _ _ _ rfl (.tmp 14) (.tmp 15) rfl _ _ _ _ _ _ _ rfl rfl hLay hn3' hy1 ?_; generalize ((w.alloc (.cells (bl fun _ => 0).toArray 22)).alloc (.cells (f3 zP).toArray 66)).setCells (w.heap.size + 1) 0 (flat (fun i => pV (P i)) n) = W at HI ⊢; simp only [Act.put, List.setIfInBounds_toArray, List.set_cons_succ, List.set_cons_zero]))
    clear hB0 hx0 hB1 hx1 hy1 hLay
    go_loopw [5] (fun i wr => ∃ j : Nat, n ≤ j ∧ j ≤ 3 ∧ i = .int .i64 j ∧ Hid (Below w.heap.size w wr ∧ wr.heap[w.heap.size]? = some (.cells (bl fun _ => 0).toArray 22 (0, 0)) ∧ R3 wr (w.heap.size + 1) (mj n P j))) (fun i _ => 3 - (intOf i).toNat)
    case atStart => exact ⟨n, by omega, hn3', rfl, HI⟩
    case round =>
      clear HI
      obtain ⟨j, hjn, hj, rfl, hR⟩ := hrel
      obtain ⟨hB, hx, hy⟩ := hR.out
      by_cases hj2 : j < 3
      · have hj0 : (0 : Int) ≤ (j : Int) := by omega
        have HY := Lib.hid hy
        have hyl := hy.lt
        have HMJ := Lib.hid (mj_next n P hjn)
        clear hR hy HNO HYES
        go_wp2_with fail
        refine (hole_any wr).mono ?_
        rintro _ w1 ⟨rfl, hb1⟩
        have hy1 := HY.out.keep (hb1.block (w.heap.size + 1) hyl)
        have hx1 := (hb1.block w.heap.size (by omega)).trans hx
        have hB1 := hB.trans (hb1.mono hB.size)
        have HN : Hid (Below w.heap.size w (w1.setCells (w.heap.size + 1) (34 * j) (pV hole)) ∧ (w1.setCells (w.heap.size + 1) (34 * j) (pV hole)).heap[w.heap.size]? = some (.cells (bl fun _ => 0).toArray 22 (0, 0)) ∧ R3 (w1.setCells (w.heap.size + 1) (34 * j) (pV hole)) (w.heap.size + 1) (mj n P (j + 1))) := Lib.hid ⟨below_cells (by omega) _ _ hB1, (other_cells (by omega) _ _ _).trans hx1, by rw [← HMJ.out]; exact hy1.store hj2 hole⟩
        have hth := hy1.at hj2
        clear hx hB hb1 hx1 hB1 HY hy1 HMJ
        dsimp only
        go_wp2_with (first
          | (refine @wpList_store_mid _ _ _ _ _ _ _ (by rfl) 65 (.tmp 23) (.tmp 22) (by rfl) (w.heap.size + 1) (j * 34) (pV hole).toArray (by rfl) (by rfl) (by rw [pV_asize, Nat.mul_comm]; exact hth) (sizeP' _) (pV_all _) ?_; rw [Nat.mul_comm j 34]; simp only [Act.put]; generalize w1.setCells (w.heap.size + 1) (34 * j) (pV hole) = w5 at HN ⊢))
        clear hth
        go_roundw
        case rel => exact ⟨j + 1, by omega, by omega, by go_num, HN⟩
        case measure => simp [intOf]; omega
      · obtain rfl : j = 3 := by omega
        have hyl := hy.lt
        obtain ⟨W, hW, hB0, hx0, hr0, hrg⟩ : ∃ W, W = wr.alloc (.cells (bl fun _ => 0).toArray 22) ∧ Below w.heap.size w W ∧ W.heap[w.heap.size]? = some (.cells (bl fun _ => 0).toArray 22 (0, 0)) ∧ Row W wr.heap.size 0 128 (NB n P 0) ∧ (wr.alloc (.cells (bl fun _ => 0).toArray 22)).rangeAt (w.heap.size + 1) 0 (f3 (nP n P)) := by
          refine ⟨_, rfl, hB.alloc hB.size _, (Below.heap_alloc _ _ _ (by omega)).trans hx, row_of (t := 22) (heap_alloc_new wr _), ?_⟩
          rw [← mj_all]
          exact (hy.keep (Below.heap_alloc _ _ _ hyl)).all
        clear hR hy hB hx
        go_wp2_with (first
          | (refine @wpList_loadG _ _ _ _ _ _ _ (by kernel_rfl) 66 (.tmp 4) (by rfl) (w.heap.size + 1) 0 (by rfl) (f3 (nP n P)) _ hrg und3 rfl (size3 _) ?_; simp only [Act.put, List.setIfInBounds_toArray, List.set_cons_succ, List.set_cons_zero]))
        rw [← hW]
        clear hW hrg
        have hb6 : w.heap.size + 2 ≤ wr.heap.size := by omega
        clear hyl hjn hj hj2
        generalize wr.heap.size = b6 at *
        clear wr
        have HI : Hid (Below w.heap.size w W ∧ W.heap[w.heap.size]? = some (.cells (bl fun _ => 0).toArray 22 (0, 0)) ∧ Row W b6 0 128 (NB n P 0) ∧ ∀ i, i < 0 → rightB (nP n P i) = true) := Lib.hid ⟨hB0, hx0, hr0, fun i hi => by omega⟩
        clear hB0 hx0 hr0
        go_loopw [25] (fun i wr => ∃ j : Nat, j ≤ 3 ∧ i = .int .i64 j ∧ Hid (Below w.heap.size w wr ∧ wr.heap[w.heap.size]? = some (.cells (bl fun _ => 0).toArray 22 (0, 0)) ∧ Row wr b6 0 128 (NB n P j) ∧ ∀ i, i < j → rightB (nP n P i) = true)) (fun i _ => 3 - (intOf i).toNat)
        case atStart => exact ⟨0, by omega, rfl, HI⟩
        case round =>
          clear HI
          obtain ⟨j, hj, rfl, hR⟩ := hrel
          obtain ⟨hB, hx, hr, hok⟩ := hR.out
          by_cases hj2 : j < 3
          · have hj0 : (0 : Int) ≤ (j : Int) := by omega
            have HOK := Lib.hid hok
            have HR := Lib.hid hr
            have hrl := hr.lt
            have HNB : Hid (NB n P (j + 1) = ppF 128 (40 * (j : Int)) (nP n P j) (NB n P j)) := Lib.hid rfl
            have HIX := Lib.hid (run_index3 (nP n P) j hj2)
            have hpp : nP n P j = nP n P j := rfl
            clear hok hR hr
            clear hpp
            obtain ⟨p, HP⟩ : ∃ p, Hid (nP n P j = p) := ⟨_, Lib.hid rfl⟩
            rw [HP.out] at HIX HNB
            go_wp2_with fail
            rw [HIX.out]
            go_wp2_with (first
              | (refine @wpList_store_row _ _ _ _ _ _ _ rfl 65 (.tmp 8) (.tmp 28) rfl wr.heap.size (pV p).toArray rfl rfl 65 _ (heap_alloc_new wr _) (sizeP' _) rfl (pV_all _) ?_; rw [World.setRow_alloc_new]; simp only [Act.put]))
            have hb2 : Below wr.heap.size wr (wr.alloc (.cells (pV p).toArray 65)) := (Below.refl _ _).alloc (Nat.le_refl _) _
            have hp2 : (wr.alloc (.cells (pV p).toArray 65)).heap[wr.heap.size]? = some (.cells (pV p).toArray 65 (0, 0)) := heap_alloc_new _ _
            generalize wr.alloc (.cells (pV p).toArray 65) = W2 at hb2 hp2 ⊢
            have hr2 := HR.out.block (hb2.block b6 hrl)
            have hx2 := (hb2.block w.heap.size (by omega)).trans hx
            have hB2 := hB.trans (hb2.mono hB.size)
            have hs2 := hb2.size
            clear hx hB hb2 HR HIX
            cases hrj : rightB p with
            | false =>
              have hnd : ¬ ndOk n P := fun h => by have := h.2 j hj2; rw [HP.out, hrj] at this; cases this
              have HV := Lib.hid (HNO.out hnd)
              have hq := fun w' h => put_any w' 0 (some ⟨b6, 0, none⟩) 128 128 (NB n P j) (40 * (j : Int)) p h (by omega)
              unfold PpPost at hq
              rw [(pp_bad (NB n P j) hrj).1, (pp_bad (j := j) (NB n P j) hrj).2] at hq
              have HQ := Lib.hid hq
              clear hq hnd hrj HP HNO HYES HNB HOK
              generalize NB n P j = F at *
              have HS0 : Hid (NdW b6 wr.heap.size p F F W2 false { W2 with drawn := W2.drawn + 1 }) := Lib.hid ⟨fun _ => row_own (hr2.block rfl), fun e => (by cases e), only_below ⟨rfl, rfl, rfl, Nat.le_refl _, fun _ _ => rfl⟩, hp2⟩
              clear hr2 hp2
              refine QuietTail2.regionInv (n := 6) (Inv := NcInv _ _ _ _ _ _ _ _ _ _ _ _ _ _ _ _ _ _ _ _ _ _ _ _ _ _ _ _ _ _ _ b6 wr.heap.size j p 1 F F W2) (by kernel_rfl) (by decide) (by kernel_rfl) ⟨_, _, _, _, _, _, rfl, by simp, by simp, by simp, by simp, by simp, by simp, HS0.out⟩ ?step ?fin
              case step =>
                rintro i o hi ho L a' w' ⟨u0, u1, u2, u3, u4, u5, rfl, i0, i1, i2, i3, i4, i5, iW⟩ hL hpre
                match i, hi with
                | 0, _ =>
                  simp at ho
                  subst ho
                  go_simp
                  exact ⟨_, u1, u2, u3, u4, u5, rfl, fun _ => rfl, NcInv_kl i1 rfl, NcInv_kl i2 rfl, NcInv_kl i3 rfl, NcInv_kl i4 rfl, NcInv_kl i5 rfl, iW⟩
                | 1, _ =>
                  simp at ho
                  subst ho
                  go_simp
                  exact ⟨u0, _, u2, u3, u4, u5, rfl, NcInv_kl i0 rfl, fun _ => rfl, NcInv_kl i2 rfl, NcInv_kl i3 rfl, NcInv_kl i4 rfl, NcInv_kl i5 rfl, iW⟩
                | 2, _ =>
                  simp at ho
                  subst ho
                  obtain rfl := i1 (hpre 1 (by kernel_rfl))
                  have k0 : IntKind.i64.wrap (40 * (j : Int)) = 40 * j := IntWalk.i64_in _ (by omega)
                  go_simp
                  exact ⟨u0, _, _, u3, u4, u5, rfl, NcInv_kl i0 rfl, NcInv_kl i1 rfl, fun _ => rfl, NcInv_kl i3 rfl, NcInv_kl i4 rfl, NcInv_kl i5 rfl, iW⟩
                | 3, _ =>
                  simp at ho
                  subst ho
                  refine wp_load_mid 65 (.tmp 8) rfl wr.heap.size 0 rfl (pV p) _ (row_pt iW.ptr) undP rfl (sizeP p) ?_
                  simp only [Act.put, List.setIfInBounds_toArray, List.set_cons_succ, List.set_cons_zero]
                  exact ⟨u0, u1, u2, _, u4, u5, rfl, NcInv_kl i0 rfl, NcInv_kl i1 rfl, NcInv_kl i2 rfl, fun _ => rfl, NcInv_kl i4 rfl, NcInv_kl i5 rfl, iW⟩
                | 4, _ =>
                  simp at ho
                  subst ho
                  obtain rfl := i0 (hpre 0 (by kernel_rfl))
                  obtain rfl := i2 (hpre 2 (by kernel_rfl))
                  obtain rfl := i3 (hpre 3 (by kernel_rfl))
                  rw [hL] at iW
                  go_simp
                  refine (HQ.out w' (iW.o0 rfl)).mono ?_
                  rintro _ w'' ⟨rfl, hG, hO⟩
                  exact ⟨_, u1, _, _, _, u5, rfl, NcInv_kl i0 rfl, NcInv_kl i1 rfl, NcInv_kl i2 rfl, NcInv_kl i3 rfl, fun _ => rfl, NcInv_kl i5 rfl, (NdW.step (by omega) iW hG hO)⟩
                | 5, _ =>
                  simp at ho
                  subst ho
                  obtain rfl := i4 (hpre 4 (by kernel_rfl))
                  go_simp
                  exact ⟨u0, u1, u2, u3, _, _, rfl, NcInv_kl i0 rfl, NcInv_kl i1 rfl, NcInv_kl i2 rfl, NcInv_kl i3 rfl, NcInv_kl i4 rfl, fun _ => rfl, iW⟩
                | i + 6, h => omega
              case fin =>
                rintro L a' w5 hall ⟨u0, u1, u2, u3, u4, u5, rfl, i0, i1, i2, i3, i4, i5, iW⟩
                obtain rfl := i0 (hall 0 (by omega))
                obtain rfl := i1 (hall 1 (by omega))
                obtain rfl := i2 (hall 2 (by omega))
                obtain rfl := i3 (hall 3 (by omega))
                obtain rfl := i4 (hall 4 (by omega))
                obtain rfl := i5 (hall 5 (by omega))
                have hW5 := iW
                rw [hall 4 (by omega)] at hW5
                clear iW
                clear i0 i1 i2 i3 i4 i5 hall
                simp only [List.drop_succ_cons, List.drop_zero]
                refine wpList_nil ?_
                have hG := hW5.only
                have hx5 := (hG.block w.heap.size (by omega) (by simp; omega)).trans hx2
                have hB5 : Below w.heap.size w w5 := hB2.grown hG (by have := hB2.size; omega) (fun k hk => by simp at hk; omega)
                have hO5 := own_row (hW5.o1 rfl)
                clear hW5 HS0 HQ hx2 hB2 hG
                go_wp2_with (first
                  | (refine @wpList_buildG _ _ _ _ _ _ _ (by kernel_rfl) 22 #[] rfl (bl fun _ => 0).toArray (by kernel_rfl) ?_; simp only [Act.put, List.setIfInBounds_toArray, List.set_cons_succ, List.set_cons_zero])
                  | (refine @wpList_store_row _ _ _ _ _ _ _ rfl 22 (.tmp 2) (.tmp 36) rfl w.heap.size (bl fun _ => 0).toArray rfl rfl 22 _ hx5 (sizeB _) rfl (allB _) ?_; simp only [Act.put]))
                have hr9 := setRow_heap _ w.heap.size _ (bl fun _ => 0).toArray 22 (0, 0) hx5
                refine bodyPost_ret (results_bl rfl rfl rfl hr9) rfl ?_
                exact ⟨by rw [HV.out.1, HV.out.2], hB5.trans ⟨rfl, rfl, rfl, by simp, fun k hk => setRow_other _ _ k _ (by omega)⟩⟩
            | true =>
              have HOK2 : Hid (∀ i, i < j + 1 → rightB (nP n P i) = true) := Lib.hid (fun i hi => by
                by_cases e : i = j
                · subst e; rw [HP.out]; exact hrj
                · exact HOK.out i (by omega))
              have hq := fun w' h => put_any w' 0 (some ⟨b6, 0, none⟩) 128 128 (NB n P j) (40 * (j : Int)) p h (by omega)
              unfold PpPost at hq
              rw [← HNB.out, pp_at hj2 hrj] at hq
              have HQ := Lib.hid hq
              clear hq hrj HP HNO HYES HOK
              generalize hF : NB n P j = F at *
              generalize hF' : NB n P (j + 1) = F' at *
              have HF' := Lib.hid hF'
              clear hF hF' HNB
              have HS0 : Hid (NdW b6 wr.heap.size p F F' W2 false { W2 with drawn := W2.drawn + 1 }) := Lib.hid ⟨fun _ => row_own (hr2.block rfl), fun e => (by cases e), only_below ⟨rfl, rfl, rfl, Nat.le_refl _, fun _ _ => rfl⟩, hp2⟩
              clear hr2 hp2
              refine QuietTail2.regionInv (n := 6) (Inv := NcInv _ _ _ _ _ _ _ _ _ _ _ _ _ _ _ _ _ _ _ _ _ _ _ _ _ _ _ _ _ _ _ b6 wr.heap.size j p 0 F F' W2) (by kernel_rfl) (by decide) (by kernel_rfl) ⟨_, _, _, _, _, _, rfl, by simp, by simp, by simp, by simp, by simp, by simp, HS0.out⟩ ?step ?fin
              case step =>
                rintro i o hi ho L a' w' ⟨u0, u1, u2, u3, u4, u5, rfl, i0, i1, i2, i3, i4, i5, iW⟩ hL hpre
                match i, hi with
                | 0, _ =>
                  simp at ho
                  subst ho
                  go_simp
                  exact ⟨_, u1, u2, u3, u4, u5, rfl, fun _ => rfl, NcInv_kl i1 rfl, NcInv_kl i2 rfl, NcInv_kl i3 rfl, NcInv_kl i4 rfl, NcInv_kl i5 rfl, iW⟩
                | 1, _ =>
                  simp at ho
                  subst ho
                  go_simp
                  exact ⟨u0, _, u2, u3, u4, u5, rfl, NcInv_kl i0 rfl, fun _ => rfl, NcInv_kl i2 rfl, NcInv_kl i3 rfl, NcInv_kl i4 rfl, NcInv_kl i5 rfl, iW⟩
                | 2, _ =>
                  simp at ho
                  subst ho
                  obtain rfl := i1 (hpre 1 (by kernel_rfl))
                  have k0 : IntKind.i64.wrap (40 * (j : Int)) = 40 * j := IntWalk.i64_in _ (by omega)
                  go_simp
                  exact ⟨u0, _, _, u3, u4, u5, rfl, NcInv_kl i0 rfl, NcInv_kl i1 rfl, fun _ => rfl, NcInv_kl i3 rfl, NcInv_kl i4 rfl, NcInv_kl i5 rfl, iW⟩
                | 3, _ =>
                  simp at ho
                  subst ho
                  refine wp_load_mid 65 (.tmp 8) rfl wr.heap.size 0 rfl (pV p) _ (row_pt iW.ptr) undP rfl (sizeP p) ?_
                  simp only [Act.put, List.setIfInBounds_toArray, List.set_cons_succ, List.set_cons_zero]
                  exact ⟨u0, u1, u2, _, u4, u5, rfl, NcInv_kl i0 rfl, NcInv_kl i1 rfl, NcInv_kl i2 rfl, fun _ => rfl, NcInv_kl i4 rfl, NcInv_kl i5 rfl, iW⟩
                | 4, _ =>
                  simp at ho
                  subst ho
                  obtain rfl := i0 (hpre 0 (by kernel_rfl))
                  obtain rfl := i2 (hpre 2 (by kernel_rfl))
                  obtain rfl := i3 (hpre 3 (by kernel_rfl))
                  rw [hL] at iW
                  go_simp
                  refine (HQ.out w' (iW.o0 rfl)).mono ?_
                  rintro _ w'' ⟨rfl, hG, hO⟩
                  exact ⟨_, u1, _, _, _, u5, rfl, NcInv_kl i0 rfl, NcInv_kl i1 rfl, NcInv_kl i2 rfl, NcInv_kl i3 rfl, fun _ => rfl, NcInv_kl i5 rfl, (NdW.step (by omega) iW hG hO)⟩
                | 5, _ =>
                  simp at ho
                  subst ho
                  obtain rfl := i4 (hpre 4 (by kernel_rfl))
                  go_simp
                  exact ⟨u0, u1, u2, u3, _, _, rfl, NcInv_kl i0 rfl, NcInv_kl i1 rfl, NcInv_kl i2 rfl, NcInv_kl i3 rfl, NcInv_kl i4 rfl, fun _ => rfl, iW⟩
                | i + 6, h => omega
              case fin =>
                rintro L a' w5 hall ⟨u0, u1, u2, u3, u4, u5, rfl, i0, i1, i2, i3, i4, i5, iW⟩
                obtain rfl := i0 (hall 0 (by omega))
                obtain rfl := i1 (hall 1 (by omega))
                obtain rfl := i2 (hall 2 (by omega))
                obtain rfl := i3 (hall 3 (by omega))
                obtain rfl := i4 (hall 4 (by omega))
                obtain rfl := i5 (hall 5 (by omega))
                have hW5 := iW
                rw [hall 4 (by omega)] at hW5
                clear iW
                clear i0 i1 i2 i3 i4 i5 hall
                simp only [List.drop_succ_cons, List.drop_zero]
                refine wpList_nil ?_
                have hG := hW5.only
                have hx5 := (hG.block w.heap.size (by omega) (by simp; omega)).trans hx2
                have hB5 : Below w.heap.size w w5 := hB2.grown hG (by have := hB2.size; omega) (fun k hk => by simp at hk; omega)
                have hO5 := own_row (hW5.o1 rfl)
                clear hW5 HS0 HQ hx2 hB2 hG
                have HN : Hid (Below w.heap.size w w5 ∧ w5.heap[w.heap.size]? = some (.cells (bl fun _ => 0).toArray 22 (0, 0)) ∧ Row w5 b6 0 128 (NB n P (j + 1)) ∧ ∀ i, i < j + 1 → rightB (nP n P i) = true) := Lib.hid ⟨hB5, hx5, by rw [HF'.out]; exact hO5, HOK2.out⟩
                clear hB5 hx5 hO5 HF' HOK2
                go_wp2_with fail
                go_roundw
                case rel => exact ⟨_, _, _, _, _, _, _, _, _, _, _, _, _, _, _, _, _, _, ⟨j + 1, by omega, by go_num, HN⟩, rfl⟩
                case measure => simp [intOf]; omega
          · obtain rfl : j = 3 := by omega
            have HV := Lib.hid (HYES.out ⟨hn3', hok⟩)
            have hrg := row_range hr
            clear hok hR hr HNO HYES
            generalize NB n P 3 = F at *
            go_wp2_with (first
              | (refine @wpList_loadG _ _ _ _ _ _ _ (by kernel_rfl) 22 (.tmp 6) rfl b6 0 rfl (bl F) _ hrg undB rfl (size_bl _) ?_; simp only [Act.put, List.setIfInBounds_toArray, List.set_cons_succ, List.set_cons_zero])
              | (refine @wpList_store_row _ _ _ _ _ _ _ rfl 22 (.tmp 2) (.tmp 39) rfl w.heap.size (bl F).toArray rfl rfl 22 _ hx (sizeB _) (by rw [List.size_toArray, List.size_toArray, bl_length, bl_length]) (allB _) ?_; simp only [Act.put]))
            have hr9 := setRow_heap _ w.heap.size _ (bl F).toArray 22 (0, 0) hx
            refine bodyPost_ret (results_bl rfl rfl rfl hr9) rfl ?_
            exact ⟨by rw [HV.out.1, HV.out.2], hB.trans ⟨rfl, rfl, rfl, by simp, fun k hk => setRow_other _ _ k _ (by omega)⟩⟩
end Pt
end Go.Proofs.YtllejfnmbpjhaaaDoor
