/- ptr: Parts, and the reference's (made by tools/gen_pparts.py). -/
import Derived.Test.YtllejfnmbpjhaaaDoorPtThree
import Derived.Test.YtllejfnmbpjhaaaDoorPtRefTake
namespace Go.Proofs.YtllejfnmbpjhaaaDoor
set_option maxRecDepth 20000
namespace Pt
open Go.RowKit Dk Eqb Byt

def tI (D : Nat → Int) (i : Nat) : Pn := tkP 128 (40 * (i : Int)) D
theorem tk_yes {D : Nat → Int} {i : Nat} (hi : i < 3) (h : rightB (tI D i) = true) : tkV 128 (40 * (i : Int)) D = tI D i ∧ tkE 128 (40 * (i : Int)) D = 0 := by
  have hw : withinB 128 (40 * (i : Int)) = true := within_iff.2 (by omega)
  unfold tI at *
  unfold tkV tkE
  rw [if_pos hw, if_pos h, if_pos hw, if_pos h]
  exact ⟨rfl, rfl⟩
theorem tk_no {D : Nat → Int} {i : Nat} (hi : i < 3) (h : rightB (tI D i) = false) : tkV 128 (40 * (i : Int)) D = pz ∧ tkE 128 (40 * (i : Int)) D = 15 := by
  have hw : withinB 128 (40 * (i : Int)) = true := within_iff.2 (by omega)
  unfold tI at *
  unfold tkV tkE
  rw [if_pos hw, if_neg (by rw [h]; simp), if_pos hw, if_neg (by rw [h]; simp)]
  exact ⟨rfl, rfl⟩
def zt (D : Nat → Int) : Bool := Wd.zeroB (fun i => D (120 + i)) 8
def paOk (D : Nat → Int) : Prop := (∀ i, i < 3 → rightB (tI D i) = true) ∧ zt D = true
instance (D : Nat → Int) : Decidable (paOk D) := by unfold paOk; infer_instance
def paV (D : Nat → Int) (i : Nat) : Pn := if paOk D then tI D i else pz
def paE (D : Nat → Int) : Int := if paOk D then 0 else 15
theorem pa_no {D : Nat → Int} (h : ¬ paOk D) : f3 (paV D) = f3 zP ∧ paE D = 15 := ⟨f3_congr fun i _ => by unfold paV zP; rw [if_neg h], by unfold paE; rw [if_neg h]⟩
theorem pa_yes {D : Nat → Int} (h : paOk D) : f3 (paV D) = f3 (tI D) ∧ paE D = 0 := ⟨f3_congr fun i _ => by unfold paV; rw [if_pos h], by unfold paE; rw [if_pos h]⟩
/-- the first j parts that were taken -/
def pj (D : Nat → Int) (j i : Nat) : Pn := if i < j then tI D i else pz
theorem pj_zero (D : Nat → Int) : pj D 0 = zP := by funext i; unfold pj zP; rw [if_neg (by omega)]
theorem pj_next (D : Nat → Int) (j : Nat) : upd (pj D j) j (tI D j) = pj D (j + 1) := by
  funext i
  unfold upd pj
  by_cases e : i = j
  · subst e; rw [if_pos rfl, if_pos (by omega)]
  · rw [if_neg e]
    by_cases h : i < j
    · rw [if_pos h, if_pos (by omega)]
    · rw [if_neg h, if_neg (by omega)]
theorem results_3p {tmps : Array Value} {w : World} {B : Nat} {Q : Nat → Pn} {e : Int} {fn : Func} {s r : Nat} (hf : fn.results = #[.cell s 66, .tmp r]) (h4 : tmps.getD s undef = .pointer (some ⟨B, 0, none⟩)) (h5 : tmps.getD r undef = .int .i64 e)
    (kV : w.heap[B]? = some (.cells (f3 Q).toArray 66 (0, 0))) : (results fn tmps).run Tryd.prog w = .ok (.tuple #[.agg (f3 Q).toArray, .int .i64 e]) w := by
  have h4' : tmps[s]?.getD undef = .pointer (some ⟨B, 0, none⟩) := by simpa using h4
  have h5' : tmps[r]?.getD undef = .int .i64 e := by simpa using h5
  have hv := run_loadVar_row (P := Tryd.prog) w B 66 66 (f3 Q).toArray (0, 0) _ kV und3 rfl (size3' Q)
  simp [results, hf, h4', h5', asAddr, hv]
attribute [local go_sem] zvP zv3
attribute [local go_sem] zc3
set_option maxRecDepth 100000 in
set_option maxHeartbeats 2000000 in
theorem parts_any (D : Nat → Int) (w : World) (hD : Bytes D) :
    Calls Tryd.prog 30 #[.agg (bl D).toArray] w fun e w' => e = .returned (.tuple #[.agg (f3 (paV D)).toArray, .int .i64 (paE D)]) ∧ Below w.heap.size w w' := by
  obtain ⟨W, hW, hB0, hr0, hx0, hy0, hs0⟩ : ∃ W, W = ((w.alloc (.cells (bl D).toArray 22)).alloc (.cells (f3 zP).toArray 66)).alloc (.cells (f3 zP).toArray 66) ∧ Below w.heap.size w W ∧ Row W w.heap.size 0 128 D ∧ W.heap[w.heap.size + 1]? = some (.cells (f3 zP).toArray 66 (0, 0)) ∧ R3 W (w.heap.size + 2) zP ∧ W.heap.size = w.heap.size + 3 := by
    refine ⟨_, rfl, (((Below.refl _ _).alloc (Nat.le_refl _) _).alloc (by simp) _).alloc (by simp; omega) _, row_of (t := 22) ((Below.heap_alloc _ _ _ (by simp; omega)).trans ((Below.heap_alloc _ _ _ (by simp)).trans (heap_alloc_new w _))), (Below.heap_alloc _ _ _ (by simp)).trans ?_, R3.new (t := 66) ?_, by simp⟩
    · have := heap_alloc_new (w.alloc (.cells (bl D).toArray 22)) (.cells (f3 zP).toArray 66)
      rwa [World.size_alloc] at this
    · have := heap_alloc_new ((w.alloc (.cells (bl D).toArray 22)).alloc (.cells (f3 zP).toArray 66)) (.cells (f3 zP).toArray 66)
      rwa [World.size_alloc, World.size_alloc] at this
  have HTK := Lib.hid (fun (wr : World) (j : Nat) (hj : j < 3) (hb : Row wr w.heap.size 0 128 D) => take_any wr 0 (some ⟨w.heap.size, 0, none⟩) 128 128 D (40 * (j : Int)) ⟨Nat.le_refl _, (fun e => by cases e), .inr ⟨_, rfl, Nat.zero_le _, hb⟩⟩ hD (by omega))
  have HYES := Lib.hid (fun j (hj : j < 3) (h : rightB (tI D j) = true) => tk_yes hj h)
  have HNO := Lib.hid (fun j (hj : j < 3) (h : rightB (tI D j) = false) => tk_no hj h)
  have HPN := Lib.hid (fun (h : ¬ paOk D) => pa_no h)
  have HPY := Lib.hid (fun (h : paOk D) => pa_yes h)
  have HZ := Lib.hid (fun (wr : World) (hb : Row wr w.heap.size 0 128 D) => Wd.zero_any (some ⟨w.heap.size, 120, none⟩) 8 8 (fun i => D (120 + i)) wr ⟨Nat.le_refl _, (fun e => by cases e), .inr ⟨_, _, rfl, fun i hi => by have := hb.cell (j := 120 + i) (by omega); rwa [Nat.zero_add] at this⟩⟩ (by omega))
  rw [show Wd.zeroB (fun i => D (120 + i)) 8 = zt D from rfl] at HZ
  clear hD
  go_enter Tryd.func30, Tryd.ntmps30
  go_wp2_with fail
  rw [← hW]
  clear hW
  have HI : Hid (Below w.heap.size w W ∧ Row W w.heap.size 0 128 D ∧ W.heap[w.heap.size + 1]? = some (.cells (f3 zP).toArray 66 (0, 0)) ∧ R3 W (w.heap.size + 2) (pj D 0) ∧ ∀ i, i < 0 → rightB (tI D i) = true) := Lib.hid ⟨hB0, hr0, hx0, by rw [pj_zero]; exact hy0, fun i hi => by omega⟩
  clear hB0 hr0 hx0 hy0
  go_loopw [8] (fun i wr => ∃ j : Nat, j ≤ 3 ∧ i = .int .i64 j ∧ Hid (Below w.heap.size w wr ∧ Row wr w.heap.size 0 128 D ∧ wr.heap[w.heap.size + 1]? = some (.cells (f3 zP).toArray 66 (0, 0)) ∧ R3 wr (w.heap.size + 2) (pj D j) ∧ ∀ i, i < j → rightB (tI D i) = true)) (fun i _ => 3 - (intOf i).toNat)
  case atStart => exact ⟨0, by omega, rfl, HI⟩
  case round =>
    clear HI
    obtain ⟨j, hj, rfl, hR⟩ := hrel
    obtain ⟨hB, hr, hx, hy, hok⟩ := hR.out
    by_cases hj2 : j < 3
    · have hj0 : (0 : Int) ≤ (j : Int) := by omega
      have HT := HTK.out wr j hj2 hr
      have HOK := Lib.hid hok
      have HY := Lib.hid hy
      have hyl := hy.lt
      clear hok hR hy
      cases hrj : rightB (tI D j) with
      | false =>
        have hno := HNO.out j hj2 hrj
        rw [hno.1, hno.2] at HT
        have hnp : ¬ paOk D := fun h => by have := h.1 j hj2; rw [hrj] at this; cases this
        have HP := Lib.hid (HPN.out hnp)
        have HT' := Lib.hid HT
        clear HT hno hrj HYES HNO HTK HPN HPY HZ hnp HOK HY
        go_wp2_with fail
        refine HT'.out.mono ?_
        rintro _ w1 ⟨rfl, hb1⟩
        have hx1 := (hb1.block (w.heap.size + 1) (by omega)).trans hx
        have hB1 := hB.trans (hb1.mono hB.size)
        have hb2 : Below w1.heap.size w1 (w1.alloc (.cells (pV pz).toArray 65)) := (Below.refl _ _).alloc (Nat.le_refl _) _
        have hx2 := (hb2.block (w.heap.size + 1) (by have := hb1.size; omega)).trans hx1
        have hB2 := hB1.trans (hb2.mono hB1.size)
        clear hx hB hr hb1 hx1 HT'
        dsimp only
        go_wp2_with (first
          | (refine @wpList_store_row _ _ _ _ _ _ _ rfl 65 (.tmp 6) (.tmp 16) rfl w1.heap.size (pV pz).toArray rfl rfl 65 _ (heap_alloc_new w1 _) (sizeP' _) rfl (pV_all _) ?_; rw [World.setRow_alloc_new]; simp only [Act.put])
          | (refine @wpList_buildG _ _ _ _ _ _ _ (by kernel_rfl) 66 #[] rfl (f3 zP).toArray (by kernel_rfl) ?_; simp only [Act.put, List.setIfInBounds_toArray, List.set_cons_succ, List.set_cons_zero])
          | (refine @wpList_store_row _ _ _ _ _ _ _ rfl 66 (.tmp 2) (.tmp 20) rfl (w.heap.size + 1) (f3 zP).toArray rfl rfl 66 _ hx2 (size3' _) rfl (f3_all _) ?_; simp only [Act.put]))
        have hr9 := setRow_heap _ (w.heap.size + 1) _ (f3 zP).toArray 66 (0, 0) hx2
        refine bodyPost_ret (results_3p rfl rfl rfl hr9) rfl ?_
        exact ⟨by rw [HP.out.1, HP.out.2], hB2.trans ⟨rfl, rfl, rfl, by simp, fun k hk => setRow_other _ _ k _ (by omega)⟩⟩
      | true =>
        have hyes := HYES.out j hj2 hrj
        rw [hyes.1, hyes.2] at HT
        have HOK2 : Hid (∀ i, i < j + 1 → rightB (tI D i) = true) := Lib.hid (fun i hi => by
          by_cases e : i = j
          · subst e; exact hrj
          · exact HOK.out i (by omega))
        have HPJ := Lib.hid (pj_next D j)
        have HT' := Lib.hid HT
        clear HT hyes hrj HOK
        generalize tI D j = p at HT' HPJ
        go_wp2_with fail
        refine HT'.out.mono ?_
        rintro _ w1 ⟨rfl, hb1⟩
        have hs1 := hb1.size
        have hB1 := hB.trans (hb1.mono hB.size)
        have hb2 : Below w1.heap.size w1 (w1.alloc (.cells (pV p).toArray 65)) := (Below.refl _ _).alloc (Nat.le_refl _) _
        have hp2 : (w1.alloc (.cells (pV p).toArray 65)).heap[w1.heap.size]? = some (.cells (pV p).toArray 65 (0, 0)) := heap_alloc_new _ _
        have hx2 := (hb2.block (w.heap.size + 1) (by omega)).trans ((hb1.block (w.heap.size + 1) (by omega)).trans hx)
        have hr2 := (hr.block (hb1.block w.heap.size (by omega))).block (hb2.block w.heap.size (by omega))
        have hy2 := (HY.out.keep (hb1.block (w.heap.size + 2) hyl)).keep (hb2.block (w.heap.size + 2) (by omega))
        have hB2 := hB1.trans (hb2.mono hB1.size)
        have HN : Hid (Below w.heap.size w ((w1.alloc (.cells (pV p).toArray 65)).setCells (w.heap.size + 2) (34 * j) (pV p)) ∧ Row ((w1.alloc (.cells (pV p).toArray 65)).setCells (w.heap.size + 2) (34 * j) (pV p)) w.heap.size 0 128 D ∧ ((w1.alloc (.cells (pV p).toArray 65)).setCells (w.heap.size + 2) (34 * j) (pV p)).heap[w.heap.size + 1]? = some (.cells (f3 zP).toArray 66 (0, 0)) ∧ R3 ((w1.alloc (.cells (pV p).toArray 65)).setCells (w.heap.size + 2) (34 * j) (pV p)) (w.heap.size + 2) (pj D (j + 1)) ∧ ∀ i, i < j + 1 → rightB (tI D i) = true) := Lib.hid ⟨below_cells (by omega) _ _ hB2, hr2.block (other_cells (by omega) _ _ _), (other_cells (by omega) _ _ _).trans hx2, by rw [← HPJ.out]; exact hy2.store hj2 p, HOK2.out⟩
        have hth := hy2.at hj2
        clear hx hB hr hb1 hx2 hr2 hb2 hB2 hB1 HT' HY hy2 HOK2 HPJ
        dsimp only
        go_wp2_with (first
          | (refine @wpList_store_row _ _ _ _ _ _ _ rfl 65 (.tmp 6) (.tmp 16) rfl w1.heap.size (pV p).toArray rfl rfl 65 _ (heap_alloc_new w1 _) (sizeP' _) rfl (pV_all _) ?_; rw [World.setRow_alloc_new]; simp only [Act.put])
          | (refine @wpList_loadG _ _ _ _ _ _ _ (by kernel_rfl) 65 (.tmp 6) rfl w1.heap.size 0 rfl (pV p) _ (row_pt hp2) undP rfl (sizeP _) ?_; simp only [Act.put, List.setIfInBounds_toArray, List.set_cons_succ, List.set_cons_zero])
          | (refine @wpList_store_mid _ _ _ _ _ _ _ (by rfl) 65 (.tmp 24) (.tmp 23) (by rfl) (w.heap.size + 2) (j * 34) (pV p).toArray (by rfl) (by rfl) (by rw [pV_asize, Nat.mul_comm]; exact hth) (sizeP' _) (pV_all _) ?_; rw [Nat.mul_comm j 34]; simp only [Act.put]; generalize (w1.alloc (.cells (pV p).toArray 65)).setCells (w.heap.size + 2) (34 * j) (pV p) = w5 at HN ⊢))
        clear hth hp2
        go_roundw
        case rel => exact ⟨j + 1, by omega, by go_num, HN⟩
        case measure => simp [intOf]; omega
    · obtain rfl : j = 3 := by omega
      have HZW := HZ.out wr hr
      have HY := Lib.hid hy
      have HOK := Lib.hid hok
      have hy3 : f3 (pj D 3) = f3 (tI D) := f3_congr fun i hi => by unfold pj; rw [if_pos hi]
      have hrg := hy.all
      rw [hy3] at hrg
      clear hok hR hy hy3 HY HYES HNO HTK HZ hr
      cases hz : zt D with
      | false =>
        rw [hz] at HZW
        have hnp : ¬ paOk D := fun h => by have := h.2; rw [hz] at this; cases this
        have HP := Lib.hid (HPN.out hnp)
        have HZ' := Lib.hid HZW
        clear HZW hz hnp HPN HPY HOK hrg
        go_wp2_with fail
        refine HZ'.out.mono ?_
        rintro _ w1 ⟨rfl, rfl⟩
        clear HZ'
        dsimp only
        go_wp2_with (first
          | (refine @wpList_buildG _ _ _ _ _ _ _ (by kernel_rfl) 66 #[] rfl (f3 zP).toArray (by kernel_rfl) ?_; simp only [Act.put, List.setIfInBounds_toArray, List.set_cons_succ, List.set_cons_zero])
          | (refine @wpList_store_row _ _ _ _ _ _ _ rfl 66 (.tmp 2) (.tmp 29) rfl (w.heap.size + 1) (f3 zP).toArray rfl rfl 66 _ hx (size3' _) rfl (f3_all _) ?_; simp only [Act.put]))
        have hr9 := setRow_heap _ (w.heap.size + 1) _ (f3 zP).toArray 66 (0, 0) hx
        refine bodyPost_ret (results_3p rfl rfl rfl hr9) rfl ?_
        exact ⟨by rw [HP.out.1, HP.out.2], hB.trans ⟨rfl, rfl, rfl, by simp, fun k hk => setRow_other _ _ k _ (by omega)⟩⟩
      | true =>
        rw [hz] at HZW
        have HP := Lib.hid (HPY.out ⟨HOK.out, hz⟩)
        have HZ' := Lib.hid HZW
        clear HZW hz HPN HPY HOK
        go_wp2_with fail
        refine HZ'.out.mono ?_
        rintro _ w1 ⟨rfl, rfl⟩
        clear HZ'
        dsimp only
        go_wp2_with (first
          | (refine @wpList_loadG _ _ _ _ _ _ _ (by kernel_rfl) 66 (.tmp 4) rfl (w.heap.size + 2) 0 rfl (f3 (tI D)) _ hrg und3 rfl (size3 _) ?_; simp only [Act.put, List.setIfInBounds_toArray, List.set_cons_succ, List.set_cons_zero])
          | (refine @wpList_store_row _ _ _ _ _ _ _ rfl 66 (.tmp 2) (.tmp 30) rfl (w.heap.size + 1) (f3 (tI D)).toArray rfl rfl 66 _ hx (size3' _) (by rw [List.size_toArray, List.size_toArray, f3_length, f3_length]) (f3_all _) ?_; simp only [Act.put]))
        have hr9 := setRow_heap _ (w.heap.size + 1) _ (f3 (tI D)).toArray 66 (0, 0) hx
        refine bodyPost_ret (results_3p rfl rfl rfl hr9) rfl ?_
        exact ⟨by rw [HP.out.1, HP.out.2], hB.trans ⟨rfl, rfl, rfl, by simp, fun k hk => setRow_other _ _ k _ (by omega)⟩⟩

end Pt
end Go.Proofs.YtllejfnmbpjhaaaDoor
