/- ptr: the reference's Take (made by tools/gen_preft.py). -/
import Derived.Test.YtnmljjehkdbbjaaPtTake
import Derived.Test.YtnmljjehkdbbjaaPtRefPut
namespace Go.Proofs.Ytnmljjehkdbbjaa
set_option maxRecDepth 20000
namespace Pt
open Go.RowKit Dk Eqb Byt

theorem pV_congr {p q : Pn} (h1 : p.A = q.A) (h2 : p.B = q.B) (h3 : ∀ i, i < 32 → p.S i = q.S i) : pV p = pV q := by
  unfold pV
  rw [h1, h2]
  congr 2
  exact List.map_congr_left fun i hi => by rw [h3 i (by simpa using hi)]
def SS (f : Nat → Int) (a j i : Nat) : Int := if i < j then f (a + i) else 0
theorem SS_zero (f : Nat → Int) (a : Nat) : SS f a 0 = zS := by funext i; unfold SS zS; rw [if_neg (by omega)]
theorem pV_set (A B : Int) (f : Nat → Int) (a : Nat) {j : Nat} (hj : j < 32) : (pV ⟨A, B, SS f a j⟩).toArray.setIfInBounds (2 + j) (.int .u8 (f (a + j))) = (pV ⟨A, B, SS f a (j + 1)⟩).toArray := by
  apply Array.ext_getElem?
  intro i
  rw [Array.getElem?_setIfInBounds]
  by_cases e : 2 + j = i
  · subst e
    rw [if_pos rfl, if_pos (by simp [pV_length]; omega)]
    have := pV_sum ⟨A, B, SS f a (j + 1)⟩ hj
    simp only [List.getElem?_toArray]
    rw [this]
    simp [SS]
  · rw [if_neg e]
    simp only [List.getElem?_toArray]
    match i with
    | 0 => rfl
    | 1 => rfl
    | i + 2 =>
      by_cases hi : i < 32
      · have h1 := pV_sum ⟨A, B, SS f a j⟩ hi
        have h2 := pV_sum ⟨A, B, SS f a (j + 1)⟩ hi
        rw [show i + 2 = 2 + i by omega, h1, h2]
        simp only [SS]
        by_cases h : i < j
        · rw [if_pos h, if_pos (by omega)]
        · rw [if_neg h, if_neg (by omega)]
      · rw [List.getElem?_eq_none (by rw [pV_length]; omega), List.getElem?_eq_none (by rw [pV_length]; omega)]
/-- the first j of two numbers -/
def PV (TA TB : Int) (j : Nat) : Array Value := #[.int .i64 (if 0 < j then TA else 0), .int .i64 (if 1 < j then TB else 0)]
attribute [local go_sem] zvP
set_option maxRecDepth 100000 in
set_option maxHeartbeats 2000000 in
theorem reftake_any (w : World) (B : Nat) (ao : Option Addr) (n cap : Nat) (f : Nat → Int) (a : Int) (h : Wd.Own w B ao n cap f) (hf : ∀ i, i < n → 0 ≤ f i ∧ f i < 256) (hn : n ≤ 140737488355328) (ha0 : -9223372036854775808 ≤ a) (ha1 : a ≤ 9223372036854775807) :
    Calls Try.prog 27 #[.slice ao n cap, .int .i64 a] w fun e w' => e = .returned (.tuple #[.agg (pV (tkV n a f)).toArray, .int .i64 (tkE n a f)]) ∧ Below w.heap.size w w' := by
  obtain ⟨W, hW, hb0, hx0, hs0⟩ : ∃ W, W = w.alloc (.cells (pV pz).toArray 24) ∧ Below w.heap.size w W ∧ W.heap[w.heap.size]? = some (.cells (pV pz).toArray 24 (0, 0)) ∧ W.heap.size = w.heap.size + 1 := ⟨_, rfl, box_pt w pz⟩
  have HV : Hid (tkV n a f = if withinB n a = true then if rightB (tkP n a f) = true then tkP n a f else pz else pz) := Lib.hid rfl
  have HE : Hid (tkE n a f = if withinB n a = true then if rightB (tkP n a f) = true then 0 else 15 else 1) := Lib.hid rfl
  generalize tkV n a f = V at HV ⊢
  generalize tkE n a f = E at HE ⊢
  by_cases h0 : a < 0
  · skip
    have hw : withinB n a = false := by cases e : withinB n a with
      | false => rfl
      | true => have := within_iff.1 e; omega
    rw [hw] at HV HE
    clear hw hf h
    go_enter Try.func27, Try.ntmps27
    subst hW
    go_wp2_with (first
      | (refine @wpList_buildG _ _ _ _ _ _ _ (by kernel_rfl) 24 #[] rfl (pV pz).toArray (by kernel_rfl) ?_; simp only [Act.put, List.setIfInBounds_toArray, List.set_cons_succ, List.set_cons_zero])
      | (refine @wpList_store_row _ _ _ _ _ _ _ rfl 24 (.tmp 4) (.tmp 25) rfl w.heap.size (pV pz).toArray rfl rfl 24 _ hx0 (sizeP' _) rfl (pV_all _) ?_; simp only [Act.put]))
    have hr9 := setRow_heap (w.alloc (.cells (pV pz).toArray 24)) w.heap.size _ (pV pz).toArray 24 (0, 0) hx0
    refine bodyPost_ret (results_2p rfl rfl rfl hr9) rfl ?_
    exact ⟨by rw [HV.out, HE.out]; rfl, hb0.trans ⟨rfl, rfl, rfl, by simp, fun k hk => setRow_other _ _ k _ (by omega)⟩⟩
  by_cases h1 : (n : Int) < a
  · skip
    have hw : withinB n a = false := by cases e : withinB n a with
      | false => rfl
      | true => have := within_iff.1 e; omega
    rw [hw] at HV HE
    clear hw hf h
    go_enter Try.func27, Try.ntmps27
    subst hW
    go_wp2_with (first
      | (refine @wpList_buildG _ _ _ _ _ _ _ (by kernel_rfl) 24 #[] rfl (pV pz).toArray (by kernel_rfl) ?_; simp only [Act.put, List.setIfInBounds_toArray, List.set_cons_succ, List.set_cons_zero])
      | (refine @wpList_store_row _ _ _ _ _ _ _ rfl 24 (.tmp 4) (.tmp 25) rfl w.heap.size (pV pz).toArray rfl rfl 24 _ hx0 (sizeP' _) rfl (pV_all _) ?_; simp only [Act.put]))
    have hr9 := setRow_heap (w.alloc (.cells (pV pz).toArray 24)) w.heap.size _ (pV pz).toArray 24 (0, 0) hx0
    refine bodyPost_ret (results_2p rfl rfl rfl hr9) rfl ?_
    exact ⟨by rw [HV.out, HE.out]; rfl, hb0.trans ⟨rfl, rfl, rfl, by simp, fun k hk => setRow_other _ _ k _ (by omega)⟩⟩
  by_cases h2 : (n : Int) - a < 40
  · skip
    have hw : withinB n a = false := by cases e : withinB n a with
      | false => rfl
      | true => have := within_iff.1 e; omega
    rw [hw] at HV HE
    clear hw hf h
    go_enter Try.func27, Try.ntmps27
    subst hW
    go_wp2_with (first
      | (refine @wpList_buildG _ _ _ _ _ _ _ (by kernel_rfl) 24 #[] rfl (pV pz).toArray (by kernel_rfl) ?_; simp only [Act.put, List.setIfInBounds_toArray, List.set_cons_succ, List.set_cons_zero])
      | (refine @wpList_store_row _ _ _ _ _ _ _ rfl 24 (.tmp 4) (.tmp 25) rfl w.heap.size (pV pz).toArray rfl rfl 24 _ hx0 (sizeP' _) rfl (pV_all _) ?_; simp only [Act.put]))
    have hr9 := setRow_heap (w.alloc (.cells (pV pz).toArray 24)) w.heap.size _ (pV pz).toArray 24 (0, 0) hx0
    refine bodyPost_ret (results_2p rfl rfl rfl hr9) rfl ?_
    exact ⟨by rw [HV.out, HE.out]; rfl, hb0.trans ⟨rfl, rfl, rfl, by simp, fun k hk => setRow_other _ _ k _ (by omega)⟩⟩
  have hw : withinB n a = true := within_iff.2 (by omega)
  obtain ⟨a', rfl⟩ : ∃ m : Nat, a = m := ⟨a.toNat, by omega⟩
  rw [hw] at HV HE
  rw [if_pos rfl] at HV HE
  obtain ⟨g, rfl, hBg, hrow⟩ := h.row.resolve_left (by rintro ⟨_, h0⟩; omega)
  have hgl := hrow.lt
  have hcap := h.room
  have HRD := Lib.hid (fun w' (hb : Below w.heap.size w w') => (h.below hb).reads)
  have HRW := Lib.hid (fun w' (hb : Below w.heap.size w w') => hrow.block (hb.block g hgl))
  have HF := Lib.hid hf
  have hT : Hid (tkP n a' f = ⟨sideT n a' f, sideT n ((a' : Int) + 4) f, fun i => f (a' + 8 + i)⟩) := Lib.hid rfl
  have HA := Lib.hid (fun w' (hb : Below w.heap.size w w') => Wd.reftake_any w' (some ⟨g, 0, none⟩) n cap f a' 4 (HRD.out w' hb) HF.out hn)
  have HB := Lib.hid (fun w' (hb : Below w.heap.size w w') => Wd.reftake_any w' (some ⟨g, 0, none⟩) n cap f ((a' : Int) + 4) 4 (HRD.out w' hb) HF.out hn)
  have HSA := fun z hz => Lib.hid ((⟨sideT_none hz, sideT_other hz⟩ : (z = 4294967295 → sideT n a' f = -1) ∧ (z ≠ 4294967295 → sideT n a' f = z)))
  have HSB := fun z hz => Lib.hid ((⟨sideT_none hz, sideT_other hz⟩ : (z = 4294967295 → sideT n ((a' : Int) + 4) f = -1) ∧ (z ≠ 4294967295 → sideT n ((a' : Int) + 4) f = z)))
  replace HSA := HSA _ rfl
  replace HSB := HSB _ rfl
  generalize Wd.takeN n a' 4 f = zA at *
  generalize Wd.takeN n ((a' : Int) + 4) 4 f = zB at *
  generalize Wd.takeE n a' 4 f = eA at *
  generalize Wd.takeE n ((a' : Int) + 4) 4 f = eB at *
  generalize sideT n a' f = TA at *
  generalize sideT n ((a' : Int) + 4) f = TB at *
  clear hw hf h hrow HRD
  go_enter Try.func27, Try.ntmps27
  go_wp2_with fail
  rw [zrow, ← hW]
  clear hW
  have hb2 : Below W.heap.size W (W.alloc (.cells #[.int .i64 0, .int .i64 0] 65)) := (Below.refl _ _).alloc (Nat.le_refl _) _
  have hT2 : (W.alloc (.cells #[.int .i64 0, .int .i64 0] 65)).heap[W.heap.size]? = some (.cells #[.int .i64 0, .int .i64 0] 65 (0, 0)) := heap_alloc_new _ _
  have hs2 : (W.alloc (.cells #[.int .i64 0, .int .i64 0] 65)).heap.size = W.heap.size + 1 := by simp
  generalize W.alloc (.cells #[.int .i64 0, .int .i64 0] 65) = W2 at hb2 hT2 hs2 ⊢
  have hx2 := (hb2.block w.heap.size (by omega)).trans hx0
  have hB2 := hb0.trans (hb2.mono (by omega))
  rw [hs0] at hT2 hs2
  have HI : Hid (Below w.heap.size w W2 ∧ W2.heap[w.heap.size]? = some (.cells (pV pz).toArray 24 (0, 0)) ∧ W2.heap[w.heap.size + 1]? = some (.cells (PV TA TB 0) 65 (0, 0)) ∧ w.heap.size + 1 < W2.heap.size) := Lib.hid ⟨hB2, hx2, hT2, by omega⟩
  clear hb2 hT2 hx2 hB2 hx0 hb0
  go_loopw [7] (fun i wr => ∃ j : Nat, j ≤ 2 ∧ i = .int .i64 j ∧ Hid (Below w.heap.size w wr ∧ wr.heap[w.heap.size]? = some (.cells (pV pz).toArray 24 (0, 0)) ∧ wr.heap[w.heap.size + 1]? = some (.cells (PV TA TB j) 65 (0, 0)) ∧ w.heap.size + 1 < wr.heap.size)) (fun i _ => 2 - (intOf i).toNat)
  case atStart => exact ⟨0, by omega, rfl, HI⟩
  case round =>
    clear HI
    obtain ⟨j, hj, rfl, hR⟩ := hrel
    obtain ⟨hB, hx, hT1, hlt⟩ := hR.out
    by_cases hj2 : j < 2
    · have hjj : j = 0 ∨ j = 1 := by omega
      clear hR hj hj2
      rcases hjj with rfl | rfl
      · have c0 : wr.cell? ⟨w.heap.size + 1, 0, none⟩ = some (.int .i64 0) := by rw [cell_of_row _ _ _ _ _ _ hT1]; rfl
        have f0 : wr.frozen? ⟨w.heap.size + 1, 0, none⟩ = false := frozen_of_row wr _ _ _ _ hT1
        have HX := Lib.hid (fun v => show Below w.heap.size w (wr.setCell ⟨w.heap.size + 1, 0, none⟩ v) ∧ (wr.setCell ⟨w.heap.size + 1, 0, none⟩ v).heap[w.heap.size]? = some (.cells (pV pz).toArray 24 (0, 0)) ∧ (wr.setCell ⟨w.heap.size + 1, 0, none⟩ v).heap[w.heap.size + 1]? = some (.cells ((PV TA TB 0).setIfInBounds 0 v) 65 (0, 0)) ∧ w.heap.size + 1 < (wr.setCell ⟨w.heap.size + 1, 0, none⟩ v).heap.size from ⟨hB.setCell (show w.heap.size ≤ w.heap.size + 1 by omega) _, (Below.heap_setCell _ _ _ _ (show w.heap.size ≠ w.heap.size + 1 by omega)).trans hx, heap_setCell_same wr (w.heap.size + 1) 0 _ _ _ hT1, by simpa using hlt⟩)
        have HB0 := Lib.hid hB
        clear hT1 hB hx
        by_cases hz : zA = 4294967295
        · have HS := Lib.hid (HSA.out.1 hz)
          have hz' : (zA == 4294967295) = true := by simpa using hz
          clear hz
          go_wp2_with fail
          refine (HA.out wr HB0.out).mono ?_
          rintro _ w4 ⟨rfl, rfl⟩
          dsimp only
          go_wp2_with fail
          obtain ⟨h1', h2', h3', h4'⟩ := HX.out (.int .i64 zA)
          have e5 : (((PV TA TB 0).setIfInBounds 0 (.int .i64 zA)).setIfInBounds 0 (.int .i64 (-1))) = PV TA TB 1 := by simp [PV, HS.out]
          have h5 := heap_setCell_same _ (w.heap.size + 1) 0 _ _ (.int .i64 (-1)) h3'
          rw [e5] at h5
          exact ⟨⟨1, by omega, rfl, Lib.hid ⟨h1'.setCell (show w.heap.size ≤ w.heap.size + 1 by omega) _, (Below.heap_setCell _ _ _ _ (show w.heap.size ≠ w.heap.size + 1 by omega)).trans h2', h5, by simpa using h4'⟩⟩, by simp [intOf]⟩
        · have HS := Lib.hid (HSA.out.2 hz)
          have hz' : (zA == 4294967295) = false := by simpa using hz
          clear hz
          go_wp2_with fail
          refine (HA.out wr HB0.out).mono ?_
          rintro _ w4 ⟨rfl, rfl⟩
          dsimp only
          go_wp2_with fail
          obtain ⟨h1', h2', h3', h4'⟩ := HX.out (.int .i64 zA)
          have e5 : ((PV TA TB 0).setIfInBounds 0 (.int .i64 zA)) = PV TA TB 1 := by simp [PV, HS.out]
          rw [e5] at h3'
          exact ⟨⟨1, by omega, rfl, Lib.hid ⟨h1', h2', h3', h4'⟩⟩, by simp [intOf]⟩
      · have c0 : wr.cell? ⟨w.heap.size + 1, 1, none⟩ = some (.int .i64 0) := by rw [cell_of_row _ _ _ _ _ _ hT1]; rfl
        have f0 : wr.frozen? ⟨w.heap.size + 1, 1, none⟩ = false := frozen_of_row wr _ _ _ _ hT1
        have HX := Lib.hid (fun v => show Below w.heap.size w (wr.setCell ⟨w.heap.size + 1, 1, none⟩ v) ∧ (wr.setCell ⟨w.heap.size + 1, 1, none⟩ v).heap[w.heap.size]? = some (.cells (pV pz).toArray 24 (0, 0)) ∧ (wr.setCell ⟨w.heap.size + 1, 1, none⟩ v).heap[w.heap.size + 1]? = some (.cells ((PV TA TB 1).setIfInBounds 1 v) 65 (0, 0)) ∧ w.heap.size + 1 < (wr.setCell ⟨w.heap.size + 1, 1, none⟩ v).heap.size from ⟨hB.setCell (show w.heap.size ≤ w.heap.size + 1 by omega) _, (Below.heap_setCell _ _ _ _ (show w.heap.size ≠ w.heap.size + 1 by omega)).trans hx, heap_setCell_same wr (w.heap.size + 1) 1 _ _ _ hT1, by simpa using hlt⟩)
        have HB0 := Lib.hid hB
        clear hT1 hB hx
        by_cases hz : zB = 4294967295
        · have HS := Lib.hid (HSB.out.1 hz)
          have hz' : (zB == 4294967295) = true := by simpa using hz
          clear hz
          go_wp2_with fail
          refine (HB.out wr HB0.out).mono ?_
          rintro _ w4 ⟨rfl, rfl⟩
          dsimp only
          go_wp2_with fail
          obtain ⟨h1', h2', h3', h4'⟩ := HX.out (.int .i64 zB)
          have e5 : (((PV TA TB 1).setIfInBounds 1 (.int .i64 zB)).setIfInBounds 1 (.int .i64 (-1))) = PV TA TB 2 := by simp [PV, HS.out]
          have h5 := heap_setCell_same _ (w.heap.size + 1) 1 _ _ (.int .i64 (-1)) h3'
          rw [e5] at h5
          exact ⟨⟨2, by omega, rfl, Lib.hid ⟨h1'.setCell (show w.heap.size ≤ w.heap.size + 1 by omega) _, (Below.heap_setCell _ _ _ _ (show w.heap.size ≠ w.heap.size + 1 by omega)).trans h2', h5, by simpa using h4'⟩⟩, by simp [intOf]⟩
        · have HS := Lib.hid (HSB.out.2 hz)
          have hz' : (zB == 4294967295) = false := by simpa using hz
          clear hz
          go_wp2_with fail
          refine (HB.out wr HB0.out).mono ?_
          rintro _ w4 ⟨rfl, rfl⟩
          dsimp only
          go_wp2_with fail
          obtain ⟨h1', h2', h3', h4'⟩ := HX.out (.int .i64 zB)
          have e5 : ((PV TA TB 1).setIfInBounds 1 (.int .i64 zB)) = PV TA TB 2 := by simp [PV, HS.out]
          rw [e5] at h3'
          exact ⟨⟨2, by omega, rfl, Lib.hid ⟨h1', h2', h3', h4'⟩⟩, by simp [intOf]⟩
    · obtain rfl : j = 2 := by omega
      have c0 : wr.cell? ⟨w.heap.size + 1, 0, none⟩ = some (.int .i64 TA) := by rw [cell_of_row _ _ _ _ _ _ hT1]; rfl
      have c1 : wr.cell? ⟨w.heap.size + 1, 1, none⟩ = some (.int .i64 TB) := by rw [cell_of_row _ _ _ _ _ _ hT1]; rfl
      have HB0 := Lib.hid hB
      have HX0 := Lib.hid hx
      clear hR hB hx hT1 HA HB HSA HSB
      go_wp2_with (first
        | (refine @wpList_buildG _ _ _ _ _ _ _ (by kernel_rfl) 24 #[(0, .tmp 48), (1, .tmp 50)] rfl (pV ⟨TA, TB, zS⟩).toArray (by kernel_rfl) ?_; simp only [Act.put, List.setIfInBounds_toArray, List.set_cons_succ, List.set_cons_zero])
        | (refine @wpList_store_row _ _ _ _ _ _ _ rfl 24 (.tmp 8) (.tmp 51) rfl wr.heap.size (pV ⟨TA, TB, zS⟩).toArray rfl rfl 24 _ (heap_alloc_new wr _) (sizeP' _) rfl (pV_all _) ?_; rw [World.setRow_alloc_new]; simp only [Act.put]))
      have hb3 : Below wr.heap.size wr (wr.alloc (.cells (pV ⟨TA, TB, zS⟩).toArray 24)) := (Below.refl _ _).alloc (Nat.le_refl _) _
      have hp3 : (wr.alloc (.cells (pV ⟨TA, TB, zS⟩).toArray 24)).heap[wr.heap.size]? = some (.cells (pV ⟨TA, TB, zS⟩).toArray 24 (0, 0)) := heap_alloc_new _ _
      generalize wr.alloc (.cells (pV ⟨TA, TB, zS⟩).toArray 24) = W3 at hb3 hp3 ⊢
      generalize hbp : wr.heap.size = bp at hb3 hp3 hlt ⊢
      have hbq : w.heap.size < bp := by omega
      have HI : Hid (Below w.heap.size w W3 ∧ W3.heap[w.heap.size]? = some (.cells (pV pz).toArray 24 (0, 0)) ∧ W3.heap[bp]? = some (.cells (pV ⟨TA, TB, SS f (a' + 8) 0⟩).toArray 24 (0, 0))) := Lib.hid ⟨HB0.out.trans (hb3.mono (by omega)), (hb3.block _ (by omega)).trans HX0.out, by rw [SS_zero]; exact hp3⟩
      clear hb3 hp3 hbp c0 c1 HB0 HX0 hlt
      go_loopw [9] (fun i wr => ∃ j : Nat, j ≤ 32 ∧ i = .int .i64 j ∧ Hid (Below w.heap.size w wr ∧ wr.heap[w.heap.size]? = some (.cells (pV pz).toArray 24 (0, 0)) ∧ wr.heap[bp]? = some (.cells (pV ⟨TA, TB, SS f (a' + 8) j⟩).toArray 24 (0, 0)))) (fun i _ => 32 - (intOf i).toNat)
      case atStart => exact ⟨0, by omega, rfl, HI⟩
      case round =>
        clear HI
        obtain ⟨j, hj, rfl, hR⟩ := hrel
        obtain ⟨hB, hx, hp⟩ := hR.out
        by_cases hj2 : j < 32
        · have hrw := (HRW.out wr hB).cell (j := a' + 8 + j) (by omega)
          rw [Nat.zero_add] at hrw
          have hcp := cS_pt hp hj2
          have hfp : wr.frozen? ⟨bp, 2 + j, none⟩ = false := frozen_of_row wr _ _ _ _ hp
          have HN : Hid (Below w.heap.size w (wr.setCell ⟨bp, 2 + j, none⟩ (.int .u8 (f (a' + 8 + j)))) ∧ (wr.setCell ⟨bp, 2 + j, none⟩ (.int .u8 (f (a' + 8 + j)))).heap[w.heap.size]? = some (.cells (pV pz).toArray 24 (0, 0)) ∧ (wr.setCell ⟨bp, 2 + j, none⟩ (.int .u8 (f (a' + 8 + j)))).heap[bp]? = some (.cells (pV ⟨TA, TB, SS f (a' + 8) (j + 1)⟩).toArray 24 (0, 0))) := Lib.hid (by
            refine ⟨hB.setCell (show w.heap.size ≤ bp by omega) _, (Below.heap_setCell _ _ _ _ (show w.heap.size ≠ bp by omega)).trans hx, ?_⟩
            have := heap_setCell_same wr bp (2 + j) _ _ (.int .u8 (f (a' + 8 + j))) hp
            rwa [pV_set _ _ _ _ hj2] at this)
          have hj0 : (0 : Int) ≤ (j : Int) := by omega
          clear hR hB hx hp
          go_wp2_with fail
          generalize wr.setCell ⟨bp, 2 + j, none⟩ (.int .u8 (f (a' + 8 + j))) = w5 at HN ⊢
          clear hrw hcp hfp
          go_roundw
          case rel => exact ⟨j + 1, by omega, by go_num, HN⟩
          case measure => simp [intOf]; omega
        · obtain rfl : j = 32 := by omega
          have e32 : pV ⟨TA, TB, SS f (a' + 8) 32⟩ = pV (tkP n a' f) := by
            rw [hT.out]
            exact pV_congr rfl rfl (fun i hi => by show SS f (a' + 8) 32 i = f (a' + 8 + i); unfold SS; rw [if_pos hi])
          rw [e32] at hp
          have HRT := Lib.hid (fun W => refright_any (tkP n a' f) W)
          clear hR hT e32 HRW HF hj hj2
          generalize tkP n a' f = p at *
          generalize rightB p = r at *
          go_wp2_with (refine @wpList_loadG _ _ _ _ _ _ _ (by kernel_rfl) 24 (.tmp 8) rfl bp 0 rfl (pV p) _ (row_pt hp) undP rfl (sizeP p) ?_; simp only [Act.put, List.setIfInBounds_toArray, List.set_cons_succ, List.set_cons_zero])
          refine (HRT.out wr).mono ?_
          rintro _ w7 ⟨rfl, hb7⟩
          have hx7 := (hb7.block w.heap.size (Array.getElem?_eq_some_iff.1 hx).1).trans hx
          have hR7 := (hb7.block bp (Array.getElem?_eq_some_iff.1 hp).1).trans hp
          have hB7 := hB.trans (hb7.mono hB.size)
          clear hx hp hb7 HRT hB
          dsimp only
          cases r with
          | false =>
            go_wp2_with (first
              | (refine @wpList_buildG _ _ _ _ _ _ _ (by kernel_rfl) 24 #[] rfl (pV pz).toArray (by kernel_rfl) ?_; simp only [Act.put, List.setIfInBounds_toArray, List.set_cons_succ, List.set_cons_zero])
              | (refine @wpList_store_row _ _ _ _ _ _ _ rfl 24 (.tmp 4) (.tmp 69) rfl w.heap.size (pV pz).toArray rfl rfl 24 _ hx7 (sizeP' _) rfl (pV_all _) ?_; simp only [Act.put]))
            have hr9 := setRow_heap w7 w.heap.size _ (pV pz).toArray 24 (0, 0) hx7
            refine bodyPost_ret (results_2p rfl rfl rfl hr9) rfl ?_
            exact ⟨by rw [HV.out, HE.out]; rfl, hB7.trans ⟨rfl, rfl, rfl, by simp, fun k hk => setRow_other w7 _ k _ (by omega)⟩⟩
          | true =>
            go_wp2_with (first
              | (refine @wpList_loadG _ _ _ _ _ _ _ (by kernel_rfl) 24 (.tmp 8) rfl bp 0 rfl (pV p) _ (row_pt hR7) undP rfl (sizeP _) ?_; simp only [Act.put, List.setIfInBounds_toArray, List.set_cons_succ, List.set_cons_zero])
              | (refine @wpList_store_row _ _ _ _ _ _ _ rfl 24 (.tmp 4) (.tmp 70) rfl w.heap.size (pV p).toArray rfl rfl 24 _ hx7 (sizeP' _) rfl (pV_all _) ?_; simp only [Act.put]))
            have hr9 := setRow_heap w7 w.heap.size _ (pV p).toArray 24 (0, 0) hx7
            refine bodyPost_ret (results_2p rfl rfl rfl hr9) rfl ?_
            exact ⟨by rw [HV.out, HE.out]; rfl, hB7.trans ⟨rfl, rfl, rfl, by simp, fun k hk => setRow_other w7 _ k _ (by omega)⟩⟩
end Pt
end Go.Proofs.Ytnmljjehkdbbjaa
