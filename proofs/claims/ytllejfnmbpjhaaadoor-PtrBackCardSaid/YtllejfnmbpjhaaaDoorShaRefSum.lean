/- The reference's Sum. -/
import Derived.Test.YtllejfnmbpjhaaaDoorShaAlive
import Derived.Test.YtllejfnmbpjhaaaDoorShaRefPad
namespace Go.Proofs.YtllejfnmbpjhaaaDoor
set_option maxRecDepth 20000
namespace Sha
open Go.RowKit Go.Sort

/-- the world of the reference's Sum behind k blocks: h's box g, p's bytes, the result's box -/
structure RSumW (ys : List Int) (pb po g k : Nat) (w wr : World) : Prop where
  hbox : wr.heap[g]? = some (.cells (arr 8 (vu32 (stL kT ys s0 k).at)) 132 (0, 0))
  pc : ∀ i, i < ys.length → wr.cell? ⟨pb, po + i, none⟩ = some (.int .u8 (ys.getD i 0))
  plt : pb < g
  res : wr.heap[w.heap.size]? = some (.cells (arr 32 (vu8 fun _ => 0)) 63 (0, 0))
  below : Below w.heap.size w wr
  far : w.heap.size < g
  lt : g < wr.heap.size
theorem RSumW.later {ys : List Int} {pb po g k : Nat} {w wr wr' : World} (h : RSumW ys pb po g k w wr) (hb : Below wr.heap.size wr wr') : RSumW ys pb po g k w wr' := by
  have h1 := h.plt
  have h2 := h.far
  have h3 := h.lt
  exact ⟨(hb.block _ h3).trans h.hbox, fun i hi => (hb.cell (by simp only []; omega)).trans (h.pc i hi), h1, (hb.block _ (by omega)).trans h.res, h.below.trans (hb.mono (by omega)), h2, Nat.lt_of_lt_of_le h3 hb.size⟩
theorem RSumW.store {ys : List Int} {pb po g k : Nat} {w wr : World} (h : RSumW ys pb po g k w wr) : RSumW ys pb po g (k + 1) w (wr.setRow g (arr 8 (vu32 (stepS kT (stL kT ys s0 k) (blk ys k)).at))) := by
  have h1 := h.plt
  have h2 := h.far
  have h3 := h.lt
  have hb : Below g wr (wr.setRow g (arr 8 (vu32 (stepS kT (stL kT ys s0 k) (blk ys k)).at))) := below_setRow (Below.refl _ _) (Nat.le_refl _) _
  refine ⟨setRow_heap wr _ _ _ _ _ h.hbox, fun i hi => (hb.cell (by simp only []; omega)).trans (h.pc i hi), h1, (hb.block _ h2).trans h.res, h.below.trans (hb.mono (by omega)), h2, by rw [size_setRow]; exact h3⟩
/-- a block's box behind j bytes -/
structure BlkW (ys : List Int) (k j : Nat) (w wr : World) : Prop where
  row : wr.heap[w.heap.size]? = some (.cells (arr 64 (vu8 fun i => if i < j then blk ys k i else 0)) 134 (0, 0))
  low : Below w.heap.size w wr
theorem BlkW.store {ys : List Int} {k j : Nat} {w wr : World} (h : BlkW ys k j w wr) : BlkW ys k (j + 1) w (wr.setCell ⟨w.heap.size, j, none⟩ (.int .u8 (blk ys k j))) := by
  refine ⟨?_, h.low.setCell (Nat.le_refl _) _⟩
  have e := heap_setCell_same wr w.heap.size j (arr 64 (vu8 fun i => if i < j then blk ys k i else 0)) 134 (.int .u8 (blk ys k j)) h.row
  rw [arr_set] at e
  have e2 : arr 64 (vu8 fun i => if i < j + 1 then blk ys k i else 0) = arr 64 (fun i => if i = j then Value.int .u8 (blk ys k j) else vu8 (fun i => if i < j then blk ys k i else 0) i) := arr_congr fun i _ => by
    simp only [vu8]
    by_cases h1 : i = j
    · subst h1; rw [if_pos rfl, if_pos (by omega)]
    · rw [if_neg h1]
      by_cases h2 : i < j
      · rw [if_pos h2, if_pos (by omega)]
      · rw [if_neg h2, if_neg (by omega)]
  rw [e2]
  exact e
theorem BlkW.free {ys : List Int} {k j : Nat} {w wr : World} (h : BlkW ys k j w wr) (i : Nat) : wr.frozen? ⟨w.heap.size, i, none⟩ = false := frozen_of_row wr _ i _ _ h.row
theorem BlkW.there {ys : List Int} {k j : Nat} {w wr : World} (h : BlkW ys k j w wr) {i : Nat} (hi : i < 64) : ∃ v, wr.cell? ⟨w.heap.size, i, none⟩ = some v := ⟨_, by rw [cell_of_row wr _ i _ _ _ h.row, arr_get _ hi]⟩

/-- the sum's box behind j bytes -/
structure OutW (s : S8) (j : Nat) (w wr : World) : Prop where
  row : wr.heap[w.heap.size]? = some (.cells (arr 32 (vu8 fun i => if i < j then sumB s i else 0)) 63 (0, 0))
  low : Below w.heap.size w wr
theorem OutW.store {s : S8} {j : Nat} {w wr : World} (h : OutW s j w wr) : OutW s (j + 1) w (wr.setCell ⟨w.heap.size, j, none⟩ (.int .u8 (sumB s j))) := by
  refine ⟨?_, h.low.setCell (Nat.le_refl _) _⟩
  have e := heap_setCell_same wr w.heap.size j (arr 32 (vu8 fun i => if i < j then sumB s i else 0)) 63 (.int .u8 (sumB s j)) h.row
  rw [arr_set] at e
  have e2 : arr 32 (vu8 fun i => if i < j + 1 then sumB s i else 0) = arr 32 (fun i => if i = j then Value.int .u8 (sumB s j) else vu8 (fun i => if i < j then sumB s i else 0) i) := arr_congr fun i _ => by
    simp only [vu8]
    by_cases h1 : i = j
    · subst h1; rw [if_pos rfl, if_pos (by omega)]
    · rw [if_neg h1]
      by_cases h2 : i < j
      · rw [if_pos h2, if_pos (by omega)]
      · rw [if_neg h2, if_neg (by omega)]
  rw [e2]
  exact e
theorem OutW.free {s : S8} {j : Nat} {w wr : World} (h : OutW s j w wr) (i : Nat) : wr.frozen? ⟨w.heap.size, i, none⟩ = false := frozen_of_row wr _ i _ _ h.row
theorem OutW.there {s : S8} {j : Nat} {w wr : World} (h : OutW s j w wr) {i : Nat} (hi : i < 32) : ∃ v, wr.cell? ⟨w.heap.size, i, none⟩ = some v := ⟨_, by rw [cell_of_row wr _ i _ _ _ h.row, arr_get _ hi]⟩

set_option maxHeartbeats 1000000 in
theorem refsum_any (n : Nat) (ao : Option Addr) (cap : Nat) (xs : List Int) (w : World) (hn : n = xs.length) (hl : Lies w w.heap.size ao cap xs) (hx : Byte xs) (hlen : n ≤ 65536) (_hz : 0 < w.heap.size) :
    Calls Tryd.prog 41 #[.slice ao n cap] w fun e w' => e = .returned (.agg (arr 32 (vu8 (sumB (sumS xs))))) ∧ Below w.heap.size w w' := by
  obtain ⟨F, hF0⟩ : ∃ F, F = sumS xs := ⟨_, rfl⟩
  rw [← hF0]
  have HF0 := Lib.hid hF0
  clear hF0
  have HL := Lib.hid hl
  have HN := Lib.hid hn
  clear hl hn
  go_enter Tryd.func41, Tryd.ntmps41
  go_wp2_with fail
  rw [zeros32]
  generalize hW : w.alloc (.cells (arr 32 (vu8 fun _ => 0)) 63) = W
  have hr : W.heap[w.heap.size]? = some (.cells (arr 32 (vu8 fun _ => 0)) 63 (0, 0)) := by rw [← hW]; exact heap_alloc_new _ _
  have hb : Below w.heap.size w W := by rw [← hW]; exact (Below.refl _ _).alloc (Nat.le_refl _) _
  have hs : W.heap.size = w.heap.size + 1 := by rw [← hW]; simp
  clear hW
  have HR := Lib.hid hr
  have HB := Lib.hid hb
  refine (refpad_any n ao cap xs W HN.out ((HL.out.below hb).more (by omega)) (by omega)).mono ?_
  clear hr hb
  rintro _ w1 ⟨v, rfl, hown, hb1⟩
  obtain ⟨a, c, rfl⟩ := own_form hown
  have hs1 := hb1.size
  have HP : Hid (Lies w1 w1.heap.size a c (xs ++ padL n)) := Lib.hid (lies_own hown)
  clear hown
  obtain ⟨m, hm⟩ : ∃ m, m = (xs ++ padL n).length := ⟨_, rfl⟩
  have HM := Lib.hid hm
  rw [← hm]
  clear hm
  dsimp only
  go_wp2_with fail
  refine (first_any w1).mono ?_
  rintro _ w2 ⟨rfl, hb2⟩
  rw [vals_arr]
  have hs2 := hb2.size
  dsimp only
  repeat (first
    | (refine wpList_store_row rfl 132 (.tmp 4) (.tmp 12) rfl w2.heap.size (arr 8 (vu32 s0.at)) rfl rfl 132 _ (heap_alloc_new _ _) info8 (by rw [arr_size]; rfl) (arr_one _ _) ?_; refine Hid.out ?_)
    | go_step)
  refine Lib.hid ?_
  simp only [Act.put]
  generalize hZ : (w2.alloc _) = Z
  have hz1 : Z.heap[w2.heap.size]? = some (.cells (arr 8 (vu32 fun _ => 0)) 132 (0, 0)) := by
    rw [← hZ, ← zeros8]; exact heap_alloc_new _ _
  have hzb : Below w2.heap.size w2 Z := by rw [← hZ]; exact (Below.refl _ _).alloc (Nat.le_refl _) _
  have hzs : Z.heap.size = w2.heap.size + 1 := by rw [← hZ]; simp
  clear hZ
  have hlen2 : 0 < m := by have := HM.out; rw [List.length_append, padL_length] at this; omega
  obtain ⟨pb, po, rfl, hpb, hpc⟩ := HP.out.cells (by intro h; have h2 := HM.out; rw [h] at h2; simp at h2; omega)
  have hV : RSumW (xs ++ padL n) pb po w2.heap.size 0 w (Z.setRow w2.heap.size (arr 8 (vu32 s0.at))) := by
    have hbV : Below w2.heap.size w2 (Z.setRow w2.heap.size (arr 8 (vu32 s0.at))) := below_setRow hzb (Nat.le_refl _) _
    refine ⟨setRow_heap Z _ _ _ _ _ hz1, fun i hi => ?_, by omega, ?_, ?_, by omega, by rw [size_setRow]; omega⟩
    · rw [hbV.cell (by simp only []; omega), hb2.cell (by simp only []; omega)]; exact hpc i hi
    · rw [hbV.block _ (by omega), hb2.block _ (by omega), hb1.block _ (by omega)]; exact HR.out
    · exact ((HB.out.trans (hb1.mono (by omega))).trans (hb2.mono (by omega))).trans (hbV.mono (by omega))
  generalize Z.setRow w2.heap.size (arr 8 (vu32 s0.at)) = V at hV ⊢
  generalize w2.heap.size = g at hV ⊢
  have hmc : m ≤ c := by have := HP.out.room; rw [← HM.out] at this; exact this
  clear hz1 hzb hzs hpc hpb HR HB HP hb1 hb2 hs1 hs2
  go_wp2_with fail
  have hM : m = 64 * ((n + zr n + 9) / 64) := by
    have h1 := HM.out
    rw [List.length_append, padL_length, ← HN.out] at h1
    unfold zr at h1 ⊢
    omega
  obtain ⟨M, hMM⟩ : ∃ M, M = (n + zr n + 9) / 64 := ⟨_, rfl⟩
  rw [← hMM] at hM
  have hMb : M ≤ 1100 := by rw [hMM]; unfold zr; omega
  have HMM := Lib.hid hMM
  clear hMM hlen2
  go_loopw [5] (fun i wr => ∃ k : Nat, k ≤ M ∧ i = .int .i64 ((64 * k : Nat) : Int) ∧ RSumW (xs ++ padL n) pb po g k w wr) (fun i _ => 64 * M - (intOf i).toNat)
  case atStart => exact ⟨0, by omega, rfl, hV⟩
  case round =>
    clear hV
    obtain ⟨k, hk, rfl, hA⟩ := hrel
    by_cases hlt : k < M
    · obtain ⟨wo, ewo⟩ : ∃ wo, wo = wr := ⟨_, rfl⟩
      subst ewo
      have hAl := hA.lt
      have hAp := hA.plt
      go_wp2_with fail
      generalize hY : (wo.alloc _) = Y
      have hB0 : BlkW (xs ++ padL n) k 0 wo Y := ⟨by rw [← hY, heap_alloc_new]; kernel_rfl, by rw [← hY]; exact (Below.refl _ _).alloc (Nat.le_refl _) _⟩
      clear hY
      go_loopw [7] (fun i wy => ∃ j : Nat, j ≤ 64 ∧ i = .int .i64 j ∧ BlkW (xs ++ padL n) k j wo wy) (fun i _ => 64 - (intOf i).toNat)
      case atStart => exact ⟨0, by omega, rfl, hB0⟩
      case round =>
        clear hB0
        obtain ⟨j, hj, rfl, hB⟩ := hrel
        by_cases hlj : j < 64
        · have hc : wr.cell? ⟨pb, po + (64 * k + j), none⟩ = some (.int .u8 (blk (xs ++ padL n) k j)) :=
            (hB.low.cell (by simp only []; omega)).trans (hA.pc (64 * k + j) (by rw [← HM.out]; omega))
          obtain ⟨dv, d⟩ := hB.there hlj
          have df := hB.free j
          go_wp2_with fail
          exact ⟨⟨j + 1, by omega, by go_num, hB.store⟩, by simp [intOf]; omega⟩
        · obtain rfl : j = 64 := by omega
          have hg : wr.heap[g]? = some (.cells (arr 8 (vu32 (stL kT (xs ++ padL n) s0 k).at)) 132 (0, 0)) := (hB.low.block _ hAl).trans hA.hbox
          have hbk : wr.heap[wo.heap.size]? = some (.cells (arr 64 (vu8 (blk (xs ++ padL n) k))) 134 (0, 0)) := by
            rw [hB.row, arr_congr (g := vu8 (blk (xs ++ padL n) k)) fun i hi => by simp only [vu8]; rw [if_pos hi]]
          have hA2 := hA.later hB.low
          have HS := Lib.hid hg
          clear hB
          repeat (first
            | (refine wpList_load_row rfl 132 (.tmp 4) rfl g rfl 132 (arr 8 (vu32 (stL kT (xs ++ padL n) s0 k).at)) (0, 0) (.array 8 131) HS.out (by kernel_rfl) rfl info8 ?_; simp only [Act.put, List.setIfInBounds_toArray, List.set_cons_succ, List.set_cons_zero])
            | (refine wpList_load_row rfl 134 (.tmp 6) rfl wo.heap.size rfl 134 (arr 64 (vu8 (blk (xs ++ padL n) k))) (0, 0) (.array 64 5) hbk (by kernel_rfl) rfl infob ?_; simp only [Act.put, List.setIfInBounds_toArray, List.set_cons_succ, List.set_cons_zero])
            | go_step)
          refine (ref_any (stL kT (xs ++ padL n) s0 k) (blk (xs ++ padL n) k) wr (fun j hj => blk_byte (byte_append hx (byte_padK _ _)) k j)).mono ?_
          rintro _ w5 ⟨rfl, hb5⟩
          have hA5 := hA2.later hb5
          have hg5 := hA5.hbox
          dsimp only
          clear hA2 hbk HS hg
          repeat (first
            | (refine wpList_store_row rfl 132 (.tmp 4) (.tmp 33) rfl g (arr 8 (vu32 (stepS kT (stL kT (xs ++ padL n) s0 k) (blk (xs ++ padL n) k)).at)) rfl rfl 132 _ hg5 info8 (by rw [arr_size, arr_size]) (arr_one _ _) ?_; refine Hid.out ?_)
            | go_step)
          refine Lib.hid ?_
          have hN := hA5.store
          generalize w5.setRow g _ = w6 at hN ⊢
          simp only [Act.put]
          clear hA5 hg5 hb5 hA
          go_wp2_with fail
          exact ⟨⟨k + 1, by omega, by rw [show ((64 * (k + 1) : Nat) : Int) = 64 * (k : Int) + 64 by omega], hN⟩, by simp [intOf]; omega⟩
    · obtain rfl : k = M := by omega
      obtain ⟨wo, ewo⟩ : ∃ wo, wo = wr := ⟨_, rfl⟩
      subst ewo
      have hAl := hA.lt
      have hF : F = stL kT (xs ++ padL n) s0 k := by rw [HF0.out, HMM.out, HN.out]; rfl
      have hbx := hA.hbox
      rw [← hF] at hbx
      go_wp2_with fail
      generalize hY : (wo.alloc _) = Y
      have hO : OutW F 0 wo Y := ⟨by rw [← hY, heap_alloc_new]; kernel_rfl, by rw [← hY]; exact (Below.refl _ _).alloc (Nat.le_refl _) _⟩
      clear hY
      go_loopw [9] (fun i wy => ∃ j : Nat, j ≤ 32 ∧ i = .int .i64 j ∧ OutW F j wo wy) (fun i _ => 32 - (intOf i).toNat)
      case atStart => exact ⟨0, by omega, rfl, hO⟩
      case round =>
        clear hO
        obtain ⟨j, hj, rfl, hB⟩ := hrel
        by_cases hlj : j < 32
        · have hc : wr.cell? ⟨g, j / 4, none⟩ = some (.int .u32 (F.at (j / 4))) := by
            rw [hB.low.cell (by simp only []; omega), cell_of_row wo g (j / 4) _ _ _ hbx, arr_get _ (by omega)]; rfl
          obtain ⟨dv, d⟩ := hB.there hlj
          have df := hB.free j
          go_wp2_with fail
          exact ⟨⟨j + 1, by omega, by go_num, by rw [← hF]; exact hB.store⟩, by simp [intOf]; omega⟩
        · obtain rfl : j = 32 := by omega
          have hAf := hA.far
          have hg : wr.heap[wo.heap.size]? = some (.cells (arr 32 (vu8 (sumB F))) 63 (0, 0)) := by
            rw [hB.row, arr_congr (g := vu8 (sumB F)) fun i hi => by simp only [vu8]; rw [if_pos hi]]
          have h2 : wr.heap[w.heap.size]? = some (.cells (arr 32 (vu8 fun _ => 0)) 63 (0, 0)) := (hB.low.block _ (by omega)).trans hA.res
          have hbW : Below w.heap.size w wr := hA.below.trans (hB.low.mono (by omega))
          have hres : (wr.setRow w.heap.size (arr 32 (vu8 (sumB F)))).heap[w.heap.size]? = some (.cells (arr 32 (vu8 (sumB F))) 63 (0, 0)) := setRow_heap wr _ _ _ _ _ h2
          have hb2 := below_setRow hbW (g := w.heap.size) (Nat.le_refl _) (arr 32 (vu8 (sumB F)))
          clear hA hB hF hbx
          repeat (first
            | (refine wpList_load_row rfl 63 (.tmp 8) rfl wo.heap.size rfl 63 (arr 32 (vu8 (sumB F))) (0, 0) (.array 32 5) hg (by kernel_rfl) rfl info32 ?_; simp only [Act.put, List.setIfInBounds_toArray, List.set_cons_succ, List.set_cons_zero])
            | (refine wpList_store_row rfl 63 (.tmp 2) (.tmp 50) rfl w.heap.size (arr 32 (vu8 (sumB F))) rfl rfl 63 _ h2 info32 (by rw [arr_size, arr_size]) (arr_one8 _ _) ?_; simp only [Act.put])
            | go_step)
          refine bodyPost_ret (results_cell_row rfl _ _ w.heap.size 63 (arr 32 (vu8 (sumB F))) (0, 0) (.array 32 5) rfl hres (by kernel_rfl) rfl info32) rfl ⟨rfl, hb2⟩

end Sha
end Go.Proofs.YtllejfnmbpjhaaaDoor
