import Derived.Test.YtllejfnmbpjhaaaDoorJRb
import Derived.BigQuiet
import Derived.Test.YtllejfnmbpjhaaaDoorJSh
import Derived.Deep.RegionHeld3
/- remap: the reference's Right, by two loops. -/
namespace Go.Proofs.YtllejfnmbpjhaaaDoor
set_option maxRecDepth 20000
namespace Rm
open Go.RowKit Dk

theorem right_like {s gen : Int} {n i k : Nat} {F T : Nat → Int} (hi : i < n) (hk : k < i) (h : F k = F i ∨ T k = T i) : rightB s gen n F T = false := by
  cases e : rightB s gen n F T with
  | false => rfl
  | true =>
    obtain ⟨_, _, _, _, _, h6, h7⟩ := right_parts e
    rcases h with h | h
    · exact absurd h (distB_iff.1 h6 k i (by omega) hi (by omega))
    · exact absurd h (distB_iff.1 h7 k i (by omega) hi (by omega))

def RrI (B : Nat) (w0 : World) (h s : Int) (F T : Nat → Int) (j : Nat) (w : World) : Prop :=
  pairsB h s F T j = true ∧ distB F j = true ∧ distB T j = true ∧ Below B w0 w ∧ B < w.heap.size
def RrJ (w0 : World) (F T : Nat → Int) (i k : Nat) (w : World) : Prop :=
  noneB F (F i) k = true ∧ noneB T (T i) k = true ∧ Below w0.heap.size w0 w

end Rm
end Go.Proofs.YtllejfnmbpjhaaaDoor
/- remap: the reference's Seal. -/
namespace Go.Proofs.YtllejfnmbpjhaaaDoor
set_option maxRecDepth 20000
namespace Rm
open Go.RowKit Dk Byt

attribute [local go_sem] zv29
attribute [local go_sem] zc29
theorem results_sl {tmps : Array Value} {w : World} {B : Nat} {D : Nat → Int} {fn : Func} (hf : fn.results = #[.cell 2 22]) (h4 : tmps.getD 2 undef = .pointer (some ⟨B, 0, none⟩))
    (kV : w.heap[B]? = some (.cells (bl D).toArray 22 (0, 0))) : (results fn tmps).run Tryd.prog w = .ok (.agg (bl D).toArray) w := by
  have h4' : tmps[2]?.getD undef = .pointer (some ⟨B, 0, none⟩) := by simpa using h4
  have hv := run_loadVar_row (P := Tryd.prog) w B 22 22 (bl D).toArray (0, 0) _ kV und29 rfl (size_bl' D)
  simp [results, hf, h4', asAddr, hv]

/-- behind j bytes of the sum -/
def SlI (D q : Nat → Int) (B p : Nat) (w : World) (j : Nat) (wr : World) : Prop :=
  Row wr B 0 128 (mix D 96 j q) ∧ wr.heap[p]? = some (.cells (Sha.arr 32 (Sha.vu8 q)) 63 (0, 0)) ∧ wr.heap[B + 1]? = some (.cells (bl fun _ => 0).toArray 22 (0, 0)) ∧ Below B w wr

set_option maxRecDepth 100000 in
set_option maxHeartbeats 4000000 in
theorem seal_any (D : Nat → Int) (w : World) (hby : ∀ i, i < 96 → 0 ≤ D i ∧ D i < 256) (_h0 : 0 < w.heap.size) :
    Calls Tryd.prog 97 #[.agg (bl D).toArray] w fun e w' => e = .returned (.agg (bl (sealD D)).toArray) ∧ Below w.heap.size w w' := by
  have HS : Hid (sealD D = mix D 96 32 (Sha.sumB (Sha.sumS (tab 96 D)))) := Lib.hid rfl
  generalize sealD D = V at HS ⊢
  have HSUM := Lib.hid (fun (W : World) (B : Nat) (hr : Row W B 0 128 D) (hB : B < W.heap.size) => Sha.refsum_any 96 (some ⟨B, 0, none⟩) 128 (tab 96 D) W (by simp) (sha_lies hr hB) (byte_tab fun i hi => hby i (by omega)) (by omega) (by omega))
  generalize Sha.sumB (Sha.sumS (tab 96 D)) = q at HS HSUM
  go_enter Tryd.func97, Tryd.ntmps97
  go_wp2_with fail
  generalize hW : (w.alloc (.cells (bl D).toArray 22)).alloc (.cells (bl fun _ => 0).toArray 22) = W
  have hB0 : Below w.heap.size w W := by rw [← hW]; exact ((Below.refl _ _).alloc (Nat.le_refl _) _).alloc (by simp) _
  have hR0 : Row W w.heap.size 0 128 D := by rw [← hW]; exact row_new.block (Below.heap_alloc _ _ _ (by simp))
  have hr0 : W.heap[w.heap.size + 1]? = some (.cells (bl fun _ => 0).toArray 22 (0, 0)) := by
    rw [← hW]
    have := heap_alloc_new (w.alloc (.cells (bl D).toArray 22)) (.cells (bl fun _ => 0).toArray 22)
    rwa [World.size_alloc] at this
  have hs0 : W.heap.size = w.heap.size + 2 := by rw [← hW]; simp
  clear hW
  refine (HSUM.out W w.heap.size hR0 (by omega)).mono ?_
  rintro _ w1 ⟨rfl, hB1⟩
  have hR1 := hR0.block (hB1.block w.heap.size (by omega))
  have hr1 := (hB1.block (w.heap.size + 1) (by omega)).trans hr0
  have hs1 := hB1.size
  have hB : Below w.heap.size w w1 := hB0.trans (hB1.mono (by omega))
  clear hB0 hB1 hR0 hr0 HSUM
  dsimp only
  go_wp2_with (refine wpList_store_row rfl 63 (.tmp 3) (.tmp 6) rfl w1.heap.size (Sha.arr 32 (Sha.vu8 q)) rfl rfl 63 _ (heap_alloc_new _ _) Sha.info32 (by rw [Sha.arr_size]; rfl) (Sha.arr_one8 _ _) ?_; rw [World.setRow_alloc_new]; simp only [Act.put])
  generalize hW9 : w1.alloc (.cells (Sha.arr 32 (Sha.vu8 q)) 63) = W9
  have hx9 : W9.heap[w1.heap.size]? = some (.cells (Sha.arr 32 (Sha.vu8 q)) 63 (0, 0)) := by rw [← hW9]; exact heap_alloc_new _ _
  have hb9 : Below w1.heap.size w1 W9 := by rw [← hW9]; exact (Below.refl _ _).alloc (Nat.le_refl _) _
  clear hW9
  have HI : Hid (SlI D q w.heap.size w1.heap.size w 0 W9) := Lib.hid ⟨by rw [mix_zero]; exact hR1.block (hb9.block _ (by omega)), hx9, (hb9.block (w.heap.size + 1) (by omega)).trans hr1, hB.trans (hb9.mono (by omega))⟩
  have hp : w.heap.size + 1 < w1.heap.size := by omega
  clear hx9 hb9 hR1 hr1 hB hs0 hs1
  generalize w1.heap.size = p at *
  go_loopw [4] (fun i wr => ∃ j : Nat, j ≤ 32 ∧ i = .int .i64 j ∧ Hid (SlI D q w.heap.size p w j wr)) (fun i _ => 32 - (intOf i).toNat)
  case atStart => exact ⟨0, by omega, rfl, HI⟩
  case round =>
    clear HI
    obtain ⟨j, hj, rfl, hR⟩ := hrel
    obtain ⟨i1, i2, i3, i4⟩ := hR.out
    by_cases hlt : j < 32
    · have hj0 : (0 : Int) ≤ (j : Int) := by omega
      have hjn : (j : Int) < 32 := by omega
      have cq : wr.cell? ⟨p, j, none⟩ = some (.int .u8 (q j)) := by rw [cell_of_row _ _ _ _ _ _ i2, Sha.arr_get _ hlt]; rfl
      have cD := i1.cell (j := 96 + j) (by omega)
      rw [Nat.zero_add] at cD
      have fD := i1.free (96 + j)
      have HN : Hid (SlI D q w.heap.size p w (j + 1) (wr.setCell ⟨w.heap.size, 96 + j, none⟩ (.int .u8 (q j)))) := Lib.hid ⟨by
          have h := i1.store (96 + j) (q j)
          rw [put_mix, Nat.zero_add] at h
          exact h, (Below.heap_setCell _ _ _ p (by show p ≠ w.heap.size; omega)).trans i2, (Below.heap_setCell _ _ _ (w.heap.size + 1) (by show w.heap.size + 1 ≠ w.heap.size; omega)).trans i3, i4.setCell (Nat.le_refl _) _⟩
      clear i1 i2 i3 i4 hR
      go_wp2_with fail
      go_roundw
      case rel => exact ⟨j + 1, by omega, by go_num, HN⟩
      case measure => simp [intOf]; omega
    · obtain rfl : j = 32 := by omega
      have hrg := row_range i1
      rw [← HS.out] at hrg
      clear i1 i2 hR
      go_wp2_with (first
        | (refine wpList_load_mid rfl 22 (.tmp 1) rfl w.heap.size 0 rfl (bl V) _ (by exact hrg) und29 rfl (size_bl _) ?_; simp only [Act.put, List.setIfInBounds_toArray, List.set_cons_succ, List.set_cons_zero])
        | (refine wpList_store_row rfl 22 (.tmp 2) (.tmp 17) rfl (w.heap.size + 1) (bl V).toArray rfl rfl 22 _ i3 (size_bl' _) rfl (bl_all _) ?_; simp only [Act.put]))
      have hr10 := setRow_heap wr (w.heap.size + 1) _ (bl V).toArray 22 (0, 0) i3
      refine bodyPost_ret (results_sl rfl rfl hr10) rfl ?_
      exact ⟨rfl, i4.trans ⟨rfl, rfl, rfl, by simp, fun k hk => setRow_other wr _ k _ (by omega)⟩⟩
end Rm
end Go.Proofs.YtllejfnmbpjhaaaDoor
/- remap: the reference's Put. -/
namespace Go.Proofs.YtllejfnmbpjhaaaDoor
set_option maxRecDepth 20000
namespace Rm
open Go.RowKit Dk Byt

attribute [local go_sem] zv29
attribute [local go_sem] zc29
end Rm
end Go.Proofs.YtllejfnmbpjhaaaDoor
