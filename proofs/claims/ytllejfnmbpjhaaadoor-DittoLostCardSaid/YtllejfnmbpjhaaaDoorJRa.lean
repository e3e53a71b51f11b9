import Derived.Test.YtllejfnmbpjhaaaDoorJRv
import Derived.Test.YtllejfnmbpjhaaaDoorJDn
/- remap: the fixed fact. -/
namespace Go.Proofs.YtllejfnmbpjhaaaDoor
set_option maxRecDepth 20000
namespace Rm
open Go.RowKit Dk Byt

attribute [local go_sem] zv29
attribute [local go_sem] zc29
def seven (j : Nat) : Int := if j = 0 then 7 else 0
theorem built_seven : Tryd.prog.built 22 [(0, .int .u8 7)] = some (bl seven).toArray := by kernel_rfl
theorem set_seven : ((bl fun _ => 0).set 0 (.int .u8 7)) = bl seven := by kernel_rfl
def aX0 : Dst := ⟨0, fun _ => sec0, fun _ => wr0, -1, false⟩
def aX1 : Dst := fmX 28 aX0
def aX2 : Dst := ⟨aX1.m, hitS 28 aX1.m aX1.S aX1.C 2 3 0 0, aX1.C, aX1.f, aX1.d⟩
def aM0 : Tab := ⟨0, 0, zF, zF⟩
theorem a_fm : fmE 28 aX0 = 0 := by kernel_rfl
theorem a_x1 : aX1 = dFl 28 (fmS 28 4 (tab0 28) aX0 2) := by kernel_rfl
theorem a_hit : hitE 28 aX1.m aX1.C 2 3 0 = 0 := by kernel_rfl
theorem a_home : homeB 28 aX2 0 0 zF zF 2 = true := by kernel_rfl
theorem a_e1 : dWrE 28 aX2 (wA aM0 2) = 2 := by kernel_rfl
theorem a_stop : stopB 28 0 zF seven (w1X 28 aX2 aM0 2 seven) 0 = true := by kernel_rfl
theorem a_sp : spTo 28 0 zF seven (w1X 28 aX2 aM0 2 seven) = 8 ∧ spE 28 0 zF seven (w1X 28 aX2 aM0 2 seven) = 0 ∧ spX 28 0 zF seven (w1X 28 aX2 aM0 2 seven) = dWr 28 (w1X 28 aX2 aM0 2 seven) 8 seven := by
  obtain ⟨h1, h2, h3⟩ := sp_at (n := 28) (k := 0) (T := zF) (V := seven) (X := w1X 28 aX2 aM0 2 seven) (i := 0) (fun j hj => by omega) a_stop (by omega)
  refine ⟨by rw [h1]; rfl, ?_, ?_⟩
  · rw [h2]; kernel_rfl
  · rw [h3]; kernel_rfl
def aX3 : Dst := dFl 28 (dWr 28 (w1X 28 aX2 aM0 2 seven) 8 seven)
def aF (i : Nat) : Int := if i = 0 then 2 else 0
def aT (i : Nat) : Int := if i = 0 then 8 else 0
theorem a_e3 : dFlE 28 (dWr 28 (w1X 28 aX2 aM0 2 seven) 8 seven) = 0 := by kernel_rfl
theorem a_n : aM0.next 2 8 = ⟨1, 1, aF, aT⟩ := by
  unfold Tab.next
  have h0 : findI zF 2 0 = -1 := rfl
  have h1 : rpK aM0.F aM0.k 2 = 1 := rfl
  congr 1
def aX4 : Dst := lyX 28 aX3 1 1 aF aT
theorem a_e4 : lyE 28 aX3 1 1 aF aT = 0 := by kernel_rfl
theorem a_e5 : dFlE 28 aX4 = 0 := by kernel_rfl
def aX5 : Dst := dFl 28 aX4
theorem a_w : wRes 28 aX2 aM0 2 seven = (0, aX5, ⟨1, 1, aF, aT⟩) := by
  obtain ⟨h1, h2, h3⟩ := a_sp
  have hX2 : w2X 28 aX2 aM0 2 seven = dWr 28 (w1X 28 aX2 aM0 2 seven) 8 seven := h3
  have hX3 : w3X 28 aX2 aM0 2 seven = aX3 := by unfold w3X; rw [hX2]; rfl
  have hN : wN 28 aX2 aM0 2 seven = ⟨1, 1, aF, aT⟩ := by
    unfold wN
    rw [show spTo 28 aM0.k aM0.T seven (w1X 28 aX2 aM0 2 seven) = 8 from h1]
    exact a_n
  have h4E : w4E 28 aX2 aM0 2 seven = 0 := by unfold w4E; rw [hX3, hN]; exact a_e4
  have h4X : w4X 28 aX2 aM0 2 seven = aX4 := by unfold w4X; rw [hX3, hN]; rfl
  rw [w_c6 a_home a_e1 h2 (by rw [hX2]; exact a_e3) h4E (by rw [h4X]; exact a_e5), h4X, hN]
  rfl
theorem a_rE : rE 28 aX5 1 1 aF aT 2 = 0 := by kernel_rfl
theorem a_rV : rV 28 aX5 1 1 aF aT 2 0 = 7 := by kernel_rfl
theorem a_at : atT aF aT 1 2 = 8 := by kernel_rfl
theorem a_half : halfN 28 = 4 := by kernel_rfl
end Rm
end Go.Proofs.YtllejfnmbpjhaaaDoor
/- remap: the fixed fact, walked. -/
namespace Go.Proofs.YtllejfnmbpjhaaaDoor
set_option maxRecDepth 20000
namespace Rm
open Go.RowKit Dk Byt

attribute [local go_sem] zv29
attribute [local go_sem] zc29
theorem new_28 {w w' : World} {e : Ending} (h : News w 28 e w') : Below w.heap.size w w' ∧ ∃ b, e = .returned (.tuple #[.agg #[.slice (some ⟨b, 0, none⟩) 28 28, .slice none 0 0, .int .i64 (-1), .bool false], .int .i64 0]) ∧ Lay w' w'.heap.size w'.heap.size (some ⟨b, 0, none⟩) 28 28 130 (fun _ => secV sec0) := by
  obtain ⟨h1, h2⟩ := h
  rw [if_pos (by decide)] at h2
  exact ⟨h1, h2⟩
theorem hit_28 {w w' : World} {g : Nat} {e : Ending} (h : Turns w g (hitE 28 aX1.m aX1.C 2 3 0) 28 aX1.m (hitS 28 aX1.m aX1.S aX1.C 2 3 0 0) aX1.C aX1.f aX1.d e w') : e = .returned (.int .i64 0) ∧ w.grownBy w' (some g) ∧ HasD w' g 28 aX2 := by
  rw [a_hit] at h
  exact h
theorem wrote_28 {w w' : World} {g b : Nat} {e : Ending} (h : Wrote w g b 28 (wRes 28 aX2 aM0 2 seven) e w') : e = .returned (.int .i64 0) ∧ Two w w' g b ∧ HasD w' g 28 aX5 ∧ HasT w' b g ⟨1, 1, aF, aT⟩ := by
  rw [a_w] at h
  exact h
theorem a_ok : Ok 2 aX0 := ⟨by show (0 + 2) * 136 ≤ 140737488355328; omega, by show (-9223372036854775808 : Int) ≤ -1 ∧ (-1 : Int) ≤ 9223372036854775807; omega⟩
theorem a_ok2 : Ok 23 aX2 := by
  have h1 : aX2.m = 0 := by kernel_rfl
  have h2 : aX2.f = -1 := by kernel_rfl
  exact ⟨by rw [h1]; omega, by rw [h2]; unfold i64; omega⟩
theorem a_f64 : -9223372036854775808 ≤ aX1.f ∧ aX1.f ≤ 9223372036854775807 := by
  have h2 : aX1.f = -1 := by kernel_rfl
  rw [h2]; omega
theorem aF_ok : ∀ i, i < 1 → i64 (aF i) ∧ i64 (aT i) := by
  intro i hi
  obtain rfl : i = 0 := by omega
  unfold i64 aF aT
  simp

set_option maxRecDepth 100000 in
set_option maxHeartbeats 4000000 in
theorem alive4_any (w : World) (hk : Kp w) : Calls Tryd.prog 11 #[] w fun e w' => e = .returned (.bool true) ∧ Below w.heap.size w w' := by
  have HK := Lib.hid hk
  clear hk
  go_enter Tryd.func11, Tryd.ntmps11
  go_wp2_with fail
  refine (new_any 28 w).mono ?_
  intro e w1 hn
  obtain ⟨hb1, b, rfl, hl⟩ := new_28 hn
  have hs1 := hb1.size
  clear hn
  dsimp only
  go_wp2_with (refine wpList_store_row rfl 35 (.tmp 1) (.tmp 11) rfl w1.heap.size #[.slice (some ⟨b, 0, none⟩) 28 28, .slice none 0 0, .int .i64 (-1), .bool false] rfl rfl 35 _ (heap_alloc_new w1 _) (by kernel_rfl) rfl (disk_one _ _ _ _ _ _ _ _) ?_; rw [World.setRow_alloc_new]; simp only [Act.put])
  generalize hW1 : w1.alloc (.cells #[.slice (some ⟨b, 0, none⟩) 28 28, .slice none 0 0, .int .i64 (-1), .bool false] 35) = W1
  have hH1 : HasD W1 w1.heap.size 28 aX0 := ⟨_, _, _, _, new_has (k := 28) (by omega) hl hW1.symm⟩
  have hB1 : Below w.heap.size w W1 := by rw [← hW1]; exact hb1.alloc hs1 _
  clear hW1 hl hb1
  generalize w1.heap.size = g at hH1 hs1 ⊢
  refine (format_d hH1 a_ok (HK.out.below hB1)).mono ?_
  rw [a_fm]
  rintro _ w2 ⟨rfl, hg2, hD2⟩
  have hB2 : Below w.heap.size w w2 := hB1.grown hg2 hB1.size (fun k hk => by injection hk with hk; omega)
  have hD2' : HasD w2 g 28 aX1 := hD2
  clear hB1 hH1 hg2 hD2
  dsimp only
  go_wp2_with (refine wpList_store_row rfl 26 (.tmp 3) (.tmp 15) rfl w2.heap.size #[.int .i64 0, .slice none 0 0] rfl rfl 26 _ (heap_alloc_new w2 _) (by kernel_rfl) rfl rm_one ?_; rw [World.setRow_alloc_new]; simp only [Act.put])
  generalize hW3 : w2.alloc (.cells #[.int .i64 0, .slice none 0 0] 26) = W3
  have hb3 : Below w2.heap.size w2 W3 := by rw [← hW3]; exact (Below.refl _ _).alloc (Nat.le_refl _) _
  have ht3 : W3.heap[w2.heap.size]? = some (.cells #[.int .i64 0, .slice none 0 0] 26 (0, 0)) := by rw [← hW3]; exact heap_alloc_new _ _
  have hs3 : W3.heap.size = w2.heap.size + 1 := by rw [← hW3]; simp
  clear hW3
  have hB3 := hB2.trans (hb3.mono hB2.size)
  have hgl := hD2'.lt
  have hs2 := hB2.size
  obtain ⟨sa, sc, ca, cc, hH3⟩ := hD2'.below hb3
  clear hb3 hB2 hD2'
  refine (hit_any g sa ca 28 sc aX1.m cc aX1.S aX1.C aX1.f aX1.d 2 3 0 0 W3 hH3).mono ?_
  intro e w4 h4
  obtain ⟨rfl, hg4, hD4⟩ := hit_28 h4
  have hB4 : Below w.heap.size w w4 := hB3.grown hg4 hB3.size (fun k hk => by injection hk with hk; omega)
  have ht4 := (hg4.block w2.heap.size (by omega) (by simp; omega)).trans ht3
  have hs4 := hg4.size
  clear h4 hH3 hg4 hB3 ht3
  dsimp only
  go_wp2_with (refine wpList_buildTo rfl 22 #[(0, .const (.int .u8 7))] rfl _ rfl (bl seven).toArray built_seven ?_; simp only [Act.put, List.setIfInBounds_toArray, List.set_cons_succ, List.set_cons_zero])
  try rw [set_seven]
  refine (rwrite_d hD4 (HK.out.below hB4) a_ok2 0 0 zF zF ⟨none, 0, ht4, Lay.empty _ _ _ 0 _ _⟩ ⟨by show 0 ≤ _; omega, fun i hi => by have hi' : i < 0 := hi; omega⟩ (by omega) 2 seven).mono ?_
  intro e w5 h5
  obtain ⟨rfl, hw5, hD5, pa, cap, ht5, hl5⟩ := wrote_28 h5
  have hB5 : Below w.heap.size w w5 := ⟨hw5.os.trans hB4.os, hw5.tape.trans hB4.tape, hw5.output.trans hB4.output, Nat.le_trans hB4.size hw5.size, fun i hi => (hw5.block i (by have := hB4.size; omega) (by omega) (by omega)).trans (hB4.block i hi)⟩
  dsimp only at ht5 hl5
  have c0 : w5.cell? ⟨w2.heap.size, 0, none⟩ = some (.int .i64 1) := by rw [cell_of_row _ _ _ _ _ _ ht5]; rfl
  have c1 : w5.cell? ⟨w2.heap.size, 1, none⟩ = some (.slice pa 1 cap) := by rw [cell_of_row _ _ _ _ _ _ ht5]; rfl
  have hs5 := hw5.size
  clear h5 hw5 hD4 hB4 ht4
  dsimp only
  go_wp2_with fail
  refine (read_d hD5 1 1 aF aT pa cap g 2 hl5 (by omega) aF_ok).mono ?_
  rw [a_rE]
  have hV := a_rV
  generalize rV 28 aX5 1 1 aF aT 2 = V at hV ⊢
  rintro _ w6 ⟨rfl, hb6⟩
  have ht6 := (hb6.block w2.heap.size (by omega)).trans ht5
  have hB6 := hB5.trans (hb6.mono hB5.size)
  have hl6 := (hl5.below hb6).more hb6.size
  have hs6 := hb6.size
  clear c0 c1 hb6 hB5 hl5 ht5
  dsimp only
  have hbA : Below w6.heap.size w6 (w6.alloc (.cells (bl V).toArray 22)) := (Below.refl _ _).alloc (Nat.le_refl _) _
  have htA := (hbA.block w2.heap.size (by omega)).trans ht6
  have d0 : (w6.alloc (.cells (bl V).toArray 22)).cell? ⟨w6.heap.size, 0, none⟩ = some (.int .u8 7) := by
    rw [cell_of_row _ _ _ _ _ _ (heap_alloc_new _ _), ← hV]
    rfl
  have d1 : (w6.alloc (.cells (bl V).toArray 22)).cell? ⟨w2.heap.size, 0, none⟩ = some (.int .i64 1) := by rw [cell_of_row _ _ _ _ _ _ htA]; rfl
  have d2 : (w6.alloc (.cells (bl V).toArray 22)).cell? ⟨w2.heap.size, 1, none⟩ = some (.slice pa 1 cap) := by rw [cell_of_row _ _ _ _ _ _ htA]; rfl
  have HB7 := Lib.hid (hB6.trans (hbA.mono hB6.size))
  have HL7 := Lib.hid ((hl6.below hbA).more hbA.size)
  clear htA hbA hB6 hl6 ht6 hV
  go_wp2_with (refine wpList_store_row rfl 22 (.tmp 7) (.tmp 23) rfl w6.heap.size (bl V).toArray rfl rfl 22 _ (heap_alloc_new w6 _) (size_bl' _) rfl (bl_all _) ?_; rw [World.setRow_alloc_new]; generalize w6.alloc (.cells (bl V).toArray 22) = w7 at d0 d1 d2 HB7 HL7 ⊢; simp only [Act.put])
  refine (at_any 1 1 aF aT pa cap g 2 w7 HL7.out (by omega)).mono ?_
  rw [a_at]
  rintro _ w8 ⟨rfl, hb8⟩
  have hB8 := HB7.out.trans (hb8.mono HB7.out.size)
  clear d0 d1 d2 hb8
  dsimp only
  go_wp2_with fail
  refine (half_any 28 w8).mono ?_
  rw [a_half]
  rintro _ w9 ⟨rfl, hb9⟩
  have hB9 := hB8.trans (hb9.mono hB8.size)
  dsimp only
  go_wp2_with fail
  go_ret
  exact ⟨rfl, hB9⟩
end Rm
end Go.Proofs.YtllejfnmbpjhaaaDoor
