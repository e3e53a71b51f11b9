import Derived.Test.YtllejfnmbpjhaaaGreatDoorJRv
import Derived.Test.YtllejfnmbpjhaaaGreatDoorJDn
/- remap: the fixed fact. -/
namespace Go.Proofs.YtllejfnmbpjhaaaGreatDoor
set_option maxRecDepth 20000
namespace Rm
open Go.RowKit Dk Byt

attribute [local go_sem] zv29
attribute [local go_sem] zc29
def seven (j : Nat) : Int := if j = 0 then 7 else 0
theorem built_seven : Tryz.prog.built 36 [(0, .int .u8 7)] = some (bl seven).toArray := by kernel_rfl
theorem set_seven : ((bl fun _ => 0).set 0 (.int .u8 7)) = bl seven := by kernel_rfl
def aX0 : Dst := ⟨0, fun _ => sec0, fun _ => wr0, -1, false⟩
def aX1 : Dst := fmX 28 aX0
def aX2 : Dst := ⟨aX1.m, hitS 28 aX1.m aX1.S aX1.C 2 3 0 0, aX1.C, aX1.f, aX1.d⟩
def aM0 : Tab := ⟨0, 0, zF, zF⟩
theorem a_fm : fmE 28 aX0 = 0 := by kernel_rfl
theorem a_x1 : aX1 = dFl 28 (fmS 28 4 (tab0 28) aX0 2) := by kernel_rfl
theorem a_hit : hitE 28 aX1.m aX1.C 2 3 0 = 0 := by kernel_rfl
theorem a_home : homeB 28 aX2 0 0 zF zF 2 = true := by kernel_rfl
theorem a_e1 : dWrE 28 aX2 (wA aM0 2) = 2 := by kernel_rfl
theorem a_stop : stopB 28 0 zF seven (w1X 28 aX2 aM0 2 seven) 0 = true := by kernel_rfl
theorem a_sp : spTo 28 0 zF seven (w1X 28 aX2 aM0 2 seven) = 8 ∧ spE 28 0 zF seven (w1X 28 aX2 aM0 2 seven) = 0 ∧ spX 28 0 zF seven (w1X 28 aX2 aM0 2 seven) = dWr 28 (w1X 28 aX2 aM0 2 seven) 8 seven := by
  obtain ⟨h1, h2, h3⟩ := sp_at (n := 28) (k := 0) (T := zF) (V := seven) (X := w1X 28 aX2 aM0 2 seven) (i := 0) (fun j hj => by omega) a_stop (by omega)
  refine ⟨by rw [h1]; rfl, ?_, ?_⟩
  · rw [h2]; kernel_rfl
  · rw [h3]; kernel_rfl
def aX3 : Dst := dFl 28 (dWr 28 (w1X 28 aX2 aM0 2 seven) 8 seven)
def aF (i : Nat) : Int := if i = 0 then 2 else 0
def aT (i : Nat) : Int := if i = 0 then 8 else 0
theorem a_e3 : dFlE 28 (dWr 28 (w1X 28 aX2 aM0 2 seven) 8 seven) = 0 := by kernel_rfl
theorem a_n : aM0.next 2 8 = ⟨1, 1, aF, aT⟩ := by
  unfold Tab.next
  have h0 : findI zF 2 0 = -1 := rfl
  have h1 : rpK aM0.F aM0.k 2 = 1 := rfl
  congr 1
def aX4 : Dst := lyX 28 aX3 1 1 aF aT
theorem a_e4 : lyE 28 aX3 1 1 aF aT = 0 := by kernel_rfl
theorem a_e5 : dFlE 28 aX4 = 0 := by kernel_rfl
def aX5 : Dst := dFl 28 aX4
theorem a_w : wRes 28 aX2 aM0 2 seven = (0, aX5, ⟨1, 1, aF, aT⟩) := by
  obtain ⟨h1, h2, h3⟩ := a_sp
  have hX2 : w2X 28 aX2 aM0 2 seven = dWr 28 (w1X 28 aX2 aM0 2 seven) 8 seven := h3
  have hX3 : w3X 28 aX2 aM0 2 seven = aX3 := by unfold w3X; rw [hX2]; rfl
  have hN : wN 28 aX2 aM0 2 seven = ⟨1, 1, aF, aT⟩ := by
    unfold wN
    rw [show spTo 28 aM0.k aM0.T seven (w1X 28 aX2 aM0 2 seven) = 8 from h1]
    exact a_n
  have h4E : w4E 28 aX2 aM0 2 seven = 0 := by unfold w4E; rw [hX3, hN]; exact a_e4
  have h4X : w4X 28 aX2 aM0 2 seven = aX4 := by unfold w4X; rw [hX3, hN]; rfl
  rw [w_c6 a_home a_e1 h2 (by rw [hX2]; exact a_e3) h4E (by rw [h4X]; exact a_e5), h4X, hN]
  rfl
theorem a_rE : rE 28 aX5 1 1 aF aT 2 = 0 := by kernel_rfl
theorem a_rV : rV 28 aX5 1 1 aF aT 2 0 = 7 := by kernel_rfl
theorem a_at : atT aF aT 1 2 = 8 := by kernel_rfl
theorem a_half : halfN 28 = 4 := by kernel_rfl
end Rm
end Go.Proofs.YtllejfnmbpjhaaaGreatDoor
/- remap: the fixed fact, walked. -/
namespace Go.Proofs.YtllejfnmbpjhaaaGreatDoor
set_option maxRecDepth 20000
namespace Rm
open Go.RowKit Dk Byt

attribute [local go_sem] zv29
attribute [local go_sem] zc29
theorem new_28 {w w' : World} {e : Ending} (h : News w 28 e w') : Below w.heap.size w w' ∧ ∃ b, e = .returned (.tuple #[.agg #[.slice (some ⟨b, 0, none⟩) 28 28, .slice none 0 0, .int .i64 (-1), .bool false], .int .i64 0]) ∧ Lay w' w'.heap.size w'.heap.size (some ⟨b, 0, none⟩) 28 28 130 (fun _ => secV sec0) := by
  obtain ⟨h1, h2⟩ := h
  rw [if_pos (by decide)] at h2
  exact ⟨h1, h2⟩
theorem hit_28 {w w' : World} {g : Nat} {e : Ending} (h : Turns w g (hitE 28 aX1.m aX1.C 2 3 0) 28 aX1.m (hitS 28 aX1.m aX1.S aX1.C 2 3 0 0) aX1.C aX1.f aX1.d e w') : e = .returned (.int .i64 0) ∧ w.grownBy w' (some g) ∧ HasD w' g 28 aX2 := by
  rw [a_hit] at h
  exact h
theorem wrote_28 {w w' : World} {g b : Nat} {e : Ending} (h : Wrote w g b 28 (wRes 28 aX2 aM0 2 seven) e w') : e = .returned (.int .i64 0) ∧ Two w w' g b ∧ HasD w' g 28 aX5 ∧ HasT w' b g ⟨1, 1, aF, aT⟩ := by
  rw [a_w] at h
  exact h
theorem a_ok : Ok 2 aX0 := ⟨by show (0 + 2) * 136 ≤ 140737488355328; omega, by show (-9223372036854775808 : Int) ≤ -1 ∧ (-1 : Int) ≤ 9223372036854775807; omega⟩
theorem a_ok2 : Ok 23 aX2 := by
  have h1 : aX2.m = 0 := by kernel_rfl
  have h2 : aX2.f = -1 := by kernel_rfl
  exact ⟨by rw [h1]; omega, by rw [h2]; unfold i64; omega⟩
theorem a_f64 : -9223372036854775808 ≤ aX1.f ∧ aX1.f ≤ 9223372036854775807 := by
  have h2 : aX1.f = -1 := by kernel_rfl
  rw [h2]; omega
theorem aF_ok : ∀ i, i < 1 → i64 (aF i) ∧ i64 (aT i) := by
  intro i hi
  obtain rfl : i = 0 := by omega
  unfold i64 aF aT
  simp

end Rm
end Go.Proofs.YtllejfnmbpjhaaaGreatDoor
