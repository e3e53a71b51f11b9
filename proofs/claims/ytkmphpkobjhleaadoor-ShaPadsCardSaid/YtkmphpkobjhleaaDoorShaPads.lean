/- Any bytes are padded as the document says, into new memory: the law's walk. -/
import Derived.Test.YtkmphpkobjhleaaDoorShaBegins
import Derived.Test.YtkmphpkobjhleaaDoorShaRefPad
namespace Go.Proofs.YtkmphpkobjhleaaDoor
namespace Sha
open Go.RowKit Go.Sort

/-- a row of bytes of the call's own, whatever they are; below B all is as it was -/
structure RowW (g m B : Nat) (w wr : World) : Prop where
  row : ∃ cur : Array Value, wr.heap[g]? = some (.cells cur 5 (0, 0)) ∧ ∀ j, j < m → ∃ z, cur[j]? = some (.int .u8 z)
  low : Below B w wr
  far : B ≤ g
theorem RowW.cell {g m B : Nat} {w wr : World} (h : RowW g m B w wr) {j : Nat} (hj : j < m) : ∃ z, wr.cell? ⟨g, j, none⟩ = some (.int .u8 z) := by
  obtain ⟨cur, hc, hz⟩ := h.row
  obtain ⟨z, hz⟩ := hz j hj
  exact ⟨z, by rw [cell_of_row wr g j _ _ _ hc, hz]⟩
theorem RowW.free {g m B : Nat} {w wr : World} (h : RowW g m B w wr) (j : Nat) : wr.frozen? ⟨g, j, none⟩ = false := by
  obtain ⟨cur, hc, _⟩ := h.row
  exact frozen_of_row wr g j _ _ hc
theorem RowW.store {g m B : Nat} {w wr : World} (h : RowW g m B w wr) (j : Nat) (z : Int) : RowW g m B w (wr.setCell ⟨g, j, none⟩ (.int .u8 z)) := by
  obtain ⟨cur, hc, hz⟩ := h.row
  refine ⟨⟨cur.setIfInBounds j (.int .u8 z), heap_setCell_same wr g j cur _ _ hc, fun i hi => ?_⟩, h.low.setCell (by simpa using h.far) _, h.far⟩
  rw [Array.getElem?_setIfInBounds]
  by_cases hij : j = i
  · subst hij
    obtain ⟨z', hz'⟩ := hz j hi
    have : j < cur.size := (Array.getElem?_eq_some_iff.1 hz').1
    exact ⟨z, by simp [this]⟩
  · rw [if_neg hij]; exact hz i hi

set_option maxHeartbeats 1000000 in
theorem pads_any (n : Nat) (ao : Option Addr) (cap : Nat) (xs : List Int) (w : World) (hn : n = xs.length) (hl : Lies w w.heap.size ao cap xs) (hx : Byte xs) (hlen : n ≤ 140737488351232)
    (hK : ∀ k, k < 64 → w.cell? ⟨0, k, none⟩ = some (.int .u32 (kT k))) (hz : 0 < w.heap.size) :
    Calls Tryd.prog 3 #[.slice ao n cap] w fun e w' => e = .returned (.bool true) ∧ Below w.heap.size w w' := by
  have HK := Lib.hid hK
  have HL := Lib.hid hl
  have HN := Lib.hid hn
  clear hK hl hn
  go_enter Tryd.func3, Tryd.ntmps3
  go_wp2_with fail
  refine (alive_any w HK.out hz).mono ?_
  rintro _ w1 ⟨rfl, hb1⟩
  dsimp only
  have hs1 := hb1.size
  have HL1 : Hid (Lies w1 w1.heap.size ao cap xs) := Lib.hid ((HL.out.below hb1).more hs1)
  go_wp2_with fail
  have hcopy := copy_any ao cap xs w1 HL1.out (by have := HN.out; omega)
  rw [← HN.out] at hcopy
  refine hcopy.mono ?_
  clear hcopy
  rintro _ w2 ⟨v, rfl, hown, hb2⟩
  rw [HN.out] at hown
  obtain ⟨ao2, c2, rfl⟩ := own_form hown
  have hs2 := hb2.size
  have HL2 : Hid (Lies w2 w2.heap.size ao cap xs) := Lib.hid ((HL1.out.below hb2).more hs2)
  have HO2 : Hid (Lies w2 w2.heap.size ao2 c2 xs) := Lib.hid (lies_own hown)
  clear hown
  rw [← HN.out]
  dsimp only
  go_wp2_with fail
  refine (pad_any n ao2 c2 xs w2 HN.out HO2.out (by omega)).mono ?_
  rintro _ w3 ⟨v, rfl, hown, hb3⟩
  obtain ⟨a3, c3, rfl⟩ := own_form hown
  have hs3 := hb3.size
  have HP := Lib.hid hown
  have HP3 : Hid (Lies w3 w3.heap.size a3 c3 (xs ++ padL n)) := Lib.hid (lies_own hown)
  have HL3 : Hid (Lies w3 w3.heap.size ao cap xs) := Lib.hid ((HL2.out.below hb3).more hs3)
  obtain ⟨m, hm⟩ : ∃ m, m = (xs ++ padL n).length := ⟨_, rfl⟩
  have HM := Lib.hid hm
  rw [← hm]
  clear hm hown
  dsimp only
  go_wp2_with fail
  refine (refpad_any n ao cap xs w3 HN.out HL3.out (by omega)).mono ?_
  rintro _ w4 ⟨v, rfl, hown, hb4⟩
  obtain ⟨a4, c4, rfl⟩ := own_form hown
  have hs4 := hb4.size
  have HR4 : Hid (Lies w4 w4.heap.size a4 c4 (xs ++ padL n)) := Lib.hid (lies_own hown)
  have HP4 : Hid (Lies w4 w4.heap.size a3 c3 (xs ++ padL n)) := Lib.hid ((HP3.out.below hb4).more hs4)
  rw [← HM.out]
  clear hown
  dsimp only
  go_wp2_with fail
  refine (same_any a3 a4 c3 c4 w4.heap.size w4.heap.size m m (xs ++ padL n) (xs ++ padL n) w4 HM.out HM.out HP4.out HR4.out (byte_append hx (byte_padK _ _)) (byte_append hx (byte_padK _ _))).mono ?_
  rintro _ _ ⟨rfl, rfl⟩
  rw [decide_eq_true rfl]
  dsimp only
  go_wp2_with fail
  have hrow : ∃ g, a3 = some ⟨g, 0, none⟩ ∧ RowW g m w2.heap.size w2 w4 := by
    rcases HP.out.2 with ⟨_, h0⟩ | ⟨g, cap', cur, hv, hg, hh, hn, hcap, hsz, htake⟩
    · rw [← HM.out] at h0
      have := HM.out
      rw [List.length_append, padL_length] at this
      omega
    · injection hv with e1 e2 e3
      refine ⟨g, e1, ⟨cur, (hb4.block g (Array.getElem?_eq_some_iff.1 hh).1).trans hh, fun j hj => ?_⟩, hb3.trans (hb4.mono hs3), hg⟩
      have e := bys_get (xs ++ padL n) j (by rw [← HM.out]; exact hj)
      rw [← htake] at e
      exact ⟨_, by simpa [List.getElem?_take, ← HM.out, hj] using e⟩
  obtain ⟨g, rfl, hR⟩ := hrow
  have hmc : m ≤ c3 := by have := HP3.out.room; rw [← HM.out] at this; exact this
  have hmB : m ≤ 140737488351300 + 72 := by
    have h := HM.out
    rw [List.length_append, padL_length, ← HN.out] at h
    have : zr n < 64 := by unfold zr; omega
    omega
  clear HP HP3 HP4 HR4 HL3
  go_loopw [6] (fun i wr => ∃ k : Nat, k ≤ m ∧ i = .int .i64 k ∧ RowW g m w2.heap.size w2 wr) (fun i _ => m - (intOf i).toNat)
  case atStart => exact ⟨0, by omega, rfl, hR⟩
  case round =>
    clear hR
    obtain ⟨k, hk, rfl, hA⟩ := hrel
    by_cases hlt : k < m
    · obtain ⟨z, c⟩ := hA.cell hlt
      have df := hA.free k
      go_wp2_with fail
      exact ⟨⟨k + 1, by omega, by go_num, hA.store k _⟩, by simp [intOf]; omega⟩
    · obtain rfl : k = m := by omega
      go_wp2_with fail
      refine (same_any ao2 ao c2 cap w2.heap.size w2.heap.size n n xs xs wr HN.out HN.out (HO2.out.below hA.low) (HL2.out.below hA.low) hx hx).mono ?_
      rintro _ _ ⟨rfl, rfl⟩
      rw [decide_eq_true rfl]
      dsimp only
      go_wp2_with fail
      go_ret
      exact ⟨rfl, (hb1.trans (hb2.mono hs1)).trans (hA.low.mono (by omega))⟩

end Sha
end Go.Proofs.YtkmphpkobjhleaaDoor
