/- The padded bytes of any bytes begin with them, are a multiple of 64, and not too many: the law's walk. -/
import Derived.Test.YtkmphpkobjhleaaDoorShaAlive
namespace Go.Proofs.YtkmphpkobjhleaaDoor
namespace Sha
open Go.RowKit Go.Sort

set_option maxHeartbeats 1000000 in
theorem begins_any (n : Nat) (ao : Option Addr) (cap : Nat) (xs : List Int) (w : World) (hn : n = xs.length) (hl : Lies w w.heap.size ao cap xs) (hx : Byte xs) (hlen : n ≤ 140737488351232)
    (hK : ∀ k, k < 64 → w.cell? ⟨0, k, none⟩ = some (.int .u32 (kT k))) (hz : 0 < w.heap.size) :
    Calls Tryd.prog 6 #[.slice ao n cap] w fun e w' => e = .returned (.bool true) ∧ Below w.heap.size w w' := by
  have HK := Lib.hid hK
  have HL := Lib.hid hl
  have HN := Lib.hid hn
  clear hK hl hn
  go_enter Tryd.func6, Tryd.ntmps6
  go_wp2_with fail
  refine (alive_any w HK.out hz).mono ?_
  rintro _ w1 ⟨rfl, hb1⟩
  dsimp only
  have hs1 := hb1.size
  go_wp2_with fail
  refine (pad_any n ao cap xs w1 HN.out ((HL.out.below hb1).more hs1) (by omega)).mono ?_
  rintro _ w2 ⟨v, rfl, hown, hb2⟩
  obtain ⟨a, c, rfl⟩ := own_form hown
  have hl2 := lies_own hown
  have ea : a.isSome = true := by
    cases a with
    | none => exact absurd (hl2.nil rfl) (by have := hl2.room; rw [List.length_append, padL_length] at this; omega)
    | some _ => rfl
  obtain ⟨b, off, rfl, hbB, hcl⟩ := hl2.cells (by intro h; have := congrArg List.length h; rw [List.length_append, padL_length] at this; simp at this)
  have hroom := hl2.room
  obtain ⟨m, hm⟩ : ∃ m, m = (xs ++ padL n).length := ⟨_, rfl⟩
  rw [← hm] at hroom ⊢
  have hm' : m = n + zr n + 9 := by rw [hm, List.length_append, padL_length, ← HN.out]; omega
  have hmod : (m : Int).tmod 64 = 0 := by rw [Int.tmod_eq_emod_of_nonneg (by omega), hm']; unfold zr; omega
  have h8 : n + 8 < m := by omega
  have h72 : m ≤ n + 72 := by rw [hm']; unfold zr; omega
  have HM := Lib.hid hm
  have HM' := Lib.hid hm'
  have HCL := Lib.hid hcl
  have HOWN := Lib.hid hown
  have HL2 := Lib.hid hl2
  clear hm hm' hcl hown hl2 ea
  have hlp : Lies w2 w2.heap.size (some ⟨b, off, none⟩) c xs := by
    refine ⟨by have := HN.out; omega, by simp, fun _ => ⟨b, off, rfl, hbB, fun i hi => ?_⟩⟩
    rw [HCL.out i (by rw [List.length_append]; omega)]
    congr 2
    simp only [List.getD_eq_getElem?_getD]
    rw [List.getElem?_append_left hi]
  have c128 : w2.cell? ⟨b, off + n, none⟩ = some (.int .u8 128) := by
    rw [HCL.out n (by rw [← HM.out]; omega)]
    congr 2
    simp only [List.getD_eq_getElem?_getD]
    rw [List.getElem?_append_right (by rw [← HN.out]; omega), ← HN.out, Nat.sub_self]
    simp [padL, padK, pf]
  have HLP := Lib.hid hlp
  clear hlp
  dsimp only
  go_wp2_with fail
  refine (same_any (some ⟨b, off, none⟩) ao c cap w2.heap.size w2.heap.size n n xs xs w2 HN.out HN.out HLP.out (((HL.out.below hb1).more hs1).below hb2 |>.more hb2.size) hx hx).mono ?_
  rintro _ _ ⟨rfl, rfl⟩
  rw [decide_eq_true rfl]
  dsimp only
  go_wp2_with fail
  go_ret
  exact ⟨rfl, hb1.trans (hb2.mono hs1)⟩

end Sha
end Go.Proofs.YtkmphpkobjhleaaDoor
