/- The sum of any bytes of up to 65,536 is the document's, and they stay: the law's walk. -/
import Derived.Test.YtkmphpkobjhleaaDoorShaRefSum
import Derived.Test.YtkmphpkobjhleaaDoorSame
namespace Go.Proofs.YtkmphpkobjhleaaDoor
namespace Sha
open Go.RowKit Go.Sort

set_option maxHeartbeats 1000000 in
theorem sums_any (n : Nat) (ao : Option Addr) (cap : Nat) (xs : List Int) (w : World) (hn : n = xs.length) (hl : Lies w w.heap.size ao cap xs) (hx : Byte xs) (hlen : n ≤ 140737488351232)
    (hK : ∀ k, k < 64 → w.cell? ⟨0, k, none⟩ = some (.int .u32 (kT k))) (hz : 0 < w.heap.size) :
    Calls Tryd.prog 5 #[.slice ao n cap] w fun e w' => e = .returned (.bool true) ∧ Below w.heap.size w w' := by
  have HK := Lib.hid hK
  have HL := Lib.hid hl
  have HN := Lib.hid hn
  clear hK hl hn
  go_enter Tryd.func5, Tryd.ntmps5
  go_wp2_with fail
  refine (alive_any w HK.out hz).mono ?_
  rintro _ w1 ⟨rfl, hb1⟩
  dsimp only
  have hs1 := hb1.size
  have HL1 : Hid (Lies w1 w1.heap.size ao cap xs) := Lib.hid ((HL.out.below hb1).more hs1)
  by_cases hbig : 65536 < n
  · go_wp2_with fail
    go_ret
    exact ⟨rfl, hb1⟩
  · go_wp2_with fail
    have hcopy := copy_any ao cap xs w1 HL1.out (by have := HN.out; omega)
    rw [← HN.out] at hcopy
    refine hcopy.mono ?_
    clear hcopy
    rintro _ w2 ⟨v, rfl, hown, hb2⟩
    rw [HN.out] at hown
    obtain ⟨ao2, c2, rfl⟩ := own_form hown
    have hs2 := hb2.size
    have HL2 : Hid (Lies w2 w2.heap.size ao cap xs) := Lib.hid ((HL1.out.below hb2).more hs2)
    have HO2 : Hid (Lies w2 w2.heap.size ao2 c2 xs) := Lib.hid (lies_own hown)
    clear hown
    rw [← HN.out]
    have hb12 : Below w.heap.size w w2 := hb1.trans (hb2.mono hs1)
    have hR := equal_same32 (sumB (sumS xs))
    obtain ⟨R, hRR⟩ : ∃ R, R = arr 32 (vu8 (sumB (sumS xs))) := ⟨_, rfl⟩
    rw [← hRR] at hR
    have HRR := Lib.hid hRR
    clear hRR
    dsimp only
    go_wp2_with fail
    refine (sum_any n ao2 c2 xs w2 HN.out HO2.out hx (by omega) (fun k hk => by rw [hb12.cell (show 0 < w.heap.size from hz)]; exact HK.out k hk) (by omega)).mono ?_
    rw [← HRR.out]
    rintro _ w3 ⟨rfl, hb3⟩
    have hs3 := hb3.size
    have HL3 : Hid (Lies w3 w3.heap.size ao cap xs) := Lib.hid ((HL2.out.below hb3).more hs3)
    have HO3 : Hid (Lies w3 w3.heap.size ao2 c2 xs) := Lib.hid ((HO2.out.below hb3).more hs3)
    dsimp only
    go_wp2_with fail
    refine (refsum_any n ao cap xs w3 HN.out HL3.out hx (by omega) (by omega)).mono ?_
    rw [← HRR.out]
    rintro _ w4 ⟨rfl, hb4⟩
    have hs4 := hb4.size
    have HL4 : Hid (Lies w4 w4.heap.size ao cap xs) := Lib.hid ((HL3.out.below hb4).more hs4)
    have HO4 : Hid (Lies w4 w4.heap.size ao2 c2 xs) := Lib.hid ((HO3.out.below hb4).more hs4)
    dsimp only
    go_wp2_with fail
    refine (same_any ao2 ao c2 cap w4.heap.size w4.heap.size n n xs xs w4 HN.out HN.out HO4.out HL4.out hx hx).mono ?_
    rintro _ _ ⟨rfl, rfl⟩
    rw [decide_eq_true rfl]
    dsimp only
    go_wp2_with fail
    go_ret
    exact ⟨rfl, (hb12.trans (hb3.mono (by omega))).trans (hb4.mono (by omega))⟩

end Sha
end Go.Proofs.YtkmphpkobjhleaaDoor
