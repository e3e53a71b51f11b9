/- The reference's Pad. -/
import Derived.Test.YtllejfnmbpjhaaaDoorShaPad
namespace Go.Proofs.YtllejfnmbpjhaaaDoor
set_option maxRecDepth 20000
namespace Sha
open Go.RowKit

def vlen : Value → Nat
  | .slice _ n _ => n
  | _ => 0
theorem lies_one (w : World) (x : Int) : Lies (w.alloc (.cells #[.int .u8 x] 5)) (w.heap.size + 1) (some ⟨w.heap.size, 0, none⟩) 1 [x] := by
  refine ⟨by simp, by simp, fun _ => ⟨w.heap.size, 0, rfl, by omega, fun i hi => ?_⟩⟩
  obtain rfl : i = 0 := by simpa using hi
  simp

theorem pf_zero (n k : Nat) (h : k < zr n) : pf n (zr n) (1 + k) = 0 := by
  unfold pf; rw [if_neg (by omega), if_pos (by omega)]
theorem pf_first (n : Nat) : padK n 1 = [128] := by simp [padK, pf]

theorem pf_byte (n z j : Nat) : 8 * (n : Int) / 2 ^ (56 - 8 * j) % 256 = pf n z (1 + z + j) := (pf_at n z (1 + z + j) j rfl).symm
structure PadW (w : World) (xs : List Int) (n k : Nat) (v : Value) (wr : World) : Prop where
  own : wr.ownsRow w.heap.size 5 1 v (xs ++ padK n k).length (bys (xs ++ padK n k))
  below : Below w.heap.size w wr

set_option maxHeartbeats 1000000 in
theorem refpad_any (n : Nat) (ao : Option Addr) (cap : Nat) (xs : List Int) (w : World) (hn : n = xs.length) (hl : Lies w w.heap.size ao cap xs) (hlen : n ≤ 140737488351232) :
    Calls Tryd.prog 87 #[.slice ao n cap] w fun e w' => ∃ v, e = .returned v ∧ w'.ownsRow w.heap.size 5 1 v (xs ++ padL n).length (bys (xs ++ padL n)) ∧ Below w.heap.size w w' := by
  have HL := Lib.hid hl
  have HN := Lib.hid hn
  clear hl hn
  obtain ⟨z, hz⟩ : ∃ z, z = zr n := ⟨_, rfl⟩
  have hz64 : z < 64 := by rw [hz]; unfold zr; omega
  have HZ := Lib.hid hz
  clear hz
  go_enter Tryd.func87, Tryd.ntmps87
  go_wp2_with fail
  rw [HN.out]
  refine (copy_any ao cap xs w HL.out (by have := HN.out; omega)).mono ?_
  rw [← HN.out]
  rintro _ w1 ⟨v1, rfl, hown1, hb1⟩
  dsimp only
  have hs1 := hb1.size
  go_wp2_with (at_builtin; refine append_lies rfl (.tmp 7) (.tmp 8) rfl w.heap.size v1 xs rfl ((by rw [← HN.out]; exact hown1 : w1.ownsRow w.heap.size 5 1 v1 xs.length (bys xs)).alloc _) (w1.heap.size + 1) _ 1 [128] 1 rfl rfl (lies_one w1 128) (by have := HN.out; simp only [List.length_cons, List.length_nil]; omega) (by simp; omega) ?_; intro v2 w2 hown2 hg2)
  have hb2 : Below w.heap.size w w2 := (hb1.alloc hs1 (.cells #[.int .u8 128] 5)).grown hg2 (by simp; omega) (fun k hk => (hown1.lt k hk).1)
  rw [← pf_first n] at hown2
  have HR : Hid (PadW w xs n 1 v2 w2) := ⟨hown2, hb2⟩
  clear hown2 hb2 hg2 hown1 hb1 hs1
  go_loopw [3] (fun v wr => ∃ k : Nat, k ≤ z ∧ PadW w xs n (1 + k) v wr) (fun v _ => (n + 1 + z) - vlen v)
  case atStart => exact ⟨0, by omega, HR.out⟩
  case round =>
    clear HR
    obtain ⟨k, hk, hP⟩ := hrel
    obtain ⟨a1, c1, hv⟩ := own_form hP.own
    subst hv
    obtain ⟨L, hL⟩ : ∃ L, L = (xs ++ padK n (1 + k)).length := ⟨_, rfl⟩
    have hL2 : L = n + 1 + k := by rw [hL, List.length_append, padK_length, ← HN.out]; omega
    rw [← hL] at hP ⊢
    have HLL := Lib.hid hL
    have hsz := hP.below.size
    by_cases hlt : k < z
    · have t1 : ((L : Int) % 64 != 56) = true := by
        have := HZ.out
        rw [bne_iff_ne]; unfold zr at this; omega
      have t2 : ((L : Int) % 64 == 56) = false := by
        have := HZ.out
        rw [beq_eq_false_iff_ne]; unfold zr at this; omega
      have HL2 := Lib.hid hL2
      clear hL hL2
      go_wp2_with (at_builtin; refine append_lies rfl (.tmp 14) (.tmp 15) rfl w.heap.size _ (xs ++ padK n (1 + k)) rfl (hP.own.alloc _) (wr.heap.size + 1) _ 1 [0] 1 rfl rfl (lies_one wr 0) (by have := HLL.out; have := HL2.out; simp only [List.length_cons, List.length_nil]; omega) (by simp; omega) ?_; intro v2 w2 hown2 hg2)
      go_roundw
      case rel =>
        refine ⟨k + 1, by omega, ?_, ?_⟩
        · rw [show 1 + (k + 1) = (1 + k) + 1 by omega, padK_next, pf_zero n k (by rw [← HZ.out]; exact hlt), ← List.append_assoc]; exact hown2
        · exact (hP.below.alloc hsz (.cells #[.int .u8 0] 5)).grown hg2 (by simp; omega) (fun g hg => (hP.own.lt g hg).1)
      case measure =>
        obtain ⟨a3, c3, hv3⟩ := own_form hown2
        subst hv3
        have := HL2.out
        have := HLL.out
        simp only [vlen, List.length_append, List.length_cons, List.length_nil] at *
        omega
    · obtain rfl : k = z := by omega
      have t1 : ((L : Int) % 64 != 56) = false := by
        have := HZ.out
        rw [bne_eq_false_iff_eq]; unfold zr at this; omega
      have t2 : ((L : Int) % 64 == 56) = true := by
        have := HZ.out
        rw [beq_iff_eq]; unfold zr at this; omega
      clear hL hL2 hlt hk
      have HP := Lib.hid hP
      clear hP hsz
      go_wp2_with fail
      go_loopw [3, 5] (fun v s wr => ∃ j : Nat, j ≤ 8 ∧ s = .int .i64 (56 - 8 * (j : Int)) ∧ PadW w xs n (1 + k + j) v wr) (fun _ s _ => (intOf s + 8).toNat)
      case atStart => exact ⟨0, by omega, rfl, HP.out⟩
      case round =>
        clear HP HLL t1 t2
        obtain ⟨j, hj, rfl, hP⟩ := hrel
        obtain ⟨a2, c2, hv⟩ := own_form hP.own
        subst hv
        obtain ⟨L2, hL⟩ : ∃ L, L = (xs ++ padK n (1 + k + j)).length := ⟨_, rfl⟩
        rw [← hL] at hP ⊢
        have HLL := Lib.hid hL
        have hsz := hP.below.size
        clear hL
        by_cases hlt : j < 8
        · have hpf := pf_byte n k j
          have HPF := Lib.hid hpf
          clear hpf
          go_wp2_with (at_builtin; refine append_lies rfl (.tmp 25) (.tmp 30) rfl w.heap.size _ (xs ++ padK n (1 + k + j)) rfl (hP.own.alloc _) (wr.heap.size + 1) _ 1 [_] 1 rfl rfl (lies_one wr _) (by have := HLL.out; have := HN.out; simp only [List.length_cons, List.length_nil, List.length_append, padK_length]; omega) (by simp; omega) ?_; intro v2 w2 hown2 hg2)
          go_roundw
          case rel =>
            refine ⟨j + 1, by omega, by go_num, ?_, ?_⟩
            · rw [show 1 + k + (j + 1) = (1 + k + j) + 1 by omega, padK_next, ← HZ.out, ← HPF.out, ← List.append_assoc]; exact hown2
            · exact (hP.below.alloc hsz _).grown hg2 (by simp; omega) (fun g hg => (hP.own.lt g hg).1)
          case measure => simp [intOf]; omega
        · obtain rfl : j = 8 := by omega
          have hfin := hP.own
          have hb := hP.below
          rw [show 1 + k + 8 = zr n + 9 by have := HZ.out; omega] at hfin
          clear hP
          go_wp2_with fail
          go_ret
          exact ⟨_, rfl, hfin, hb⟩

end Sha
end Go.Proofs.YtllejfnmbpjhaaaDoor
