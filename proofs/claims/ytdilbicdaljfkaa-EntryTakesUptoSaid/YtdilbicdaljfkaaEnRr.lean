/- Right, of the reference. -/
import Derived.Test.YtdilbicdaljfkaaEnR
namespace Go.Proofs.Ytdilbicdaljfkaa
set_option maxRecDepth 20000
namespace En
open Go.RowKit Sha

set_option maxHeartbeats 8000000 in
theorem refright_any (l : List E) (ao : Option Addr) (cap : Nat) (w : World) (h : LiesE w w.heap.size ao cap l) (hn : l.length ≤ 140737488355328) (hs : ∀ x ∈ l, x.1.length ≤ 140737488355328) :
    Calls Try.prog 12 #[.slice ao l.length cap] w fun e w' => e = .returned (.bool (rt l)) ∧ Below w.heap.size w w' := by
  have HV : Hid (rt l = (decide (l.length ≤ 40) && asc none l)) := Lib.hid rfl
  generalize rt l = V at HV
  go_enter Try.func12, Try.ntmps12
  go_wp2
  go_loopw [3] (fun i wr => ∃ k : Nat, k ≤ l.length ∧ i = .int .i64 k ∧ Hid (asc none (l.take k) = true) ∧ Below w.heap.size w wr) (fun i _ => l.length - (intOf i).toNat)
  case atStart => exact ⟨0, Nat.zero_le _, rfl, Lib.hid rfl, Below.refl _ _⟩
  case round =>
    obtain ⟨k, hk, rfl, HC, hb⟩ := hrel
    have hbs := hb.size
    by_cases hlt : k < l.length
    · obtain ⟨b, off, rfl, hbb, c0, c1⟩ := (h.below hb).get hlt
      have HNX := Lib.hid (asc_next hlt)
      have HBD := Lib.hid (asc_bad hlt)
      have HXL := hs _ (List.getElem_mem hlt)
      have HPR : Hid (prev l k = if 0 < k then (l[k - 1]?).map (·.1) else none) := Lib.hid rfl
      have HPV : 0 < k → wr.cell? ⟨b, off + (k - 1) * 2, none⟩ = some (.string ⟨(l.getD (k - 1) default).1.toArray⟩) := fun h0 => by
        obtain ⟨_, d0, _⟩ := (h.below hb).get2 (i := k - 1) (by omega)
        rw [d0, List.getD_eq_getElem?_getD, List.getElem?_eq_getElem (by omega)]
        rfl
      have HPP : 0 < k → prev l k = some (l.getD (k - 1) default).1 := fun h0 => by
        rw [HPR.out, if_pos h0, List.getD_eq_getElem?_getD, List.getElem?_eq_getElem (by omega)]; rfl
      clear h hs
      generalize prev l k = p at HNX HBD HPR HPP
      generalize (l.getD (k - 1) default).1 = y at HPV HPP
      generalize l[k] = x at c0 c1 HNX HBD HXL
      obtain ⟨x, n⟩ := x
      simp only at c0 c1 HXL
      by_cases hv : valid x = true
      · by_cases hn1 : n < 1
        · have hok : ok1 p (x, n) = false := by simp [ok1, num, show ¬ 1 ≤ n by omega]
          clear HNX HC HPR HPP HPV
          go_wp2
          go_quiet ((go_at_call 30; exact Calls.quiet_of_same (refval_at x true hv HXL _)))
          go_wp2
          go_ret
          exact ⟨ret_b rfl (by rw [HV.out, HBD.out hok, Bool.and_false]), below_drewN hb _⟩
        have hd1 : decide (n < 1) = false := by simp; omega
        by_cases hn2 : 64 < n
        · have hok : ok1 p (x, n) = false := by simp [ok1, num, show ¬ n ≤ 64 by omega]
          have hd2 : decide (64 < n) = true := by simp; omega
          clear HNX HC HPR HPP HPV
          go_wp2
          go_quiet ((go_at_call 30; exact Calls.quiet_of_same (refval_at x true hv HXL _)))
          go_wp2
          go_ret
          exact ⟨ret_b rfl (by rw [HV.out, HBD.out hok, Bool.and_false]), below_drewN hb _⟩
        have hd2 : decide (64 < n) = false := by simp; omega
        have hn : num n = true := by simp [num]; omega
        by_cases h0 : 0 < k
        · have d0 := HPV h0
          have hp := HPP h0
          have hw1 : IntKind.i64.wrap ((k : Int) - 1) = ((k - 1 : Nat) : Int) := by rw [IntKind.wrap_i64]; omega
          have h0' : decide ((0 : Int) < (k : Int)) = true := by simp; omega
          have hk1 : k - 1 < l.length := by omega
          have hk2 : (((k - 1 : Nat)) : Int) < (l.length : Int) := by omega
          clear HPR HPP HPV
          subst hp
          cases hy : Op.bytesLess y x with
          | true =>
            have hok : ok1 (some y) (x, n) = true := by simp [ok1, hv, hn, lt, hy]
            clear HBD HV
            go_wp2
            go_quiet ((go_at_call 30; exact Calls.quiet_of_same (refval_at x true hv HXL _)))
            go_wp2
            go_roundw
            case rel => exact ⟨k + 1, by omega, by go_num, Lib.hid (by rw [HNX.out, HC.out, hok]; rfl), below_drewN hb _⟩
            case measure => simp [intOf]; omega
          | false =>
            have hok : ok1 (some y) (x, n) = false := by simp [ok1, lt, hy]
            clear HNX HC
            go_wp2
            go_quiet ((go_at_call 30; exact Calls.quiet_of_same (refval_at x true hv HXL _)))
            go_wp2
            go_ret
            exact ⟨ret_b rfl (by rw [HV.out, HBD.out hok, Bool.and_false]), below_drewN hb _⟩
        · have hp : p = none := by rw [HPR.out, if_neg h0]
          have h0' : decide ((0 : Int) < (k : Int)) = false := by simp; omega
          clear HPP HPV
          subst hp
          have hok : ok1 none (x, n) = true := by simp [ok1, hv, hn]
          clear HBD HV HPR
          go_wp2
          go_quiet ((go_at_call 30; exact Calls.quiet_of_same (refval_at x true hv HXL _)))
          go_wp2
          go_roundw
          case rel => exact ⟨k + 1, by omega, by go_num, Lib.hid (by rw [HNX.out, HC.out, hok]; rfl), below_drewN hb _⟩
          case measure => simp [intOf]; omega
      · have hv' : valid x = false := by simpa using hv
        have hok : ok1 p (x, n) = false := by simp [ok1, hv']
        clear HNX HC HPR HPP HPV
        go_wp2
        go_quiet ((go_at_call 30; exact Calls.quiet_of_same (refval_at x false hv' HXL _)))
        go_wp2
        go_ret
        exact ⟨ret_b rfl (by rw [HV.out, HBD.out hok, Bool.and_false]), below_drewN hb _⟩
    · obtain rfl : k = l.length := by omega
      have hC := HC.out
      rw [List.take_length] at hC
      have hVt : V = decide (l.length ≤ 40) := by rw [HV.out, hC, Bool.and_true]
      clear hC HC HV
      by_cases h40 : l.length ≤ 40
      · go_wp2
        go_ret
        exact ⟨ret_b rfl (by rw [hVt]; simp; omega), hb⟩
      · go_wp2
        go_ret
        exact ⟨ret_b rfl (by rw [hVt]; simp; omega), hb⟩
end En
end Go.Proofs.Ytdilbicdaljfkaa
