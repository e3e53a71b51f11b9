/- Right, of the code and of the reference. -/
import Derived.Test.YtdilbicdaljfkaaEnA
namespace Go.Proofs.Ytdilbicdaljfkaa
set_option maxRecDepth 20000
namespace En
open Go.RowKit Sha

theorem val_at (x : T) (b : Bool) (h : valid x = b) (W : World) : Calls Try.prog 28 #[.string ⟨x.toArray⟩] W fun e w' => e = .returned (.bool b) ∧ w' = W := by
  have := valid_any x W
  rw [h] at this
  exact this
theorem refval_at (x : T) (b : Bool) (h : valid x = b) (hl : x.length ≤ 140737488355328) (W : World) : Calls Try.prog 30 #[.string ⟨x.toArray⟩] W fun e w' => e = .returned (.bool b) ∧ w' = W := by
  have := refvalid_any x W hl
  rw [h] at this
  exact this
theorem num_at (n : Int) (b : Bool) (h : num n = b) (W : World) : Calls Try.prog 29 #[.int .i64 n] W fun e w' => e = .returned (.bool b) ∧ w' = W := by
  have := numbered_any n W
  rw [h] at this
  exact this.mono fun _ _ h => ⟨h.1, h.2.symm⟩

set_option maxHeartbeats 8000000 in
theorem right_any (l : List E) (ao : Option Addr) (cap : Nat) (w : World) (h : LiesE w w.heap.size ao cap l) :
    Calls Try.prog 11 #[.slice ao l.length cap] w fun e w' => e = .returned (.bool (rt l)) ∧ Below w.heap.size w w' := by
  by_cases hl : l.length ≤ 40
  · have HV : Hid (rt l = asc none l) := Lib.hid (by simp [rt, hl])
    generalize rt l = V at HV
    go_enter Try.func11, Try.ntmps11
    go_wp2
    go_loopw [10] (fun i wr => ∃ k : Nat, k ≤ l.length ∧ i = .int .i64 k ∧ Hid (asc none (l.take k) = true) ∧ Below w.heap.size w wr) (fun i _ => l.length - (intOf i).toNat)
    case atStart => exact ⟨0, Nat.zero_le _, rfl, Lib.hid rfl, Below.refl _ _⟩
    case round =>
      obtain ⟨k, hk, rfl, HC, hb⟩ := hrel
      have hbs := hb.size
      by_cases hlt : k < l.length
      · obtain ⟨b, off, rfl, hbb, c0, c1⟩ := (h.below hb).get hlt
        have HNX := Lib.hid (asc_next hlt)
        have HBD := Lib.hid (asc_bad hlt)
        have HPR : Hid (prev l k = if 0 < k then (l[k - 1]?).map (·.1) else none) := Lib.hid rfl
        have HB2 : ∀ o, Hid (Below w.heap.size w (wr.alloc o)) := fun o => Lib.hid (hb.alloc (by omega) o)
        have HPV : 0 < k → wr.cell? ⟨b, off + (k - 1) * 2, none⟩ = some (.string ⟨(l.getD (k - 1) default).1.toArray⟩) := fun h0 => by
          obtain ⟨_, d0, _⟩ := (h.below hb).get2 (i := k - 1) (by omega)
          rw [d0, List.getD_eq_getElem?_getD, List.getElem?_eq_getElem (by omega)]
          rfl
        have HPP : 0 < k → prev l k = some (l.getD (k - 1) default).1 := fun h0 => by
          rw [HPR.out, if_pos h0, List.getD_eq_getElem?_getD, List.getElem?_eq_getElem (by omega)]; rfl
        clear h
        generalize prev l k = p at HNX HBD HPR HPP
        generalize (l.getD (k - 1) default).1 = y at HPV HPP
        generalize l[k] = x at c0 c1 HNX HBD
        obtain ⟨x, n⟩ := x
        simp only at c0 c1
        by_cases hv : valid x = true
        · by_cases hn : num n = true
          · by_cases h0 : 0 < k
            · have d0 := HPV h0
              have hp := HPP h0
              have hw1 : IntKind.i64.wrap ((k : Int) - 1) = ((k - 1 : Nat) : Int) := by rw [IntKind.wrap_i64]; omega
              have h0' : (0 : Int) < (k : Int) := by omega
              clear HPR HPP HPV
              subst hp
              have d0' : ∀ o, (wr.alloc o).cell? ⟨b, off + (k - 1) * 2, none⟩ = some (.string ⟨y.toArray⟩) := fun o => (World.cell?_alloc_lt wr o _ (show b < wr.heap.size by omega)).trans d0
              clear d0
              cases hy : Op.bytesLess y x with
              | true =>
                have hok : ok1 (some y) (x, n) = true := by simp [ok1, hv, hn, lt, hy]
                clear HBD HV
                go_wp2
                go_quiet ((first | (go_at_call 28; exact Calls.quiet_of_same (val_at x true hv _)) | (go_at_call 29; exact Calls.quiet_of_same (num_at n true hn _))))
                go_wp2
                go_roundw
                case rel => exact ⟨k + 1, by omega, by go_num, Lib.hid (by rw [HNX.out, HC.out, hok]; rfl), below_drewN (HB2 _).out _⟩
                case measure => simp [intOf]; omega
              | false =>
                have hok : ok1 (some y) (x, n) = false := by simp [ok1, lt, hy]
                clear HNX HC
                go_wp2
                go_quiet ((first | (go_at_call 28; exact Calls.quiet_of_same (val_at x true hv _)) | (go_at_call 29; exact Calls.quiet_of_same (num_at n true hn _))))
                go_wp2
                go_ret
                exact ⟨ret_b rfl (by rw [HV.out, HBD.out hok]), below_drewN (HB2 _).out _⟩
            · have hp : p = none := by rw [HPR.out, if_neg h0]
              have h0' : ¬ (0 : Int) < (k : Int) := by omega
              clear HPP HPV
              subst hp
              have hok : ok1 none (x, n) = true := by simp [ok1, hv, hn]
              clear HBD HV HPR
              go_wp2
              go_quiet ((first | (go_at_call 28; exact Calls.quiet_of_same (val_at x true hv _)) | (go_at_call 29; exact Calls.quiet_of_same (num_at n true hn _))))
              go_wp2
              go_roundw
              case rel => exact ⟨k + 1, by omega, by go_num, Lib.hid (by rw [HNX.out, HC.out, hok]; rfl), below_drewN (HB2 _).out _⟩
              case measure => simp [intOf]; omega
          · have hn' : num n = false := by simpa using hn
            clear HPP HPV
            have hok : ok1 p (x, n) = false := by simp [ok1, hn']
            clear HNX HC HPR
            go_wp2
            go_quiet ((first | (go_at_call 28; exact Calls.quiet_of_same (val_at x true hv _)) | (go_at_call 29; exact Calls.quiet_of_same (num_at n false hn' _))))
            go_wp2
            go_ret
            exact ⟨ret_b rfl (by rw [HV.out, HBD.out hok]), below_drewN (HB2 _).out _⟩
        · have hv' : valid x = false := by simpa using hv
          clear HPP HPV
          have hok : ok1 p (x, n) = false := by simp [ok1, hv']
          clear HNX HC HPR
          go_wp2
          go_quiet ((first | (go_at_call 28; exact Calls.quiet_of_same (val_at x false hv' _))))
          go_wp2
          go_ret
          exact ⟨ret_b rfl (by rw [HV.out, HBD.out hok]), below_drewN (HB2 _).out _⟩
      · obtain rfl : k = l.length := by omega
        have hC := HC.out
        rw [List.take_length] at hC
        have hVt : V = true := HV.out.trans hC
        clear hC HC HV
        go_wp2
        go_ret
        exact ⟨ret_b rfl hVt.symm, hb⟩
  · have hr : rt l = false := by simp [rt, hl]
    rw [hr]
    go_enter Try.func11, Try.ntmps11
    go_wp2
    go_ret
    exact ⟨rfl, Below.refl _ _⟩
end En
end Go.Proofs.Ytdilbicdaljfkaa
