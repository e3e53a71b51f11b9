/- Valid, of the code and of the reference. -/
import Derived.Test.YtdilbicdaljfkaaRows
import Derived.WalkKit
import Derived.Handy
import Derived.Lib.Hide
import Derived.Lib.IndexBytes
import Derived.Outline
import Derived.Laws.Cover1
import Derived.Test.YtdilbicdaljfkaaEnM
import Derived.Test.YtdilbicdaljfkaaEnSh
namespace Go.Proofs.Ytdilbicdaljfkaa
set_option maxRecDepth 20000
namespace En
open Go.RowKit

theorem ix_none (l : List UInt8) (c : UInt8) : (Lib.indexByte l c < 0) ↔ c ∉ l := by
  induction l with
  | nil => simp [Lib.indexByte]
  | cons b l ih =>
    have hg := Lib.indexByte_ge l c
    unfold Lib.indexByte
    by_cases h : b = c
    · subst h; simp
    · have h' : (b == c) = false := by simpa using h
      rw [h']
      simp only [Bool.false_eq_true, if_false, List.mem_cons, not_or, Ne.symm h, not_false_eq_true, true_and]
      rw [← ih]
      split
      · rename_i e
        have := beq_iff_eq.1 e
        omega
      · rename_i e
        have : Lib.indexByte l c ≠ -1 := fun x => e (by simp [x])
        omega

theorem ret_b {v : Value} {b c : Bool} (hv : v = .bool b) (h : b = c) : Ending.returned v = .returned (.bool c) := by rw [hv, h]

set_option maxHeartbeats 1000000 in
theorem valid_any (s : T) (w : World) : Calls Try.prog 28 #[.string ⟨s.toArray⟩] w fun e w' => e = .returned (.bool (valid s)) ∧ w' = w := by
  have h47 := ix_none s 47
  have h0 := ix_none s 0
  have HA := Lib.hid (fun W => EnS.strings_IndexByte ⟨s.toArray⟩ 47 W)
  have HB := Lib.hid (fun W => EnS.strings_IndexByte ⟨s.toArray⟩ 0 W)
  have e47 : (47 : Int).toNat.toUInt8 = 47 := rfl
  have e0 : (0 : Int).toNat.toUInt8 = 0 := rfl
  rw [e47] at HA
  rw [e0] at HB
  generalize Lib.indexByte s 47 = x at HA h47
  generalize Lib.indexByte s 0 = y at HB h0
  have hv : valid s = decide (1 ≤ s.length ∧ s.length ≤ 24 ∧ s ≠ [46] ∧ s ≠ [46, 46] ∧ x < 0 ∧ y < 0) := by unfold valid; simp only [h47, h0]
  have HV := Lib.hid hv
  generalize valid s = V at HV
  clear h47 h0 hv
  go_enter Try.func28, Try.ntmps28
  go_wp2_with (first
    | (go_at_call 37; (first | (refine (HA.out _).mono ?_) | (refine (HB.out _).mono ?_)); rintro _ _ ⟨rfl, rfl⟩)
    | go_in)
  all_goals go_ret
  all_goals (refine ⟨ret_b rfl ?_, rfl⟩; rw [HV.out])
  all_goals try grind

theorem und_str : Try.prog.underlying 9 = some .string := by kernel_rfl
theorem run_idx (s : T) (k : Nat) (h : k < s.length) (w : World) : (Instr.index 9 (.string ⟨s.toArray⟩) (.int .i64 (k : Int))).run Try.prog w = .ok (.int .u8 (s[k].toNat : Int)) w := by
  rw [run_index_string w 9 _ _ _ und_str]
  have hs : (⟨s.toArray⟩ : ByteArray).size = s.length := by simp [ByteArray.size]
  rw [dif_pos ⟨by omega, by rw [hs]; omega⟩]
  rfl
theorem mem_u8 {s : T} {k : Nat} (hk : k < s.length) (c : UInt8) (h : (s[k].toNat : Int) = c.toNat) : c ∈ s := by
  have e : s[k] = c := UInt8.toNat.inj (by omega)
  rw [← e]
  exact List.getElem_mem hk

set_option maxHeartbeats 1000000 in
theorem refvalid_any (s : T) (w : World) (hl : s.length ≤ 140737488355328) : Calls Try.prog 30 #[.string ⟨s.toArray⟩] w fun e w' => e = .returned (.bool (valid s)) ∧ w' = w := by
  have HV : Hid (valid s = decide (1 ≤ s.length ∧ s.length ≤ 24 ∧ s ≠ [46] ∧ s ≠ [46, 46] ∧ (47 : UInt8) ∉ s ∧ (0 : UInt8) ∉ s)) := Lib.hid rfl
  generalize valid s = V at HV
  go_enter Try.func30, Try.ntmps30
  go_wp2
  go_loopw [3] (fun i wr => ∃ k : Nat, k ≤ s.length ∧ i = .int .i64 k ∧ Hid (∀ j, (h : j < s.length) → j < k → s[j] ≠ 47 ∧ s[j] ≠ 0) ∧ wr = w) (fun i _ => s.length - (intOf i).toNat)
  case atStart => exact ⟨0, Nat.zero_le _, rfl, Lib.hid (fun j _ h => by omega), rfl⟩
  case round =>
    obtain ⟨k, hk, rfl, HC, rfl⟩ := hrel
    by_cases hlt : k < s.length
    · go_wp2
      · go_ret
        have h : (s[k].toNat : Int) = 47 := by assumption
        have hm : (47 : UInt8) ∈ s := mem_u8 hlt 47 h
        exact ⟨ret_b rfl (by rw [HV.out]; simp [hm]), rfl⟩
      · go_ret
        have h : ((s[k].toNat : Int) == 47) = true ∨ ((s[k].toNat : Int) == 0) = true := by assumption
        have hm : (47 : UInt8) ∈ s ∨ (0 : UInt8) ∈ s := by
          rcases h with h | h
          · exact .inl (mem_u8 hlt 47 (beq_iff_eq.1 h))
          · exact .inr (mem_u8 hlt 0 (beq_iff_eq.1 h))
        refine ⟨ret_b rfl ?_, rfl⟩
        rw [HV.out]
        rcases hm with hm | hm
        · simp [hm]
        · simp [hm]
      · have h : ((s[k].toNat : Int) == 47) = false ∧ ((s[k].toNat : Int) == 0) = false := by assumption
        have h1 : s[k] ≠ 47 := fun e => by simp [e] at h
        have h2 : s[k] ≠ 0 := fun e => by simp [e] at h
        go_roundw
        case rel =>
          refine ⟨k + 1, by omega, by go_num, Lib.hid (fun j hj hjk => ?_), trivial⟩
          by_cases e : j = k
          · subst e; exact ⟨h1, h2⟩
          · exact HC.out j hj (by omega)
        case measure => simp [intOf]; omega
    · have hn : (47 : UInt8) ∉ s ∧ (0 : UInt8) ∉ s := by
        constructor <;> intro hm <;> obtain ⟨j, hj, e⟩ := List.getElem_of_mem hm
        · exact (HC.out j hj (by omega)).1 e
        · exact (HC.out j hj (by omega)).2 e
      have HV2 : Hid (V = decide (1 ≤ s.length ∧ s.length ≤ 24 ∧ s ≠ [46] ∧ s ≠ [46, 46])) := Lib.hid (by rw [HV.out]; simp [hn.1, hn.2])
      clear HV hn
      go_wp2
      all_goals go_ret
      all_goals (refine ⟨ret_b rfl ?_, rfl⟩; rw [HV2.out])
      all_goals grind
theorem numbered_any (n : Int) (w : World) : Calls Try.prog 29 #[.int .i64 n] w fun e w' => e = .returned (.bool (num n)) ∧ w = w' := by
  by_cases h1 : 1 ≤ n
  · by_cases h2 : n ≤ 64
    · go_enter Try.func29, Try.ntmps29
      go_wp2
      go_ret
      exact ⟨by simp [num, h1, h2], rfl⟩
    · go_enter Try.func29, Try.ntmps29
      go_wp2
      go_ret
      exact ⟨by simp [num, h1, h2], rfl⟩
  · go_enter Try.func29, Try.ntmps29
    go_wp2
    go_ret
    exact ⟨by simp [num, show ¬ 1 ≤ n by omega], rfl⟩
theorem size_mk (x : T) : (⟨x.toArray⟩ : ByteArray).size = x.length := by simp [ByteArray.size]
theorem clone_any (x : T) (w : World) (hx : x.length ≤ 140737488355328) : Calls Try.prog 34 #[.string ⟨x.toArray⟩] w fun e w' => e = .returned (.string ⟨x.toArray⟩) ∧ Below w.heap.size w w' := by
  have HC := Lib.hid (fun W => EnS.stringslite_Clone ⟨x.toArray⟩ W (by rw [size_mk]; omega))
  go_enter Try.func34, Try.ntmps34
  go_wp2_with (go_at_call 38; refine (HC.out _).mono ?_; rintro _ _ ⟨rfl, hb⟩)
  go_ret
  exact ⟨rfl, by assumption⟩
end En
end Go.Proofs.Ytdilbicdaljfkaa
