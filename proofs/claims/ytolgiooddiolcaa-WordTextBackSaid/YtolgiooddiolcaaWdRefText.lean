/- The reference of word: Zero, PutText, TakeText; what isn't taken. -/
import Derived.Test.YtolgiooddiolcaaWdRef
namespace Go.Proofs.Ytolgiooddiolcaa
namespace WdRef
open Go.RowKit Byt Wd Go.PlainAid

set_option maxHeartbeats 400000 in
theorem take_no (ao : Option Addr) (n cap : Nat) (a k : Int) (w : World) (hn : n ≤ 140737488355328) (h : k < 1 ∨ k > 8 ∨ a < 0 ∨ a > n - k) :
    Calls Try.prog 14 #[.slice ao n cap, .int .i64 a, .int .i64 k] w fun e w' => e = .returned (.tuple #[.int .i64 0, .int .i64 1]) ∧ w = w' := by
  by_cases hp : k < 1 ∨ k > 8
  · clear h
    go_enter Try.func14, Try.ntmps14
    go_wp2_with fail
    all_goals
      go_ret2
      exact ⟨rfl, rfl⟩
  · have hr' := right_no ao n cap a k w hn (by omega) (by omega)
    clear h
    go_enter Try.func14, Try.ntmps14
    go_wp2_with fail
    refine hr'.mono ?_
    rintro _ _ ⟨rfl, rfl⟩
    dsimp only
    go_wp2_with fail
    go_ret2
    exact ⟨rfl, rfl⟩

set_option maxHeartbeats 400000 in
theorem zero_any (ao : Option Addr) (n cap : Nat) (f : Nat → Int) (w : World) (hr : Reads w ao n cap f) (hn : n ≤ 140737488355328) :
    Calls Try.prog 16 #[.slice ao n cap] w fun e w' => e = .returned (.bool (zeroB f n)) ∧ w = w' := by
  obtain ⟨hc, _, h0 | ⟨g, off, rfl, hr⟩⟩ := hr
  · subst h0
    go_enter Try.func16, Try.ntmps16
    go_wp2_with fail
    go_rounds 1
    go_ret
    exact ⟨rfl, rfl⟩
  have HR := Lib.hid hr
  clear hr
  obtain ⟨z, hz⟩ : ∃ z, z = zeroB f n := ⟨_, rfl⟩
  rw [← hz]
  have HZ := Lib.hid hz
  clear hz
  go_enter Try.func16, Try.ntmps16
  go_wp2_with fail
  go_loop [3] (fun i => ∃ j : Nat, j ≤ n ∧ i = .int .i64 j ∧ Hid (∀ i, i < j → f i = 0)) (fun i => n - (intOf i).toNat)
  case atStart => exact ⟨0, by omega, rfl, fun i hi => by omega⟩
  case round =>
    obtain ⟨j, hj, rfl, hz⟩ := hrel
    by_cases hlt : j < n
    · have hcell := HR.out j hlt
      by_cases hx : f j = 0
      · have hz' : Hid (∀ i, i < j + 1 → f i = 0) := Lib.hid fun i hi => by
          by_cases e : i = j
          · subst e; exact hx
          · exact hz.out i (by omega)
        go_wp2_with fail
        go_round
        case rel => exact ⟨j + 1, by omega, by go_num, hz'⟩
        case measure => simp [intOf]; omega
      · have hx' : (f j != 0) = true := by simpa using hx
        have hz' := Lib.hid (zeroB_false hlt hx)
        clear hx
        go_wp2_with fail
        go_ret
        exact ⟨congrArg (fun b => Ending.returned (.bool b)) (HZ.out.trans hz'.out).symm, rfl⟩
    · obtain rfl : j = n := by omega
      have hz' := Lib.hid (zeroB_true.2 hz.out)
      go_wp2_with fail
      go_ret
      exact ⟨congrArg (fun b => Ending.returned (.bool b)) (HZ.out.trans hz'.out).symm, rfl⟩

set_option maxHeartbeats 400000 in
theorem taketext_no (ao : Option Addr) (n cap : Nat) (a k : Int) (w : World) (hn : n ≤ 140737488355328) (h : k < 1 ∨ k > 256 ∨ a < 0 ∨ a > n - k) :
    Calls Try.prog 18 #[.slice ao n cap, .int .i64 a, .int .i64 k] w fun e w' => e = .returned (.tuple #[.string ⟨#[]⟩, .int .i64 1]) ∧ w = w' := by
  by_cases hp : k < 1 ∨ k > 256
  · clear h
    go_enter Try.func18, Try.ntmps18
    go_wp2_with fail
    all_goals
      go_ret2
      exact ⟨rfl, rfl⟩
  · have hr' := right_no ao n cap a k w hn (by omega) (by omega)
    clear h
    go_enter Try.func18, Try.ntmps18
    go_wp2_with fail
    refine hr'.mono ?_
    rintro _ _ ⟨rfl, rfl⟩
    dsimp only
    go_wp2_with fail
    go_ret2
    exact ⟨rfl, rfl⟩

set_option maxHeartbeats 400000 in
theorem taketext_ok (g off n cap a k m : Nat) (f : Nat → Int) (w : World) (hr : ∀ j, j < n → w.cell? ⟨g, off + j, none⟩ = some (.int .u8 (f j))) (hm : f a = m) (hm2 : m < 256) (hc : n ≤ cap) (hn : n ≤ 140737488355328) (h1 : 1 ≤ k) (h2 : k ≤ 256) (h3 : a + k ≤ n) :
    Calls Try.prog 18 #[.slice (some ⟨g, off, none⟩) n cap, .int .i64 a, .int .i64 k] w fun e w' => e = .returned (textVal f a k m) ∧ w = w' := by
  have hcell := hr a (by omega)
  rw [hm] at hcell
  have HR := Lib.hid hr
  have HM := Lib.hid hm
  clear hr hm
  have hpl := right_yes (some ⟨g, off, none⟩) n cap a k w hn h3
  by_cases hbig : k < m + 1
  · have he := Lib.hid (textVal_no (f := f) (a := a) (.inl hbig))
    go_enter Try.func18, Try.ntmps18
    go_wp2_with fail
    refine hpl.mono ?_
    rintro _ _ ⟨rfl, rfl⟩
    dsimp only
    go_wp2_with fail
    go_ret2
    exact ⟨congrArg Ending.returned he.out.symm, rfl⟩
  have hZ : ∀ ao n' c, n' = k - (1 + m) → Reads w ao (k - (1 + m)) c (fun i => f (a + 1 + m + i)) → Calls Try.prog 16 #[.slice ao n' c] w fun e w' => e = .returned (.bool (zeroB (fun i => f (a + 1 + m + i)) (k - (1 + m)))) ∧ w = w' := fun ao n' c e h => by
    subst e
    exact zero_any ao _ c _ w h (by omega)
  have hR : Reads w (some ⟨g, off + (a + 1 + m), none⟩) (k - (1 + m)) (cap - (a + 1 + m)) (fun i => f (a + 1 + m + i)) :=
    ⟨by omega, by simp, .inr ⟨g, _, rfl, fun j hj => by rw [Nat.add_assoc off (a + 1 + m) j]; exact HR.out _ (by omega)⟩⟩
  have hS : ∀ ao n' c, n' = m → Reads w ao m c (fun i => f (a + 1 + i)) → (convert 22 9 (.slice ao n' c)).run Try.prog w = .ok (.string (strOf (tab m fun i => f (a + 1 + i)))) w := fun ao n' c hn h => by
    subst hn
    have := run_str w w.heap.size ao c (tab n' fun i => f (a + 1 + i)) (reads_lies h)
    rwa [tab_length] at this
  have hT := fun h1 h2 => textVal_yes (f := f) (a := a) (k := k) (m := m) h1 h2
  generalize strOf (tab m fun i => f (a + 1 + i)) = S at hS hT
  have HS := Lib.hid hS
  have HP : Hid (Reads w (some ⟨g, off + (a + 1), none⟩) m m (fun i => f (a + 1 + i)) ∧ Reads w (some ⟨g, off + (a + 1), none⟩) m (cap - (a + 1)) (fun i => f (a + 1 + i))) := Lib.hid
    ⟨⟨by omega, by simp, .inr ⟨g, _, rfl, fun j hj => by rw [Nat.add_assoc off (a + 1) j]; exact HR.out _ (by omega)⟩⟩, ⟨by omega, by simp, .inr ⟨g, _, rfl, fun j hj => by rw [Nat.add_assoc off (a + 1) j]; exact HR.out _ (by omega)⟩⟩⟩
  clear hS
  have hbig' : m + 1 ≤ k := by omega
  by_cases hz : zeroB (fun i => f (a + 1 + m + i)) (k - (1 + m)) = true
  · have he := Lib.hid (hT hbig' hz)
    rw [hz] at hZ
    have HZ := Lib.hid hZ
    have HRR := Lib.hid hR
    clear hz hZ hR hT
    go_enter Try.func18, Try.ntmps18
    go_wp2_with fail
    refine hpl.mono ?_
    rintro _ _ ⟨rfl, rfl⟩
    dsimp only
    go_wp2_with fail
    all_goals
      refine (HZ.out _ _ _ (by omega) ?_).mono ?_
      · first | exact HRR.out | exact ⟨by omega, by simp, .inl (by omega)⟩
      rintro _ _ ⟨rfl, rfl⟩
      dsimp only
      go_wp2_with fail
      all_goals
        first
          | rw [HS.out _ _ _ (by omega) HP.out.1]
          | rw [HS.out _ _ _ (by omega) HP.out.2]
          | rw [HS.out _ _ _ (by omega) ⟨by omega, by simp, .inl (by omega)⟩]
        go_wp2_with fail
        go_ret2
        exact ⟨congrArg Ending.returned he.out.symm, rfl⟩
  · have hz' : zeroB (fun i => f (a + 1 + m + i)) (k - (1 + m)) = false := by simpa using hz
    have he := Lib.hid (textVal_no (f := f) (a := a) (k := k) (m := m) (.inr hz'))
    rw [hz'] at hZ
    have HZ := Lib.hid hZ
    have HRR := Lib.hid hR
    clear hz hz' hZ hR hT
    go_enter Try.func18, Try.ntmps18
    go_wp2_with fail
    refine hpl.mono ?_
    rintro _ _ ⟨rfl, rfl⟩
    dsimp only
    go_wp2_with fail
    all_goals
      refine (HZ.out _ _ _ (by omega) ?_).mono ?_
      · first | exact HRR.out | exact ⟨by omega, by simp, .inl (by omega)⟩
      rintro _ _ ⟨rfl, rfl⟩
      dsimp only
      go_wp2_with fail
      go_ret2
      exact ⟨congrArg Ending.returned he.out.symm, rfl⟩

set_option maxHeartbeats 400000 in
theorem puttext_no (ao : Option Addr) (n cap : Nat) (a k : Int) (s : ByteArray) (w : World) (hn : n ≤ 140737488355328) (h : k < 1 ∨ k > 256 ∨ a < 0 ∨ a > n - k ∨ (s.size : Int) > k - 1) (hs : s.size ≤ 140737488355328) :
    Calls Try.prog 20 #[.slice ao n cap, .int .i64 a, .int .i64 k, .string s] w fun e w' => e = .returned (.int .i64 1) ∧ w = w' := by
  by_cases hp : k < 1 ∨ k > 256
  · clear h
    go_enter Try.func20, Try.ntmps20
    go_wp2_with fail
    all_goals
      go_ret
      exact ⟨rfl, rfl⟩
  by_cases hr : a < 0 ∨ a > n - k
  · have hr' := right_no ao n cap a k w hn hr (by omega)
    clear h hr
    go_enter Try.func20, Try.ntmps20
    go_wp2_with fail
    refine hr'.mono ?_
    rintro _ _ ⟨rfl, rfl⟩
    dsimp only
    go_wp2_with fail
    go_ret
    exact ⟨rfl, rfl⟩
  · obtain ⟨a, rfl⟩ : ∃ m : Nat, a = m := ⟨a.toNat, by omega⟩
    obtain ⟨k, rfl⟩ : ∃ m : Nat, k = m := ⟨k.toNat, by omega⟩
    have hr' := right_yes ao n cap a k w hn (by omega)
    have hb : (k : Int) - 1 < (s.size : Int) := by omega
    clear h hr
    go_enter Try.func20, Try.ntmps20
    go_wp2_with fail
    refine hr'.mono ?_
    rintro _ _ ⟨rfl, rfl⟩
    dsimp only
    go_wp2_with fail
    go_ret
    exact ⟨rfl, rfl⟩

set_option maxHeartbeats 400000 in
theorem puttext_ok (g off n cap a k : Nat) (s : ByteArray) (f : Nat → Int) (w : World) (hr : Row w g off n f) (hc : n ≤ cap) (hn : n ≤ 140737488355328) (h1 : 1 ≤ k) (h2 : k ≤ 256) (h3 : a + k ≤ n) (hs : s.size + 1 ≤ k) :
    Calls Try.prog 20 #[.slice (some ⟨g, off, none⟩) n cap, .int .i64 a, .int .i64 k, .string s] w fun e w' =>
      e = .returned (.int .i64 0) ∧ w.grownBy w' (some g) ∧ Row w' g off n (mix f a k (roomF s)) := by
  have hcell := hr.cell (j := a) (by omega)
  have hfr := hr.free (off + a)
  have HR := Lib.hid hr
  clear hr
  go_enter Try.func20, Try.ntmps20
  go_wp2_with fail
  refine (right_yes (some ⟨g, off, none⟩) n cap a k w hn h3).mono ?_
  rintro _ _ ⟨rfl, rfl⟩
  dsimp only
  go_wp2_with fail
  have R1 := HR.out.store (a + 0) s.size
  have e0 : put f (a + 0) s.size = mix f a 1 (roomF s) := by
    have := put_mix f a 0 (roomF s)
    rw [mix_zero] at this
    exact this
  rw [e0] at R1
  have G1 := only_store (World.grownBy.refl w (some g)) (off + a) (.int .u8 s.size)
  rw [Nat.add_zero] at R1
  generalize w.setCell ⟨g, off + a, none⟩ (.int .u8 s.size) = w1 at R1 G1 ⊢
  have HR1 := Lib.hid R1
  have HG1 := Lib.hid G1
  have HB := Lib.hid (get_bt s)
  clear R1 G1 e0 hcell hfr
  go_loopw [9] (fun i wr => ∃ j : Nat, 1 ≤ j ∧ j ≤ k ∧ i = .int .i64 j ∧ w.grownBy wr (some g) ∧ Row wr g off n (mix f a j (roomF s))) (fun i _ => k - (intOf i).toNat)
  case atStart => exact ⟨1, by omega, by omega, rfl, HG1.out, HR1.out⟩
  case round =>
    obtain ⟨j, hj1, hj, rfl, hG, hR⟩ := hrel
    by_cases hlt : j < k
    · have hcell := hR.cell (j := a + j) (by omega)
      have hfr := hR.free (off + (a + j))
      have HG := Lib.hid hG
      have HRR := Lib.hid hR
      clear hG hR
      by_cases hle : j ≤ s.size
      · have hb := HB.out (j - 1) (by omega)
        have he : Hid (roomF s j = bt s (j - 1)) := Lib.hid (by unfold roomF; rw [if_neg (by omega), if_pos hle])
        have hs1 : (j : Int) ≤ (s.size : Int) := by omega
        have hj0 : (1 : Int) ≤ (j : Int) := by omega
        go_wp2_with fail
        go_roundw
        case rel =>
          refine ⟨j + 1, by omega, by omega, by go_num, only_store (only_store HG.out _ _) _ _, ?_⟩
          have := (HRR.out.store (a + j) 0).store (a + j) (roomF s j)
          rw [put_put, put_mix, he.out] at this
          exact this
        case measure => simp [intOf]; omega
      · have he : Hid (roomF s j = 0) := Lib.hid (by unfold roomF; rw [if_neg (by omega), if_neg hle])
        go_wp2_with fail
        go_roundw
        case rel =>
          refine ⟨j + 1, by omega, by omega, by go_num, only_store HG.out _ _, ?_⟩
          have := HRR.out.store (a + j) (roomF s j)
          rw [put_mix, he.out] at this
          exact this
        case measure => simp [intOf]; omega
    · obtain rfl : j = k := by omega
      go_wp2_with fail
      go_ret
      exact ⟨rfl, hG, hR⟩

end WdRef
end Go.Proofs.Ytolgiooddiolcaa
