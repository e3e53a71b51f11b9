/- Copy and Same of entries, the reference's. -/
import Derived.Test.YtdilbicdaljfkaaEnP
namespace Go.Proofs.Ytdilbicdaljfkaa
set_option maxRecDepth 20000
namespace En
open Go.RowKit Sha

set_option maxHeartbeats 1000000 in
theorem copyE_any (l : List E) (ao : Option Addr) (cap : Nat) (w : World) (h : LiesE w w.heap.size ao cap l) (hn : l.length * 24 ≤ 140737488355328) :
    Calls Try.prog 9 #[.slice ao l.length cap] w fun e w' => ∃ v, e = .returned v ∧ OwnE w' w.heap.size v l ∧ Below w.heap.size w w' := by
  have hb0 : Below w.heap.size w (w.alloc (.cells #[] 44)) := (Below.refl _ _).alloc (Nat.le_refl _) _
  have hl := h.to hb0 hb0.size
  have hO : OwnE (w.alloc (.cells #[] 44)) w.heap.size (.slice (some ⟨w.heap.size, 0, none⟩) 0 0) [] := World.ownsRow_lit w #[] 0 (Nat.le_refl _) (by decide) rfl
  go_enter Try.func9, Try.ntmps9
  go_wp2_with (at_builtin; refine wpList_appE rfl (.tmp 3) (.tmp 4) rfl w.heap.size _ [] l rfl hO _ ao l.length cap rfl rfl hl (by simpa using hn) (by simp) ?_; intro v' w' hown hb1 _)
  go_ret
  exact ⟨v', rfl, by simpa using hown, hb0.trans hb1⟩

set_option maxHeartbeats 2000000 in
theorem sameE_any (l m : List E) (ao bo : Option Addr) (cap cap2 : Nat) (w : World) (hx : LiesE w w.heap.size ao cap l) (hy : LiesE w w.heap.size bo cap2 m) (hn : l.length ≤ 140737488355328) (hm : m.length ≤ 140737488355328) :
    Calls Try.prog 13 #[.slice ao l.length cap, .slice bo m.length cap2] w fun e w' => e = .returned (.bool (decide (l = m))) ∧ Below w.heap.size w w' := by
  by_cases hl : l.length = m.length
  · have HS : Hid ((∀ k, (h : k < l.length) → (h2 : k < m.length) → l[k] = m[k]) → decide (l = m) = true) := Lib.hid fun h => by
      simp only [decide_eq_true_eq]
      exact List.ext_getElem hl h
    have HD : Hid (∀ k, (h : k < l.length) → (h2 : k < m.length) → l[k] ≠ m[k] → decide (l = m) = false) := Lib.hid fun k h h2 hne => by
      simp only [decide_eq_false_iff_not]
      rintro rfl
      exact hne rfl
    generalize decide (l = m) = R at HS HD
    rw [← hl]
    have HL := Lib.hid hl
    clear hl hm
    go_enter Try.func13, Try.ntmps13
    go_wp2
    go_loopw [5] (fun i wr => ∃ k : Nat, k ≤ l.length ∧ i = .int .i64 k ∧ Hid (∀ j, (h : j < l.length) → (h2 : j < m.length) → j < k → l[j] = m[j]) ∧ Below w.heap.size w wr) (fun i _ => l.length - (intOf i).toNat)
    case atStart => exact ⟨0, Nat.zero_le _, rfl, Lib.hid (fun j _ _ h => by omega), Below.refl _ _⟩
    case round =>
      obtain ⟨k, hk, rfl, HC, hb⟩ := hrel
      by_cases hlt : k < l.length
      · have hlt2 : k < m.length := by have := HL.out; omega
        obtain ⟨b, off, rfl, hbb, c0, c1⟩ := (hx.below hb).get hlt
        obtain ⟨b2, off2, rfl, hbb2, d0, d1⟩ := (hy.below hb).get hlt2
        have HD2 := Lib.hid (HD.out k hlt hlt2)
        have HC2 : Hid (l[k] = m[k] → ∀ j, (h : j < l.length) → (h2 : j < m.length) → j < k + 1 → l[j] = m[j]) := Lib.hid fun e j h h2 hj => by
          by_cases e2 : j = k
          · subst e2; exact e
          · exact HC.out j h h2 (by omega)
        clear hx hy HC HD
        generalize l[k] = x at c0 c1 HD2 HC2
        generalize m[k] = y at d0 d1 HD2 HC2
        obtain ⟨x, n⟩ := x
        obtain ⟨y, n2⟩ := y
        simp only at c0 c1 d0 d1
        by_cases hxy : x = y
        · subst hxy
          by_cases hnn : n = n2
          · subst hnn
            go_wp2
            go_quiet (fail)
            go_wp2
            go_roundw
            case rel => exact ⟨k + 1, by omega, by go_num, Lib.hid (HC2.out trivial), below_drewN hb nq⟩
            case measure => simp [intOf]; omega
          · have h1 : (n == n2) = false := by simp [hnn]
            go_wp2
            go_quiet (fail)
            go_wp2
            go_ret
            exact ⟨ret_b rfl (HD2.out (by simp [hnn])).symm, below_drewN hb nq⟩
        · have h1 : (x == y) = false := by simp [hxy]
          go_wp2
          go_quiet (fail)
          go_wp2
          go_ret
          exact ⟨ret_b rfl (HD2.out (by simp [hxy])).symm, below_drewN hb nq⟩
      · have hR := HS.out fun j h h2 => HC.out j h h2 (by omega)
        clear hx hy HC HD HS
        subst hR
        go_wp2
        go_ret
        exact ⟨rfl, hb⟩
  · have hR : decide (l = m) = false := by
      simp only [decide_eq_false_iff_not]
      rintro rfl
      exact hl rfl
    rw [hR]
    have hli : ¬ ((l.length : Nat) : Int) = (m.length : Int) := by omega
    go_enter Try.func13, Try.ntmps13
    go_wp2
    go_ret
    exact ⟨rfl, Below.refl _ _⟩
end En
end Go.Proofs.Ytdilbicdaljfkaa
