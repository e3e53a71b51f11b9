/- word: PutText, TakeText. -/
import Derived.Test.YtolgiooddiolcaaWd
import Derived.Test.YtolgiooddiolcaaRowStr
namespace Go.Proofs.Ytolgiooddiolcaa
namespace Wd
open Go.RowKit Byt Go.PlainAid

theorem reads_lies {w : World} {ao : Option Addr} {n cap : Nat} {f : Nat → Int} (h : Reads w ao n cap f) : Lies w w.heap.size ao cap (tab n f) := by
  obtain ⟨hc, hn, h0⟩ := h
  refine ⟨by simpa using hc, hn, fun hne => ?_⟩
  rcases h0 with rfl | ⟨g, off, rfl, hr⟩
  · exact absurd rfl hne
  · by_cases hz : n = 0
    · subst hz; exact absurd rfl hne
    · refine ⟨g, off, rfl, block_lt_of_cell (hr 0 (by omega)), fun i hi => ?_⟩
      rw [tab_length] at hi
      rw [hr i hi, tab_getD n f hi]
/-- what TakeText answers at a right place -/
def textVal (f : Nat → Int) (a k m : Nat) : Value :=
  if m + 1 ≤ k ∧ zeroB (fun i => f (a + 1 + m + i)) (k - (1 + m)) = true then .tuple #[.string (strOf (tab m fun i => f (a + 1 + i))), .int .i64 0] else .tuple #[.string ⟨#[]⟩, .int .i64 15]
theorem textVal_yes {f : Nat → Int} {a k m : Nat} (h1 : m + 1 ≤ k) (h2 : zeroB (fun i => f (a + 1 + m + i)) (k - (1 + m)) = true) : textVal f a k m = .tuple #[.string (strOf (tab m fun i => f (a + 1 + i))), .int .i64 0] := by unfold textVal; rw [if_pos ⟨h1, h2⟩]
theorem textVal_no {f : Nat → Int} {a k m : Nat} (h : k < m + 1 ∨ zeroB (fun i => f (a + 1 + m + i)) (k - (1 + m)) = false) : textVal f a k m = .tuple #[.string ⟨#[]⟩, .int .i64 15] := by
  unfold textVal
  rw [if_neg]
  rintro ⟨h1, h2⟩
  rcases h with h | h
  · omega
  · rw [h] at h2; cases h2

set_option maxHeartbeats 400000 in
theorem taketext_ok (g off n cap a k m : Nat) (f : Nat → Int) (w : World) (hr : ∀ j, j < n → w.cell? ⟨g, off + j, none⟩ = some (.int .u8 (f j))) (hm : f a = m) (hm2 : m < 256) (hc : n ≤ cap) (hn : n ≤ 140737488355328) (h1 : 1 ≤ k) (h2 : k ≤ 256) (h3 : a + k ≤ n) :
    Calls Try.prog 17 #[.slice (some ⟨g, off, none⟩) n cap, .int .i64 a, .int .i64 k] w fun e w' => e = .returned (textVal f a k m) ∧ w = w' := by
  have hcell := hr a (by omega)
  rw [hm] at hcell
  have HR := Lib.hid hr
  have HM := Lib.hid hm
  clear hr hm
  have hpl := place_ok g off n cap a k 256 w hc hn h1 (by omega) h3
  by_cases hbig : k < m + 1
  · have he := Lib.hid (textVal_no (f := f) (a := a) (.inl hbig))
    go_enter Try.func17, Try.ntmps17
    go_wp2_with fail
    refine hpl.mono ?_
    rintro _ _ ⟨rfl, rfl⟩
    dsimp only
    go_wp2_with fail
    go_ret2
    exact ⟨congrArg Ending.returned he.out.symm, rfl⟩
  have hZ : ∀ ao c, Reads w ao (k - (1 + m)) c (fun i => f (a + 1 + m + i)) → Calls Try.prog 15 #[.slice ao (k - (1 + m)) c] w fun e w' => e = .returned (.bool (zeroB (fun i => f (a + 1 + m + i)) (k - (1 + m)))) ∧ w = w' := fun ao c h => zero_any ao _ c _ w h (by omega)
  have hR : Reads w (some ⟨g, off + a + (1 + m), none⟩) (k - (1 + m)) (cap - a - (1 + m)) (fun i => f (a + 1 + m + i)) :=
    ⟨by omega, by simp, .inr ⟨g, _, rfl, fun j hj => by rw [show off + a + (1 + m) + j = off + (a + 1 + m + j) by omega]; exact HR.out _ (by omega)⟩⟩
  have hS : ∀ ao n' c, n' = m → Reads w ao m c (fun i => f (a + 1 + i)) → (convert 22 9 (.slice ao n' c)).run Try.prog w = .ok (.string (strOf (tab m fun i => f (a + 1 + i)))) w := fun ao n' c hn h => by
    subst hn
    have := run_str w w.heap.size ao c (tab n' fun i => f (a + 1 + i)) (reads_lies h)
    rwa [tab_length] at this
  have hT := fun h1 h2 => textVal_yes (f := f) (a := a) (k := k) (m := m) h1 h2
  generalize strOf (tab m fun i => f (a + 1 + i)) = S at hS hT
  have HS := Lib.hid hS
  have HP : Hid (Reads w (some ⟨g, off + a + 1, none⟩) m m (fun i => f (a + 1 + i)) ∧ Reads w (some ⟨g, off + a + 1, none⟩) m (cap - a - 1) (fun i => f (a + 1 + i))) := Lib.hid
    ⟨⟨by omega, by simp, .inr ⟨g, _, rfl, fun j hj => by rw [show off + a + 1 + j = off + (a + 1 + j) by omega]; exact HR.out _ (by omega)⟩⟩, ⟨by omega, by simp, .inr ⟨g, _, rfl, fun j hj => by rw [show off + a + 1 + j = off + (a + 1 + j) by omega]; exact HR.out _ (by omega)⟩⟩⟩
  clear hS
  by_cases hz : zeroB (fun i => f (a + 1 + m + i)) (k - (1 + m)) = true
  · have he := Lib.hid (hT (by omega) hz)
    rw [hz] at hZ
    have HZ := Lib.hid hZ
    have HRR := Lib.hid hR
    clear hz hZ hR hT
    go_enter Try.func17, Try.ntmps17
    go_wp2_with fail
    refine hpl.mono ?_
    rintro _ _ ⟨rfl, rfl⟩
    dsimp only
    go_wp2_with fail
    all_goals
      refine (HZ.out _ _ ?_).mono ?_
      · first | exact HRR.out | exact ⟨by omega, by simp, .inl (by omega)⟩
      rintro _ _ ⟨rfl, rfl⟩
      dsimp only
      go_wp2_with fail
      all_goals
        first
          | rw [HS.out _ _ _ (by omega) HP.out.1]
          | rw [HS.out _ _ _ (by omega) HP.out.2]
          | rw [HS.out _ _ _ (by omega) ⟨by omega, by simp, .inl (by omega)⟩]
        go_wp2_with fail
        go_ret2
        exact ⟨congrArg Ending.returned he.out.symm, rfl⟩
  · have hz' : zeroB (fun i => f (a + 1 + m + i)) (k - (1 + m)) = false := by simpa using hz
    have he := Lib.hid (textVal_no (f := f) (a := a) (k := k) (m := m) (.inr hz'))
    rw [hz'] at hZ
    have HZ := Lib.hid hZ
    have HRR := Lib.hid hR
    clear hz hz' hZ hR hT
    go_enter Try.func17, Try.ntmps17
    go_wp2_with fail
    refine hpl.mono ?_
    rintro _ _ ⟨rfl, rfl⟩
    dsimp only
    go_wp2_with fail
    all_goals
      refine (HZ.out _ _ ?_).mono ?_
      · first | exact HRR.out | exact ⟨by omega, by simp, .inl (by omega)⟩
      rintro _ _ ⟨rfl, rfl⟩
      dsimp only
      go_wp2_with fail
      go_ret2
      exact ⟨congrArg Ending.returned he.out.symm, rfl⟩

set_option maxHeartbeats 400000 in
theorem taketext_no (ao : Option Addr) (n cap : Nat) (a k : Int) (w : World) (hn : n ≤ 140737488355328) (h : k < 1 ∨ k > 256 ∨ a < 0 ∨ a > n - k) :
    Calls Try.prog 17 #[.slice ao n cap, .int .i64 a, .int .i64 k] w fun e w' => e = .returned (.tuple #[.string ⟨#[]⟩, .int .i64 1]) ∧ w = w' := by
  have hp' := place_no ao n cap a k 256 w hn (by omega) h
  clear h
  go_enter Try.func17, Try.ntmps17
  go_wp2_with fail
  refine hp'.mono ?_
  rintro _ _ ⟨rfl, rfl⟩
  dsimp only
  go_wp2_with fail
  go_ret2
  exact ⟨rfl, rfl⟩

/-- the bytes of a text in a room -/
def roomF (s : ByteArray) (i : Nat) : Int := if i = 0 then s.size else if i ≤ s.size then bt s (i - 1) else 0

theorem room_byte (s : ByteArray) (i : Nat) (h : s.size < 256) : 0 ≤ roomF s i ∧ roomF s i < 256 := by
  unfold roomF
  split
  · omega
  · split
    · exact bt_byte s _
    · omega
theorem room_mix (f : Nat → Int) (a k : Nat) (s : ByteArray) (h : s.size + 1 ≤ k) : mix (mix (put f a s.size) (a + 1) s.size (bt s)) (a + (1 + s.size)) (k - (1 + s.size)) (fun _ => 0) = mix f a k (roomF s) := by
  funext i
  unfold mix put roomF
  by_cases e0 : i < a ∨ a + k ≤ i
  · rw [if_neg (by omega), if_neg (by omega), if_neg (by omega), if_neg (by omega)]
  rw [if_pos (c := a ≤ i ∧ i < a + k) (by omega)]
  by_cases e1 : i = a
  · rw [if_neg (by omega), if_neg (by omega), if_pos e1, if_pos (by omega)]
  by_cases e2 : i < a + 1 + s.size
  · rw [if_neg (by omega), if_pos (by omega), if_neg (by omega), if_pos (by omega), show i - a - 1 = i - (a + 1) by omega]
  · rw [if_pos (by omega), if_neg (by omega), if_neg (by omega)]

set_option maxHeartbeats 400000 in
theorem puttext_no (ao : Option Addr) (n cap : Nat) (a k : Int) (s : ByteArray) (w : World) (hn : n ≤ 140737488355328) (h : k < 1 ∨ k > 256 ∨ a < 0 ∨ a > n - k ∨ (s.size : Int) > k - 1) (hg : n = 0 ∨ ∃ g off, ao = some ⟨g, off, none⟩) (hc : n ≤ cap) (hs : s.size ≤ 140737488355328) :
    Calls Try.prog 19 #[.slice ao n cap, .int .i64 a, .int .i64 k, .string s] w fun e w' => e = .returned (.int .i64 1) ∧ w = w' := by
  by_cases hp : k < 1 ∨ k > 256 ∨ a < 0 ∨ a > n - k
  · clear h
    have hp' := place_no ao n cap a k 256 w hn (by omega) hp
    clear hp
    go_enter Try.func19, Try.ntmps19
    go_wp2_with fail
    refine hp'.mono ?_
    rintro _ _ ⟨rfl, rfl⟩
    dsimp only
    go_wp2_with fail
    go_ret
    exact ⟨rfl, rfl⟩
  · obtain ⟨a, rfl⟩ : ∃ m : Nat, a = m := ⟨a.toNat, by omega⟩
    obtain ⟨k, rfl⟩ : ∃ m : Nat, k = m := ⟨k.toNat, by omega⟩
    obtain ⟨g, off, rfl⟩ : ∃ g off, ao = some ⟨g, off, none⟩ := hg.resolve_left (by omega)
    have hb : (k : Int) - 1 < (s.size : Int) := by omega
    have hk8 : k ≤ 256 := by omega
    have hp' := place_ok g off n cap a k 256 w hc hn (by omega) (by omega) (by omega)
    clear h hp hg
    go_enter Try.func19, Try.ntmps19
    go_wp2_with fail
    refine hp'.mono ?_
    rintro _ _ ⟨rfl, rfl⟩
    dsimp only
    go_wp2_with fail
    go_ret
    exact ⟨rfl, rfl⟩

set_option maxHeartbeats 400000 in
theorem puttext_ok (g off n cap a k : Nat) (s : ByteArray) (f : Nat → Int) (w : World) (hr : Row w g off n f) (hc : n ≤ cap) (hn : n ≤ 140737488355328) (h1 : 1 ≤ k) (h2 : k ≤ 256) (h3 : a + k ≤ n) (hs : s.size + 1 ≤ k) :
    Calls Try.prog 19 #[.slice (some ⟨g, off, none⟩) n cap, .int .i64 a, .int .i64 k, .string s] w fun e w' =>
      e = .returned (.int .i64 0) ∧ w.grownBy w' (some g) ∧ Row w' g off n (mix f a k (roomF s)) := by
  have hcell := hr.cell (j := a) (by omega)
  have hfr := hr.free (off + a)
  have HR := Lib.hid hr
  clear hr
  go_enter Try.func19, Try.ntmps19
  go_wp2_with fail
  refine (place_ok g off n cap a k 256 w hc hn h1 (by omega) h3).mono ?_
  rintro _ _ ⟨rfl, rfl⟩
  dsimp only
  go_wp2_with fail
  all_goals
    have R1 := HR.out.store a s.size
    have G1 := only_store (World.grownBy.refl w (some g)) (off + a) (.int .u8 s.size)
    generalize w.setCell ⟨g, off + a, none⟩ (.int .u8 s.size) = w1 at R1 G1 ⊢
    first
      | (rw [show off + a + 1 = off + (a + 1) from Nat.add_assoc off a 1, run_copy_str w1 _ g off n _ _ _ s R1 (a + 1) (by omega) (by omega)]
         have R2 : Row _ g off n (mix (put f a s.size) (a + 1) s.size (bt s)) := R1.many s.size (a + 1) (bt s)
         have G2 := only_many (bys (tab s.size (bt s))) (off + (a + 1)) _ G1
         generalize w1.setCells _ _ _ = w2 at R2 G2 ⊢)
      | (rw [run_copy_str0 w1 _ _ _ _ s (by omega)]
         have R2 : Row w1 g off n (mix (put f a s.size) (a + 1) s.size (bt s)) := R1.congr fun j _ => by unfold mix; rw [if_neg (by omega)]
         have G2 := G1)
    clear R1 G1 hcell hfr
    have HR2 := Lib.hid R2
    have HG2 := Lib.hid G2
    clear R2 G2
    go_wp2_with fail
    all_goals
      first
        | (rw [run_clear_none _ _ _ _ _ (by omega)]
           have R3 := Lib.hid (HR2.out.congr (f' := mix f a k (roomF s)) fun j _ => by rw [← room_mix f a k s hs, show k - (1 + s.size) = 0 by omega, mix_zero])
           have G3 := HG2)
        | (rw [show off + a + (1 + s.size) = off + (a + (1 + s.size)) from Nat.add_assoc off a _, run_clear_bytes _ _ g off n _ _ _ HR2.out (a + (1 + s.size)) (by omega)]
           have R3 := HR2.out.many (k - (1 + s.size)) (a + (1 + s.size)) (fun _ => 0)
           rw [room_mix f a k s hs] at R3
           have G3 := Lib.hid (only_many (bys (tab (k - (1 + s.size)) fun _ => 0)) (off + (a + (1 + s.size))) _ HG2.out)
           generalize World.setCells _ _ _ _ = w3 at R3 G3 ⊢
           replace R3 := Lib.hid R3)
      clear HR2 HG2
      go_wp2_with fail
      go_ret
      exact ⟨rfl, G3.out, R3.out⟩

end Wd
end Go.Proofs.Ytolgiooddiolcaa
