/- Find and Names, of the code and of the reference. -/
import Derived.Test.YtdilbicdaljfkaaEnT
import Derived.Shelf.Abstract
namespace Go.Proofs.Ytdilbicdaljfkaa
set_option maxRecDepth 20000
namespace En
open Go.RowKit

set_option maxHeartbeats 1000000 in
theorem find1_any (x : E) (n : T) (g : Nat) (w : World) (hg : w.cell? ⟨g, 0, none⟩ = some (.string ⟨n.toArray⟩)) : Calls Try.prog 33 #[.agg (eV x).toArray, .pointer (some ⟨g, 0, none⟩)] w fun e w' => e = .returned (.bool (x.1 == n)) ∧ Below w.heap.size w w' := by
  obtain ⟨x, k⟩ := x
  have hlt : g < w.heap.size := World.block_lt_of_cell? _ _ hg
  show Calls Try.prog 33 #[.agg #[.string ⟨x.toArray⟩, .int .i64 k], .pointer (some ⟨g, 0, none⟩)] w _
  have hg2 : ∀ o, (w.alloc o).cell? ⟨g, 0, none⟩ = some (.string ⟨n.toArray⟩) := fun o => (World.cell?_alloc_lt w o _ hlt).trans hg
  have hb : ∀ o, Below w.heap.size w (w.alloc o) := fun o => (Below.refl _ _).alloc (Nat.le_refl _) o
  simp only
  clear hg
  generalize hc : (x == n) = c
  go_enter Try.func33, Try.ntmps33
  go_wp2
  go_ret
  exact ⟨ret_b rfl (by first | rfl | exact hc), hb _⟩
theorem enters_find1 : Enters Try.prog 33 := fun args w => enters_of Try.func33 (by kernel_rfl) rfl args w

set_option maxHeartbeats 2000000 in
theorem index_any (l : List E) (n : T) (g : Nat) (ao : Option Addr) (cap : Nat) (w : World) (h : LiesE w w.heap.size ao cap l) (hg : w.cell? ⟨g, 0, none⟩ = some (.string ⟨n.toArray⟩)) (hn : l.length ≤ 140737488355328) :
    Calls Try.prog 32 #[.slice ao l.length cap, .func (.func 33) #[] #[.pointer (some ⟨g, 0, none⟩)]] w fun e w' => (∃ r : Int, e = .returned (.int .i64 r) ∧ ((r = -1 ∧ ∀ j, (h : j < l.length) → l[j].1 ≠ n) ∨ ∃ k : Nat, r = k ∧ ∃ h : k < l.length, l[k].1 = n ∧ ∀ j, (h : j < l.length) → j < k → l[j].1 ≠ n)) ∧ Below w.heap.size w w' := by
  have hlt : g < w.heap.size := World.block_lt_of_cell? _ _ hg
  have HG := Lib.hid (fun W (hb : Below w.heap.size w W) => (hb.cell (p := ⟨g, 0, none⟩) hlt).trans hg)
  have HF := Lib.hid (fun (x : E) W hg => find1_any x n g W hg)
  have HP : Hid (∀ r : Int, ((r = -1 ∧ ∀ j, (h : j < l.length) → l[j].1 ≠ n) ∨ ∃ k : Nat, r = k ∧ ∃ h : k < l.length, l[k].1 = n ∧ ∀ j, (h : j < l.length) → j < k → l[j].1 ≠ n) → (∃ r2 : Int, Ending.returned (.int .i64 r) = .returned (.int .i64 r2) ∧ ((r2 = -1 ∧ ∀ j, (h : j < l.length) → l[j].1 ≠ n) ∨ ∃ k : Nat, r2 = k ∧ ∃ h : k < l.length, l[k].1 = n ∧ ∀ j, (h : j < l.length) → j < k → l[j].1 ≠ n))) := Lib.hid fun r hr => ⟨r, rfl, hr⟩
  have hEN := enters_find1
  unfold Enters at hEN
  clear hg
  go_enter Try.func32, Try.ntmps32
  go_wp2
  go_loopw [8] (fun i wr => ∃ k : Nat, k ≤ l.length ∧ i = .int .i64 k ∧ Hid (∀ j, (h : j < l.length) → j < k → l[j].1 ≠ n) ∧ Below w.heap.size w wr) (fun i _ => l.length - (intOf i).toNat)
  case atStart => exact ⟨0, Nat.zero_le _, rfl, Lib.hid (fun j _ h => by omega), Below.refl _ _⟩
  case round =>
    obtain ⟨k, hk, rfl, HC, hb⟩ := hrel
    have hbs := hb.size
    by_cases hlt2 : k < l.length
    · obtain ⟨b, off, rfl, hbb, c0, c1⟩ := (h.below hb).get hlt2
      have HX : Hid (Calls Try.prog 33 #[.agg #[.string ⟨l[k].1.toArray⟩, .int .i64 l[k].2], .pointer (some ⟨g, 0, none⟩)] wr fun e w' => e = .returned (.bool (l[k].1 == n)) ∧ Below wr.heap.size wr w') := Lib.hid (HF.out l[k] wr (HG.out wr hb))
      have HY : Hid (l[k].1 = n → ((k : Int) = -1 ∧ ∀ j, (h : j < l.length) → l[j].1 ≠ n) ∨ ∃ k2 : Nat, (k : Int) = k2 ∧ ∃ h : k2 < l.length, l[k2].1 = n ∧ ∀ j, (h : j < l.length) → j < k2 → l[j].1 ≠ n) := Lib.hid fun e => .inr ⟨k, rfl, hlt2, e, HC.out⟩
      have HZ : Hid (l[k].1 ≠ n → ∀ j, (h : j < l.length) → j < k + 1 → l[j].1 ≠ n) := Lib.hid fun e j hj hjk => by
        by_cases e2 : j = k
        · subst e2; exact e
        · exact HC.out j hj (by omega)
      clear h HF HG HC
      generalize l[k] = x at c0 c1 HX HY HZ
      obtain ⟨x, m⟩ := x
      simp only at c0 c1 HX HY HZ
      by_cases hxn : x = n
      · have HX2 := HX.out
        rw [show (x == n) = true by simp [hxn]] at HX2
        have HX3 := Lib.hid HX2
        have hY := HP.out _ (HY.out hxn)
        have HY2 := Lib.hid hY
        clear HX HX2 HY HZ HP hY hxn
        go_wp2_with (go_at_call 33; refine HX3.out.mono ?_; rintro _ w1 ⟨rfl, hb1⟩)
        go_ret
        exact ⟨HY2.out, hb.trans (hb1.mono hbs)⟩
      · have HX2 := HX.out
        rw [show (x == n) = false by simp [hxn]] at HX2
        have HX3 := Lib.hid HX2
        have HZ2 := Lib.hid (HZ.out hxn)
        clear HX HX2 HY HZ HP hxn
        go_wp2_with (go_at_call 33; refine HX3.out.mono ?_; rintro _ w1 ⟨rfl, hb1⟩)
        go_roundw
        case rel => exact ⟨k + 1, by omega, by go_num, HZ2, hb.trans (hb1.mono hbs)⟩
        case measure => simp [intOf]; omega
    · have HY2 := Lib.hid (HP.out (-1) (.inl ⟨rfl, fun j hj => HC.out j hj (by omega)⟩))
      clear HP HC HF HG h
      go_wp2
      go_ret
      exact ⟨HY2.out, hb⟩

set_option maxHeartbeats 2000000 in
theorem find_any (l : List E) (n : T) (ao : Option Addr) (cap : Nat) (w : World) (h : LiesE w w.heap.size ao cap l) (hn : l.length ≤ 140737488355328) :
    Calls Try.prog 19 #[.slice ao l.length cap, .string ⟨n.toArray⟩] w fun e w' => e = .returned (.tuple #[.int .i64 (fdV l n), .int .i64 (fdE l n)]) ∧ Below w.heap.size w w' := by
  obtain ⟨W, hW⟩ : ∃ W, W = w.alloc (.cells #[.string ⟨n.toArray⟩] 9) := ⟨_, rfl⟩
  have hb0 : Below w.heap.size w W := by rw [hW]; exact (Below.refl _ _).alloc (Nat.le_refl _) _
  have hs0 : W.heap.size = w.heap.size + 1 := by rw [hW]; simp
  have hg : W.cell? ⟨w.heap.size, 0, none⟩ = some (.string ⟨n.toArray⟩) := by rw [hW, cell_of_row _ _ _ _ _ _ (heap_alloc_new w _)]; rfl
  have hl0 := h.to hb0 hb0.size
  have HI := Lib.hid (index_any l n w.heap.size ao cap W hl0 hg hn)
  have HFH : Hid (∀ k : Nat, (hk : k < l.length) → (∀ j, (h : j < l.length) → j < k → l[j].1 ≠ n) → l[k].1 = n → fdV l n = l[k].2 ∧ fdE l n = 0) := Lib.hid fun k hk h1 h2 => ⟨(fd_hit hk h1 h2).1, (fd_hit hk h1 h2).2.1⟩
  have HFM : Hid ((∀ j, (h : j < l.length) → l[j].1 ≠ n) → fdV l n = 0 ∧ fdE l n = 4) := Lib.hid fun h => ⟨(fd_miss h).1, (fd_miss h).2.1⟩
  generalize fdV l n = V at HFH HFM ⊢
  generalize fdE l n = c at HFH HFM ⊢
  clear h hg
  go_enter Try.func19, Try.ntmps19
  go_wp2_with fail
  rw [← hW]
  refine HI.out.mono ?_
  rintro _ w1 ⟨⟨r, rfl, hr⟩, hb1⟩
  have hB := hb0.trans (hb1.mono hb0.size)
  clear hW HI
  rcases hr with ⟨rfl, hr⟩ | ⟨k, rfl, hk, h1, h2⟩
  · obtain ⟨rfl, rfl⟩ := HFM.out hr
    clear HFH HFM hr
    go_wp2
    refine bodyPost_ret (results_2 rfl rfl rfl) rfl ?_
    exact ⟨rfl, hB⟩
  · obtain ⟨e1, e2⟩ := HFH.out k hk h2 h1
    obtain ⟨b, off, rfl, hbb, c0, c1⟩ := (hl0.below hb1).get hk
    rw [← e1] at c1
    subst e2
    have hki : ((k : Int) < (l.length : Int)) := by omega
    clear HFH HFM h1 h2 c0 e1
    go_wp2
    refine bodyPost_ret (results_2 rfl rfl rfl) rfl ?_
    exact ⟨rfl, hB⟩

set_option maxHeartbeats 2000000 in
theorem reffind_any (l : List E) (n : T) (ao : Option Addr) (cap : Nat) (w : World) (h : LiesE w w.heap.size ao cap l) (hn : l.length ≤ 140737488355328) :
    Calls Try.prog 20 #[.slice ao l.length cap, .string ⟨n.toArray⟩] w fun e w' => e = .returned (.tuple #[.int .i64 (fdV l n), .int .i64 (fdE l n)]) ∧ w = w' := by
  have HFH : Hid (∀ k : Nat, (hk : k < l.length) → (∀ j, (h : j < l.length) → j < k → l[j].1 ≠ n) → l[k].1 = n → fdV l n = l[k].2 ∧ fdE l n = 0) := Lib.hid fun k hk h1 h2 => ⟨(fd_hit hk h1 h2).1, (fd_hit hk h1 h2).2.1⟩
  have HFM : Hid ((∀ j, (h : j < l.length) → l[j].1 ≠ n) → fdV l n = 0 ∧ fdE l n = 4) := Lib.hid fun h => ⟨(fd_miss h).1, (fd_miss h).2.1⟩
  generalize fdV l n = V at HFH HFM ⊢
  generalize fdE l n = c at HFH HFM ⊢
  go_enter Try.func20, Try.ntmps20
  go_wp2
  go_loopw [6] (fun i wr => ∃ k : Nat, k ≤ l.length ∧ i = .int .i64 k ∧ Hid (∀ j, (h : j < l.length) → j < k → l[j].1 ≠ n) ∧ w = wr) (fun i _ => l.length - (intOf i).toNat)
  case atStart => exact ⟨0, Nat.zero_le _, rfl, Lib.hid (fun j _ h => by omega), rfl⟩
  case round =>
    obtain ⟨k, hk, rfl, HC, rfl⟩ := hrel
    by_cases hlt2 : k < l.length
    · obtain ⟨b, off, rfl, hbb, c0, c1⟩ := h.get hlt2
      have HY : Hid (l[k].1 = n → V = l[k].2 ∧ c = 0) := Lib.hid fun e => HFH.out k hlt2 HC.out e
      have HZ : Hid (l[k].1 ≠ n → ∀ j, (h : j < l.length) → j < k + 1 → l[j].1 ≠ n) := Lib.hid fun e j hj hjk => by
        by_cases e2 : j = k
        · subst e2; exact e
        · exact HC.out j hj (by omega)
      clear h HC HFH HFM
      generalize l[k] = x at c0 c1 HY HZ
      obtain ⟨x, m⟩ := x
      simp only at c0 c1 HY HZ
      by_cases hxn : x = n
      · obtain ⟨rfl, rfl⟩ := HY.out hxn
        clear HY HZ
        subst hxn
        go_wp2
        refine bodyPost_ret (results_2 rfl rfl rfl) rfl ?_
        exact ⟨rfl, rfl⟩
      · have HZ2 := Lib.hid (HZ.out hxn)
        have h1 : (x == n) = false := by simp [hxn]
        clear HY HZ
        go_wp2
        go_roundw
        case rel => exact ⟨k + 1, by omega, by go_num, HZ2, trivial⟩
        case measure => simp [intOf]; omega
    · obtain ⟨rfl, rfl⟩ := HFM.out fun j hj => HC.out j hj (by omega)
      clear HFH HFM HC h
      go_wp2
      refine bodyPost_ret (results_2 rfl rfl rfl) rfl ?_
      exact ⟨rfl, rfl⟩
end En
end Go.Proofs.Ytdilbicdaljfkaa
