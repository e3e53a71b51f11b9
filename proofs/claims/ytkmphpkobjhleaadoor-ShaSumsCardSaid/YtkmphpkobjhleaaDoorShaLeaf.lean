import Derived.Test.YtkmphpkobjhleaaDoorRows
import Derived.Test.YtkmphpkobjhleaaDoorShaMath
import Derived.WalkKit
import Derived.BigQuiet
import Derived.Deep.QuietTactic
import Derived.Lib.Hide
import Derived.Handy
namespace Go.Proofs.YtkmphpkobjhleaaDoor
namespace Sha
open Go.RowKit

set_option maxHeartbeats 400000 in
theorem rot_any (x c : Int) (w : World) (h0 : 1 ≤ c) (h1 : c ≤ 31) :
    Calls Tryd.prog 30 #[.int .u32 x, .int .i64 (-c)] w fun e w' => e = .returned (.int .u32 (rotR x c)) ∧ w = w' := by
  have hm := masked' c h0 h1
  have he := rot_eq x c
  go_enter Tryd.func30, Tryd.ntmps30
  go_wp2
  go_ret
  exact ⟨rfl, rfl⟩

set_option maxHeartbeats 400000 in
theorem turn_any (x n : Int) (w : World) (h0 : 0 ≤ n) (h1 : n ≤ 32) :
    Calls Tryd.prog 20 #[.int .u32 x, .int .i64 n] w fun e w' => e = .returned (.int .u32 (rotR x n)) ∧ ∃ n, w' = w.drewN n := by
  go_enter Tryd.func20, Tryd.ntmps20
  go_wp2
  go_quiet (fail)
  go_wp2
  go_ret
  exact ⟨rfl, _, rfl⟩

set_option maxHeartbeats 400000 in
theorem mix_any (x i j k : Int) (w : World) (i0 : 1 ≤ i) (i1 : i ≤ 31) (j0 : 1 ≤ j) (j1 : j ≤ 31) (k0 : 1 ≤ k) (k1 : k ≤ 31) :
    Calls Tryd.prog 27 #[.int .u32 x, .int .i64 i, .int .i64 j, .int .i64 k] w fun e w' => e = .returned (.int .u32 (mixI x i j k)) ∧ w = w' := by
  go_enter Tryd.func27, Tryd.ntmps27
  go_wp2_with (go_at_call 30; refine (rot_any _ _ _ (by omega) (by omega)).mono ?_; rintro e w' ⟨rfl, rfl⟩)
  go_ret
  exact ⟨rfl, rfl⟩

set_option maxHeartbeats 400000 in
theorem mixs_any (x i j k : Int) (w : World) (i0 : 1 ≤ i) (i1 : i ≤ 31) (j0 : 1 ≤ j) (j1 : j ≤ 31) (k0 : 1 ≤ k) (k1 : k ≤ 31) :
    Calls Tryd.prog 29 #[.int .u32 x, .int .i64 i, .int .i64 j, .int .i64 k] w fun e w' => e = .returned (.int .u32 (mixS x i j k)) ∧ ∃ n, w' = w.drewN n := by
  go_enter Tryd.func29, Tryd.ntmps29
  go_wp2_with (go_at_call 30; refine (rot_any _ _ _ (by omega) (by omega)).mono ?_; rintro e w' ⟨rfl, rfl⟩)
  go_quiet ((go_at_call 30; exact Calls.quiet_of_same ((rot_any _ _ _ (by omega) (by omega)).mono fun _ _ h => ⟨h.1, h.2.symm⟩)))
  go_wp2
  go_ret
  exact ⟨rfl, _, rfl⟩

set_option maxHeartbeats 400000 in
theorem first_any (w : World) :
    Calls Tryd.prog 25 #[] w fun e w' => e = .returned (.agg s0.vals) ∧ Below w.heap.size w w' := by
  unfold S8.vals s0
  go_enter Tryd.func25, Tryd.ntmps25
  go_wp2
  go_returns
  exact ⟨rfl, (Below.refl _ _).alloc (Nat.le_refl _) _⟩

set_option maxHeartbeats 400000 in
theorem roots8_any (w : World) :
    Calls Tryd.prog 23 #[] w fun e w' => e = .returned (.agg s0.vals) ∧ Below w.heap.size w w' := by
  unfold S8.vals s0
  go_enter Tryd.func23, Tryd.ntmps23
  go_wp2
  go_returns
  exact ⟨rfl, (Below.refl _ _).alloc (Nat.le_refl _) _⟩

set_option maxHeartbeats 400000 in
theorem take_any (b off len cap : Nat) (x0 x1 x2 x3 : Int) (w : World) (hl : 4 ≤ len) (hc : len ≤ cap)
    (c0 : w.cell? ⟨b, off, none⟩ = some (.int .u8 x0)) (c1 : w.cell? ⟨b, off + 1, none⟩ = some (.int .u8 x1)) (c2 : w.cell? ⟨b, off + 2, none⟩ = some (.int .u8 x2)) (c3 : w.cell? ⟨b, off + 3, none⟩ = some (.int .u8 x3))
    (hx : (0 ≤ x0 ∧ x0 < 256) ∧ (0 ≤ x1 ∧ x1 < 256) ∧ (0 ≤ x2 ∧ x2 < 256) ∧ (0 ≤ x3 ∧ x3 < 256)) :
    Calls Tryd.prog 28 #[.slice (some ⟨b, off, none⟩) len cap] w fun e w' => e = .returned (.int .u32 (word x0 x1 x2 x3)) ∧ w = w' := by
  rw [← take_word x0 x1 x2 x3 hx]
  clear hx
  go_enter Tryd.func28, Tryd.ntmps28
  go_wp2
  go_rounds 5
  go_ret
  exact ⟨rfl, rfl⟩

set_option maxHeartbeats 400000 in
theorem put_any (b off len cap : Nat) (x : Int) (w : World) (hl : 4 ≤ len) (hc : len ≤ cap)
    (c0 : ∃ v, w.cell? ⟨b, off, none⟩ = some v) (c1 : ∃ v, w.cell? ⟨b, off + 1, none⟩ = some v) (c2 : ∃ v, w.cell? ⟨b, off + 2, none⟩ = some v) (c3 : ∃ v, w.cell? ⟨b, off + 3, none⟩ = some v)
    (f0 : w.frozen? ⟨b, off, none⟩ = false) (f1 : w.frozen? ⟨b, off + 1, none⟩ = false) (f2 : w.frozen? ⟨b, off + 2, none⟩ = false) (f3 : w.frozen? ⟨b, off + 3, none⟩ = false) :
    Calls Tryd.prog 24 #[.slice (some ⟨b, off, none⟩) len cap, .int .u32 x] w fun e w' => e = .returned (.tuple #[]) ∧
      w' = (((w.setCell ⟨b, off, none⟩ (.int .u8 (x / 16777216 % 256))).setCell ⟨b, off + 1, none⟩ (.int .u8 (x / 65536 % 256))).setCell ⟨b, off + 2, none⟩ (.int .u8 (x / 256 % 256))).setCell ⟨b, off + 3, none⟩ (.int .u8 (x % 256)) := by
  obtain ⟨v0, c0⟩ := c0
  obtain ⟨v1, c1⟩ := c1
  obtain ⟨v2, c2⟩ := c2
  obtain ⟨v3, c3⟩ := c3
  go_enter Tryd.func24, Tryd.ntmps24
  go_wp2
  go_rounds 5
  go_returns
  exact ⟨rfl, rfl⟩

set_option maxHeartbeats 400000 in
theorem churn_any (s : S8) (W : Array Value) (w : World) (K wt : Nat → Int) 
    (hK : ∀ k, k < 64 → w.cell? ⟨0, k, none⟩ = some (.int .u32 (K k))) (hW : ∀ k, k < 64 → W[k]? = some (.int .u32 (wt k))) (hz : 0 < w.heap.size) :
    Calls Tryd.prog 18 #[.agg s.vals, .agg W] w fun e w' => e = .returned (.agg (stp s K wt 64).vals) ∧ Below w.heap.size w w' := by
  have HK := Lib.hid hK
  have HW := Lib.hid hW
  clear hK hW
  obtain ⟨z, hz0⟩ : ∃ z, z = stp s K wt 64 := ⟨_, rfl⟩
  rw [← hz0]
  have HZ := Lib.hid hz0
  clear hz0
  unfold S8.vals
  go_enter Tryd.func18, Tryd.ntmps18
  go_wp2
  go_quiet (fail)
  go_wp2
  go_quiet (fail)
  go_wp2
  go_loopw [5, 6, 7, 8, 9, 10, 11, 12, 32] (fun a b c d e f g h i wr => ∃ k : Nat, k ≤ 64 ∧ i = .int .i64 k ∧ a = .int .u32 (stp s K wt k).a ∧ b = .int .u32 (stp s K wt k).b ∧ c = .int .u32 (stp s K wt k).c ∧ d = .int .u32 (stp s K wt k).d ∧ e = .int .u32 (stp s K wt k).e ∧ f = .int .u32 (stp s K wt k).f ∧ g = .int .u32 (stp s K wt k).g ∧ h = .int .u32 (stp s K wt k).h ∧
    Dr (((w.alloc (.cells #[.int .u32 s.a, .int .u32 s.b, .int .u32 s.c, .int .u32 s.d, .int .u32 s.e, .int .u32 s.f, .int .u32 s.g, .int .u32 s.h] 28)).alloc (.cells W 38)).alloc (.cells #[.int .u32 0, .int .u32 0, .int .u32 0, .int .u32 0, .int .u32 0, .int .u32 0, .int .u32 0, .int .u32 0] 28)) wr)
    (fun _ _ _ _ _ _ _ _ i _ => 64 - (intOf i).toNat)
  case atStart => 
    exact ⟨0, Nat.zero_le _, rfl, rfl, rfl, rfl, rfl, rfl, rfl, rfl, rfl, ((Dr.refl _).more _).more _⟩
  case round =>
    obtain ⟨k, hk, rfl, rfl, rfl, rfl, rfl, rfl, rfl, rfl, rfl, hD⟩ := hrel
    by_cases hlt : k < 64
    · have gK : wr.cell? ⟨0, k, none⟩ = some (.int .u32 (K k)) := by
        rw [hD.cell, World.cell?_alloc_old, World.cell?_alloc_old, World.cell?_alloc_old, HK.out k hlt]
        all_goals simp
        all_goals omega
      have gW : wr.cell? ⟨w.heap.size + 1, k, none⟩ = some (.int .u32 (wt k)) := by
        have h := HW.out k hlt
        rw [hD.cell]
        simp [go_sem, h]
      go_wp2
      go_quiet ((go_at_call 27; exact Calls.quiet_of_same ((mix_any _ _ _ _ _ (by omega) (by omega) (by omega) (by omega) (by omega) (by omega)).mono fun _ _ h => ⟨h.1, h.2.symm⟩)))
      go_wp2_with (go_at_call 27; refine (mix_any _ _ _ _ _ (by omega) (by omega) (by omega) (by omega) (by omega) (by omega)).mono ?_; rintro e w' ⟨rfl, rfl⟩)
      go_roundw
      case rel => exact ⟨k + 1, by omega, by go_num, rfl, rfl, rfl, rfl, rfl, rfl, rfl, rfl, hD.more _⟩
      case measure => simp [intOf]; omega
    · obtain rfl : k = 64 := by omega
      clear HK HW
      generalize hg : stp s K wt 64 = z'
      obtain rfl : z = z' := HZ.out.trans hg
      clear hg HZ
      refine hD.get fun m => ?_
      go_wp2
      go_returns
      refine ⟨rfl, ?_⟩
      iterate 8 refine Below.setCell ?_ (by simp only []; omega) _
      exact below_drewN ((((Below.refl _ _).alloc (Nat.le_refl _) _).alloc (by simp) _).alloc (by simp; omega) _) _

end Sha
end Go.Proofs.YtkmphpkobjhleaaDoor
