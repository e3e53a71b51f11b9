/- space: formed, the first free sector, of the code and of the reference. -/
import Derived.Test.YtdbmdocmnhgbpaaSpNew
namespace Go.Proofs.Ytdbmdocmnhgbpaa
set_option maxRecDepth 20000
namespace Sp
open Go.RowKit Dk Eqb Byt

/-- the first one that is 0, of so many -/
def fz (F : Nat → Int) : Nat → Int
  | 0 => -1
  | k + 1 => if 0 ≤ fz F k then fz F k else if F k == 0 then (k : Int) else -1
theorem fz_lt (F : Nat → Int) : ∀ k : Nat, -1 ≤ fz F k ∧ fz F k < k
  | 0 => by simp [fz]
  | k + 1 => by
    have := fz_lt F k
    rw [fz]
    split
    · omega
    · split <;> omega
theorem fz_at {F : Nat → Int} : ∀ {k i : Nat}, fz F k = i → F i = 0
  | 0, i, h => by
    rw [fz] at h
    omega
  | k + 1, i, h => by
    rw [fz] at h
    split at h
    · exact fz_at h
    · split at h
      · rename_i e
        obtain rfl : k = i := by omega
        simpa using e
      · omega
theorem fz_none {F : Nat → Int} : ∀ {k : Nat}, fz F k < 0 → ∀ i, i < k → F i ≠ 0
  | 0, _, i, hi => by omega
  | k + 1, h, i, hi => by
    rw [fz] at h
    split at h
    · omega
    · split at h
      · omega
      · rename_i h1 e
        by_cases e2 : i = k
        · subst e2; simpa using e
        · exact fz_none (k := k) (show fz F k < 0 by omega) i (by omega)
theorem fz_stay {F : Nat → Int} {k : Nat} : ∀ {m : Nat}, k ≤ m → 0 ≤ fz F k → fz F m = fz F k
  | 0, h, h0 => by obtain rfl : k = 0 := by omega
                   rfl
  | m + 1, h, h0 => by
    by_cases e : k = m + 1
    · rw [e]
    · have ih := fz_stay (F := F) (k := k) (m := m) (by omega) h0
      rw [fz, if_pos (by omega), ih]
theorem fz_here {F : Nat → Int} {k m : Nat} (hk : k < m) (h : fz F k < 0) (e : F k = 0) : fz F m = k := by
  have h1 : fz F (k + 1) = k := by rw [fz, if_neg (by omega), if_pos (by simpa using e)]
  rw [fz_stay (k := k + 1) (by omega) (by omega), h1]
theorem fz_next {F : Nat → Int} {k : Nat} (h : fz F k < 0) (e : (F k == 0) = false) : fz F (k + 1) < 0 := by
  rw [fz, if_neg (by omega), e]
  simp
theorem fz_m1 {F : Nat → Int} {k : Nat} (h : fz F k < 0) : fz F k = -1 := by have := fz_lt F k; omega

set_option maxHeartbeats 1000000 in
theorem formed_any (g : Nat) (A B Z : Int) (ao : Option Addr) (n cap : Nat) (f : Nat → Int) (w : World) (hx : Bs w g A B Z ao n cap) (hB : i64 B) (hs : St w w.heap.size ao n cap f) :
    Calls Try.prog 40 #[.pointer (some ⟨g, 0, none⟩)] w fun e w' => e = .returned (.bool (formB A B Z n f)) ∧ Below w.heap.size w w' := by
  have h0 := hx.c0
  have h1 := hx.c1
  have h2 := hx.c2
  have h3 := hx.c3
  have HF := Lib.hid (Formed_any A B Z ao n cap f w hB hs.room hs.lies)
  generalize formB A B Z n f = v at HF
  clear hs
  go_enter Try.func40, Try.ntmps40
  go_wp2_with fail
  refine HF.out.mono ?_
  rintro _ w1 ⟨rfl, hb1⟩
  dsimp only
  go_wp2_with fail
  go_ret
  exact ⟨rfl, hb1⟩

set_option maxHeartbeats 1000000 in
theorem index_any (b off z cap : Nat) (F : Nat → Int) (w : World) (hz : z ≤ 140737488355328) (hc : ∀ i, i < z → w.cell? ⟨b, off + i, none⟩ = some (.int .u8 (F i))) :
    Calls Try.prog 51 #[.slice (some ⟨b, off, none⟩) z cap, .int .u8 0] w fun e w' => e = .returned (.int .i64 (fz F z)) ∧ w' = w := by
  have HC := Lib.hid hc
  clear hc
  go_enter Try.func51, Try.ntmps51
  go_wp2_with fail
  go_loop [8] (fun i => ∃ j : Nat, j ≤ z ∧ i = .int .i64 j ∧ Hid (fz F j < 0)) (fun i => z - (intOf i).toNat)
  case atStart => exact ⟨0, by omega, rfl, Lib.hid (by simp [fz])⟩
  case round =>
    obtain ⟨j, hj, rfl, hR⟩ := hrel
    by_cases hlt : j < z
    · have hcj := HC.out j hlt
      have hj0 : (0 : Int) ≤ (j : Int) := by omega
      have hjn : (j : Int) < (z : Int) := by omega
      have HY := Lib.hid (fun e => fz_here hlt hR.out e)
      have HO := Lib.hid (fun e => fz_next hR.out e)
      generalize F j = v at hcj HY HO
      cases hv : v == 0 with
      | true =>
        have HV := Lib.hid (HY.out (by simpa using hv))
        have hv' : (0 == v) = true := by rw [BEq.comm]; exact hv
        clear HY HO hR
        go_wp2_with fail
        go_ret
        exact ⟨by rw [HV.out]; rfl, rfl⟩
      | false =>
        have HV := Lib.hid (HO.out hv)
        have hv' : (0 == v) = false := by rw [BEq.comm]; exact hv
        clear HY HO hR
        go_wp2_with fail
        go_round
        case rel => exact ⟨j + 1, by omega, by go_num, HV⟩
        case measure => simp [intOf]; omega
    · obtain rfl : j = z := by omega
      have HV := Lib.hid (fz_m1 hR.out)
      clear hR
      go_wp2_with fail
      go_ret
      exact ⟨by rw [HV.out]; rfl, rfl⟩

/-- a region's first free sector; -1: none -/
def ff (A : Int) (F : Nat → Int) (z : Nat) : Int := if fz F z < 0 then -1 else A + fz F z
theorem ff_no {A : Int} {F : Nat → Int} {z : Nat} (h : fz F z < 0) : ff A F z = -1 := if_pos h
theorem ff_yes {A : Int} {F : Nat → Int} {z : Nat} (h : ¬ fz F z < 0) : ff A F z = A + fz F z := if_neg h

set_option maxHeartbeats 1000000 in
theorem firstFree0_any (A B : Int) (z b off n cap : Nat) (f : Nat → Int) (w : World) (hz1 : 1 ≤ z) (hz2 : z ≤ 2000) (hn : n = 2 * z) (hnc : n ≤ cap) (hA : 0 ≤ A ∧ A ≤ 4096) (hB : 0 ≤ B ∧ B ≤ 4096) (hb : b < w.heap.size) (hc : ∀ i, i < n → w.cell? ⟨b, off + i, none⟩ = some (.int .u8 (f i))) :
    Calls Try.prog 41 #[.agg #[.int .i64 A, .int .i64 B, .int .i64 z, .slice (some ⟨b, off, none⟩) n cap], .int .i64 0] w fun e w' => e = .returned (.int .i64 (ff A f z)) ∧ Below w.heap.size w w' := by
  obtain ⟨W, hW, hbW, hsW, hxW⟩ := box_sp w A B z (some ⟨b, off, none⟩) n cap
  have HC := Lib.hid hc
  have HP := Lib.hid (region0_any A B z b off n cap W hz1 hz2 hn hnc)
  have HI := Lib.hid (fun (w1 : World) (hb1 : Below W.heap.size W w1) => index_any b (off) z (cap) f w1 (by omega) fun i hi => (hb1.cell (p := ⟨b, off + i, none⟩) (by show b < W.heap.size; omega)).trans ((hbW.cell (p := ⟨b, off + i, none⟩) hb).trans (HC.out i (by omega))))
  have hfl := fz_lt f z
  obtain ⟨hA1, hA2⟩ := hA
  obtain ⟨hB1, hB2⟩ := hB
  have HY := Lib.hid (fun h => ff_yes (A := A) (F := f) (z := z) h)
  have HO := Lib.hid (fun h => ff_no (A := A) (F := f) (z := z) h)
  clear hc hn
  generalize fz f z = k at *
  obtain ⟨hk1, hk2⟩ := hfl
  go_enter Try.func41, Try.ntmps41
  go_wp2_with fail
  rw [← hW]
  clear hW
  refine HP.out.mono ?_
  rintro _ w1 ⟨rfl, hb1⟩
  dsimp only
  have d0 := (hxW.below hb1 (by omega)).c0
  have d1 := (hxW.below hb1 (by omega)).c1
  go_wp2_with fail
  refine (HI.out w1 hb1).mono ?_
  rintro _ w2 ⟨rfl, rfl⟩
  dsimp only
  by_cases hk : k < 0
  · have HV := Lib.hid (HO.out hk)
    go_wp2_with fail
    go_ret
    exact ⟨by rw [HV.out]; rfl, hbW.trans (hb1.mono (by omega))⟩
  · have HV := Lib.hid (HY.out (by omega))
    go_wp2_with fail
    go_ret
    exact ⟨by rw [HV.out]; rfl, hbW.trans (hb1.mono (by omega))⟩

set_option maxHeartbeats 1000000 in
theorem firstFree1_any (A B : Int) (z b off n cap : Nat) (f : Nat → Int) (w : World) (hz1 : 1 ≤ z) (hz2 : z ≤ 2000) (hn : n = 2 * z) (hnc : n ≤ cap) (hA : 0 ≤ A ∧ A ≤ 4096) (hB : 0 ≤ B ∧ B ≤ 4096) (hb : b < w.heap.size) (hc : ∀ i, i < n → w.cell? ⟨b, off + i, none⟩ = some (.int .u8 (f i))) :
    Calls Try.prog 41 #[.agg #[.int .i64 A, .int .i64 B, .int .i64 z, .slice (some ⟨b, off, none⟩) n cap], .int .i64 1] w fun e w' => e = .returned (.int .i64 (ff B (fun i => f (z + i)) z)) ∧ Below w.heap.size w w' := by
  obtain ⟨W, hW, hbW, hsW, hxW⟩ := box_sp w A B z (some ⟨b, off, none⟩) n cap
  have HC := Lib.hid hc
  have HP := Lib.hid (region1_any A B z b off n cap W hz1 hz2 hn hnc)
  have HI := Lib.hid (fun (w1 : World) (hb1 : Below W.heap.size W w1) => index_any b (off + z) z (cap - z) (fun i => f (z + i)) w1 (by omega) fun i hi => (hb1.cell (p := ⟨b, off + z + i, none⟩) (by show b < W.heap.size; omega)).trans ((hbW.cell (p := ⟨b, off + z + i, none⟩) hb).trans ((congrArg (fun o => w.cell? ⟨b, o, none⟩) (Nat.add_assoc off z i)).trans (HC.out (z + i) (by omega)))))
  have hfl := fz_lt (fun i => f (z + i)) z
  obtain ⟨hA1, hA2⟩ := hA
  obtain ⟨hB1, hB2⟩ := hB
  have HY := Lib.hid (fun h => ff_yes (A := B) (F := (fun i => f (z + i))) (z := z) h)
  have HO := Lib.hid (fun h => ff_no (A := B) (F := (fun i => f (z + i))) (z := z) h)
  clear hc hn
  generalize fz (fun i => f (z + i)) z = k at *
  obtain ⟨hk1, hk2⟩ := hfl
  go_enter Try.func41, Try.ntmps41
  go_wp2_with fail
  rw [← hW]
  clear hW
  refine HP.out.mono ?_
  rintro _ w1 ⟨rfl, hb1⟩
  dsimp only
  have d0 := (hxW.below hb1 (by omega)).c0
  have d1 := (hxW.below hb1 (by omega)).c1
  go_wp2_with fail
  refine (HI.out w1 hb1).mono ?_
  rintro _ w2 ⟨rfl, rfl⟩
  dsimp only
  by_cases hk : k < 0
  · have HV := Lib.hid (HO.out hk)
    go_wp2_with fail
    go_ret
    exact ⟨by rw [HV.out]; rfl, hbW.trans (hb1.mono (by omega))⟩
  · have HV := Lib.hid (HY.out (by omega))
    go_wp2_with fail
    go_ret
    exact ⟨by rw [HV.out]; rfl, hbW.trans (hb1.mono (by omega))⟩

set_option maxHeartbeats 1000000 in
theorem reffirst0_any (A B : Int) (z b off n cap : Nat) (f : Nat → Int) (w : World) (hz1 : 1 ≤ z) (hz2 : z ≤ 2000) (hn : n = 2 * z) (hA : 0 ≤ A ∧ A ≤ 4096) (hB : 0 ≤ B ∧ B ≤ 4096) (hb : b < w.heap.size) (hc : ∀ i, i < n → w.cell? ⟨b, off + i, none⟩ = some (.int .u8 (f i))) :
    Calls Try.prog 43 #[.agg #[.int .i64 A, .int .i64 B, .int .i64 z, .slice (some ⟨b, off, none⟩) n cap], .int .i64 0] w fun e w' => e = .returned (.int .i64 (ff A f z)) ∧ Below w.heap.size w w' := by
  obtain ⟨W, hW, hbW, hsW, hxW⟩ := box_sp w A B z (some ⟨b, off, none⟩) n cap
  have HC := Lib.hid (fun i hi => (hbW.cell (p := ⟨b, off + i, none⟩) hb).trans (hc i hi))
  have HN := Lib.hid hn
  have d0 := hxW.c0
  have d1 := hxW.c1
  have d2 := hxW.c2
  have d3 := hxW.c3
  obtain ⟨hA1, hA2⟩ := hA
  obtain ⟨hB1, hB2⟩ := hB
  clear hc hn
  go_enter Try.func43, Try.ntmps43
  go_wp2_with fail
  rw [← hW]
  clear hW
  go_loop [5] (fun i => ∃ j : Nat, j ≤ z ∧ i = .int .i64 j ∧ Hid (fz f j < 0)) (fun i => z - (intOf i).toNat)
  case atStart => exact ⟨0, by omega, rfl, Lib.hid (by simp [fz])⟩
  case round =>
    obtain ⟨j, hj, rfl, hR⟩ := hrel
    by_cases hlt : j < z
    · have hcj := HC.out (j) (by have := HN.out; omega)
      have hj0 : (0 : Int) ≤ (j : Int) := by omega
      have hjn : (j : Int) < (z : Int) := by omega
      have hjm : (j : Int) < (n : Int) := by have := HN.out; omega
      have HY := Lib.hid (fun e => (fz_here hlt hR.out e : fz f z = j))
      have HO := Lib.hid (fun e => fz_next hR.out e)
      clear hlt
      generalize f (j) = v at hcj HY HO
      cases hv : v == 0 with
      | true =>
        have HV : Hid (ff A f z = A + j) := Lib.hid (by have := HY.out (by simpa using hv); unfold ff; rw [this]; exact if_neg (by omega))
        clear HY HO hR
        go_wp2_with fail
        go_ret
        exact ⟨by rw [HV.out]; rfl, hbW⟩
      | false =>
        have HV := Lib.hid (HO.out hv)
        clear HY HO hR
        go_wp2_with fail
        go_round
        case rel => exact ⟨j + 1, by omega, by go_num, HV⟩
        case measure => simp [intOf]; omega
    · obtain rfl : j = z := by omega
      have HV := Lib.hid (ff_no (A := A) hR.out)
      clear hR
      go_wp2_with fail
      go_ret
      exact ⟨by rw [HV.out]; rfl, hbW⟩

set_option maxHeartbeats 1000000 in
theorem reffirst1_any (A B : Int) (z b off n cap : Nat) (f : Nat → Int) (w : World) (hz1 : 1 ≤ z) (hz2 : z ≤ 2000) (hn : n = 2 * z) (hA : 0 ≤ A ∧ A ≤ 4096) (hB : 0 ≤ B ∧ B ≤ 4096) (hb : b < w.heap.size) (hc : ∀ i, i < n → w.cell? ⟨b, off + i, none⟩ = some (.int .u8 (f i))) :
    Calls Try.prog 43 #[.agg #[.int .i64 A, .int .i64 B, .int .i64 z, .slice (some ⟨b, off, none⟩) n cap], .int .i64 1] w fun e w' => e = .returned (.int .i64 (ff B (fun i => f (z + i)) z)) ∧ Below w.heap.size w w' := by
  obtain ⟨W, hW, hbW, hsW, hxW⟩ := box_sp w A B z (some ⟨b, off, none⟩) n cap
  have HC := Lib.hid (fun i hi => (hbW.cell (p := ⟨b, off + i, none⟩) hb).trans (hc i hi))
  have HN := Lib.hid hn
  have d0 := hxW.c0
  have d1 := hxW.c1
  have d2 := hxW.c2
  have d3 := hxW.c3
  obtain ⟨hA1, hA2⟩ := hA
  obtain ⟨hB1, hB2⟩ := hB
  clear hc hn
  go_enter Try.func43, Try.ntmps43
  go_wp2_with fail
  rw [← hW]
  clear hW
  go_loop [5] (fun i => ∃ j : Nat, j ≤ z ∧ i = .int .i64 j ∧ Hid (fz (fun i => f (z + i)) j < 0)) (fun i => z - (intOf i).toNat)
  case atStart => exact ⟨0, by omega, rfl, Lib.hid (by simp [fz])⟩
  case round =>
    obtain ⟨j, hj, rfl, hR⟩ := hrel
    by_cases hlt : j < z
    · have hcj := HC.out (z + j) (by have := HN.out; omega)
      have hj0 : (0 : Int) ≤ (j : Int) := by omega
      have hjn : (j : Int) < (z : Int) := by omega
      have hjm : (z : Int) + (j : Int) < (n : Int) := by have := HN.out; omega
      have HY := Lib.hid (fun e => (fz_here hlt hR.out e : fz (fun i => f (z + i)) z = j))
      have HO := Lib.hid (fun e => fz_next hR.out e)
      skip
      generalize f (z + j) = v at hcj HY HO
      cases hv : v == 0 with
      | true =>
        have HV : Hid (ff B (fun i => f (z + i)) z = B + j) := Lib.hid (by have := HY.out (by simpa using hv); unfold ff; rw [this]; exact if_neg (by omega))
        clear HY HO hR
        go_wp2_with fail
        go_ret
        exact ⟨by rw [HV.out]; rfl, hbW⟩
      | false =>
        have HV := Lib.hid (HO.out hv)
        clear HY HO hR
        go_wp2_with fail
        go_round
        case rel => exact ⟨j + 1, by omega, by go_num, HV⟩
        case measure => simp [intOf]; omega
    · obtain rfl : j = z := by omega
      have HV := Lib.hid (ff_no (A := B) hR.out)
      clear hR
      go_wp2_with fail
      go_ret
      exact ⟨by rw [HV.out]; rfl, hbW⟩
end Sp
end Go.Proofs.Ytdbmdocmnhgbpaa
