/- remap: Right, by two sets. -/
import Derived.Test.YtllejfnmbpjhaaaDoorJRm
import Derived.Test.YtllejfnmbpjhaaaDoorQTail2
import Derived.BigRegion
namespace Go.Proofs.YtllejfnmbpjhaaaDoor
set_option maxRecDepth 20000
namespace Rm
open Go.RowKit Dk

theorem keepL {L : Nat → Bool} {i j : Nat} {P : Prop} (h : L j = true → P) (hij : (j == i) = false) : (j == i || L j) = true → P := by rw [hij, Bool.false_or]; exact h
theorem keepL' {L : Nat → Bool} {i j : Nat} {P : Prop} (h : L j = false → P) (hij : (j == i) = false) : (j == i || L j) = false → P := by rw [hij, Bool.false_or]; exact h
def i64 (z : Int) : Prop := -9223372036854775808 ≤ z ∧ z ≤ 9223372036854775807
/-- the cells of a pair -/
def prV (F T : Nat → Int) (i : Nat) : List Value := [.int .i64 (F i), .int .i64 (T i)]

theorem right_no {s gen : Int} {n : Nat} {F T : Nat → Int} (h : halfN s = 0 ∨ gen < 0 ∨ 4611686018427387904 < gen ∨ 20 < n) : rightB s gen n F T = false := by
  cases e : rightB s gen n F T with
  | false => rfl
  | true =>
    obtain ⟨h1, h2, h3, h4, _⟩ := right_parts e
    rcases h with h | h | h | h
    · exact absurd h h1
    · omega
    · omega
    · omega
theorem right_pair {s gen : Int} {n j : Nat} {F T : Nat → Int} (hj : j < n) (h : pairB (halfN s) s (F j) (T j) = false) : rightB s gen n F T = false := by
  cases e : rightB s gen n F T with
  | false => rfl
  | true =>
    obtain ⟨_, _, _, _, h5, _⟩ := right_parts e
    rw [pairsB_iff.1 h5 j hj] at h
    cases h
theorem right_end {s gen : Int} {n : Nat} {F T : Nat → Int} (h0 : halfN s ≠ 0) (h1 : 0 ≤ gen) (h2 : gen ≤ 4611686018427387904) (h3 : n ≤ 20) (h4 : pairsB (halfN s) s F T n = true) : rightB s gen n F T = (distB F n && distB T n) := by
  unfold rightB
  rw [decide_eq_true h0, decide_eq_true h1, decide_eq_true h2, decide_eq_true h3, h4]
  simp

def SInv (x0 x1 x2 x3 x4 x5 x8 x10 x11 x12 x13 x14 x15 x16 x17 x18 x19 x20 x21 x22 x23 x24 x25 x26 x27 x28 x29 x30 x31 x32 x33 x34 x35 x36 x37 x38 x39 x40 x41 x42 x43 x44 x45 x46 x47 x48 x49 x50 x51 x52 x53 x54 x55 x56 x65 x66 x67 x68 x69 x70 x71 x72 x73 x74 x75 x76 x77 x78 x79 : Value) (mf mt eb j : Nat) (F T : Nat → Int) (B : Nat) (w0 : World) (L : Nat → Bool) (a' : Act) (w' : World) : Prop :=
  ∃ u0 u1 u2 u3 u4 u5 u6 u7, a' = { tmps := #[x0, x1, x2, x3, x4, x5, .map (some mf), .map (some mt), x8, .pointer (some ⟨eb, 0, none⟩), x10, x11, x12, x13, x14, x15, x16, x17, x18, x19, x20, x21, x22, x23, x24, x25, x26, x27, x28, x29, x30, x31, x32, x33, x34, x35, x36, x37, x38, x39, x40, x41, x42, x43, x44, x45, x46, x47, x48, x49, x50, x51, x52, x53, x54, x55, x56, u0, u1, u2, u3, u4, u5, u6, u7, x65, x66, x67, x68, x69, x70, x71, x72, x73, x74, x75, x76, x77, x78, x79], defers := [] } ∧ (L 0 = true → u0 = .map (some mf)) ∧ (L 1 = true → u1 = .pointer (some ⟨eb, 0, none⟩)) ∧ (L 2 = true → u2 = .int .i64 (F j)) ∧ (L 3 = true → u3 = .map (some mt)) ∧ (L 4 = true → u4 = .pointer (some ⟨eb, 1, none⟩)) ∧ (L 5 = true → u5 = .int .i64 (T j)) ∧ (L 6 = true → u6 = .agg #[]) ∧ (L 7 = true → u7 = .agg #[]) ∧
    Below B w0 w' ∧ B ≤ w'.heap.size ∧ eb < w'.heap.size ∧ w'.cell? ⟨eb, 0, none⟩ = some (.int .i64 (F j)) ∧ w'.cell? ⟨eb, 1, none⟩ = some (.int .i64 (T j)) ∧ (L 8 = false → IsSet w' mf F j) ∧ (L 8 = true → IsSet w' mf F (j + 1)) ∧ IsSet w' mt T j

theorem pair_one (a b : Int) : (#[.int .i64 a, .int .i64 b] : Array Value).all (·.oneCell') = true := by simp [Value.oneCell']

def RtI (B : Nat) (w0 : World) (mf mt : Nat) (h s : Int) (F T : Nat → Int) (j : Nat) (w : World) : Prop :=
  pairsB h s F T j = true ∧ IsSet w mf F j ∧ IsSet w mt T j ∧ Below B w0 w ∧ B ≤ w.heap.size

set_option maxRecDepth 100000 in
set_option maxHeartbeats 4000000 in
theorem right_any (s gen : Int) (n : Nat) (F T : Nat → Int) (pa : Option Addr) (cap g : Nat) (w : World) (hl : Lay w w.heap.size g pa n cap 2 (prV F T)) (hn : n ≤ 140737488355328) (hF : ∀ i, i < n → i64 (F i) ∧ i64 (T i)) :
    Calls Tryd.prog 63 #[.agg #[.int .i64 gen, .slice pa n cap], .int .i64 s] w fun e w' => e = .returned (.bool (rightB s gen n F T)) ∧ Below w.heap.size w w' := by
  have HL := Lib.hid hl
  have HF := Lib.hid hF
  have HNO := Lib.hid (@right_no s gen n F T)
  have HPA := Lib.hid (fun j hj hp => @right_pair s gen n j F T hj hp)
  have HEN := Lib.hid (@right_end s gen n F T)
  have hbd := halfN_bd s
  have HH := Lib.hid (fun W => half_any s W)
  clear hl hF
  generalize rightB s gen n F T = R at HNO HPA HEN ⊢
  generalize halfN s = h at HNO HPA HEN HH hbd ⊢
  obtain ⟨hb0, hb1, hb2'⟩ := hbd
  have hb2 := Lib.hid hb2'
  clear hb2'
  have hmm := @run_makeMap Tryd.prog
  go_enter Tryd.func63, Tryd.ntmps63
  go_wp2_with fail
  generalize hW : w.alloc (.cells #[.int .i64 gen, .slice pa n cap] 26) = W
  have hB0 : Below w.heap.size w W := by rw [← hW]; exact (Below.refl _ _).alloc (Nat.le_refl _) _
  have hx0 : W.heap[w.heap.size]? = some (.cells #[.int .i64 gen, .slice pa n cap] 26 (0, 0)) := by rw [← hW]; exact heap_alloc_new _ _
  have hs0 : W.heap.size = w.heap.size + 1 := by rw [← hW]; simp
  clear hW
  refine (HH.out W).mono ?_
  rintro _ w1 ⟨rfl, hB1⟩
  have hx1 := (hB1.block w.heap.size (by omega)).trans hx0
  have c0 : w1.cell? ⟨w.heap.size, 0, none⟩ = some (.int .i64 gen) := by rw [cell_of_row _ _ _ _ _ _ hx1]; rfl
  have c1 : w1.cell? ⟨w.heap.size, 1, none⟩ = some (.slice pa n cap) := by rw [cell_of_row _ _ _ _ _ _ hx1]; rfl
  have hB : Below w.heap.size w w1 := hB0.trans (hB1.mono (by omega))
  have hs1 : w.heap.size < w1.heap.size := by have := hB1.size; omega
  clear hB0 hB1 hx0 HH
  dsimp only
  by_cases e0 : h = 0
  · have HR := Lib.hid (HNO.out (.inl e0))
    subst e0
    go_wp2_with fail
    go_ret
    exact ⟨by rw [HR.out]; rfl, hB⟩
  have e0' : (h == 0) = false := by simpa using e0
  by_cases e1 : gen < 0
  · have HR := Lib.hid (HNO.out (.inr (.inl e1)))
    go_wp2_with fail
    go_ret
    exact ⟨by rw [HR.out]; rfl, hB⟩
  by_cases e2 : 4611686018427387904 < gen
  · have HR := Lib.hid (HNO.out (.inr (.inr (.inl e2))))
    go_wp2_with fail
    go_ret
    exact ⟨by rw [HR.out]; rfl, hB⟩
  by_cases e3 : 20 < n
  · have HR := Lib.hid (HNO.out (.inr (.inr (.inr e3))))
    have e3' : (20 : Int) < (n : Int) := by omega
    go_wp2_with fail
    go_ret
    exact ⟨by rw [HR.out]; rfl, hB⟩
  have e3' : ¬ (20 : Int) < (n : Int) := by omega
  obtain ⟨hb3, hb4'⟩ := hb2.out e0
  have hb5 : s ≤ 4096 := by omega
  clear hb4'
  have HEN2 := Lib.hid (HEN.out e0 (by omega) (by omega) (by omega))
  clear hb2 HNO HEN
  have hM1 := IsSet.made w1 F
  have hM2 := IsSet.made (w1.alloc (.map #[] 0)) T
  have hM1' := hM1.below ((Below.refl _ _).alloc (Nat.le_refl _) (.map #[] 0))
  rw [World.size_alloc] at hM2
  have hB2 : Below w.heap.size w ((w1.alloc (.map #[] 0)).alloc (.map #[] 0)) := (hB.alloc hB.size _).alloc (by simp; have := hB.size; omega) _
  have hs2 : ((w1.alloc (.map #[] 0)).alloc (.map #[] 0)).heap.size = w1.heap.size + 2 := by simp
  have c1' : ((w1.alloc (.map #[] 0)).alloc (.map #[] 0)).cell? ⟨w.heap.size, 1, none⟩ = some (.slice pa n cap) := (World.cell?_alloc_lt _ _ _ (by simp; omega)).trans ((World.cell?_alloc_lt _ _ _ hs1).trans c1)
  clear hM1 hx1
  go_wp2_with fail
  generalize (w1.alloc (.map #[] 0)).alloc (.map #[] 0) = W at hM1' hM2 hB2 hs2 c1' ⊢
  generalize w1.heap.size = mf at hM1' hM2 hs2 hs1 ⊢
  have HI : Hid (RtI w.heap.size w mf (mf + 1) h s F T 0 W ∧ W.cell? ⟨w.heap.size, 1, none⟩ = some (.slice pa n cap)) := Lib.hid ⟨⟨rfl, hM1', hM2, hB2, hB2.size⟩, c1'⟩
  clear hM1' hM2 hB2 c1' hs2 c0 c1
  go_loopw [35] (fun i wr => ∃ j : Nat, j ≤ n ∧ i = .int .i64 j ∧ Hid (RtI w.heap.size w mf (mf + 1) h s F T j wr ∧ wr.cell? ⟨w.heap.size, 1, none⟩ = some (.slice pa n cap))) (fun i _ => n - (intOf i).toNat)
  case atStart => exact ⟨0, by omega, rfl, HI⟩
  case round =>
    obtain ⟨j, hj, rfl, hR⟩ := hrel
    clear HI
    by_cases hlt : j < n
    · obtain ⟨b, off, rfl, hbl, _, hrow⟩ := HL.out.rows.resolve_left (by omega)
      obtain ⟨⟨hps, hA1, hA2, hBr, hBs⟩, hc1⟩ := hR.out
      have dF : wr.cell? ⟨b, off + j * 2, none⟩ = some (.int .i64 (F j)) := (hBr.cell (p := ⟨b, off + j * 2, none⟩) hbl).trans (hrow j hlt 0 _ rfl)
      have dT : wr.cell? ⟨b, off + j * 2 + 1, none⟩ = some (.int .i64 (T j)) := (hBr.cell (p := ⟨b, off + j * 2 + 1, none⟩) hbl).trans (hrow j hlt 1 _ rfl)
      obtain ⟨hFj, hTj⟩ := HF.out j hlt
      have hj0 : (0 : Int) ≤ (j : Int) := by omega
      have hjn : (j : Int) < (n : Int) := by omega
      have hj20 : j ≤ 1000000 := by omega
      have hPJ := Lib.hid (HPA.out j hlt)
      have hmt := hA2.lt
      have hAA1 := Lib.hid hA1
      have hAA2 := Lib.hid hA2
      have hPS := Lib.hid hps
      clear hrow hR hA1 hA2 hps
      go_wp2_with (refine wpList_store_row rfl 100 (.tmp 9) (.tmp 38) rfl wr.heap.size #[.int .i64 (F j), .int .i64 (T j)] rfl rfl 100 _ (heap_alloc_new wr _) (by kernel_rfl) rfl (pair_one _ _) ?_; rw [World.setRow_alloc_new]; simp only [Act.put])
      generalize hW2 : wr.alloc (.cells #[.int .i64 (F j), .int .i64 (T j)] 100) = W2
      have hb2w : Below wr.heap.size wr W2 := by rw [← hW2]; exact (Below.refl _ _).alloc (Nat.le_refl _) _
      have hx2 : W2.heap[wr.heap.size]? = some (.cells #[.int .i64 (F j), .int .i64 (T j)] 100 (0, 0)) := by rw [← hW2]; exact heap_alloc_new _ _
      have hz2 : W2.heap.size = wr.heap.size + 1 := by rw [← hW2]; simp
      clear hW2 dF dT
      refine (lent_any h (F j) W2 hb0 (by omega)).mono ?_
      rintro _ w3 ⟨rfl, hb3⟩
      have hb3w : Below wr.heap.size wr w3 := hb2w.trans (hb3.mono (by omega))
      have hx3 := (hb3.block wr.heap.size (by omega)).trans hx2
      have c0 : w3.cell? ⟨wr.heap.size, 0, none⟩ = some (.int .i64 (F j)) := by rw [cell_of_row _ _ _ _ _ _ hx3]; rfl
      have c1 : w3.cell? ⟨wr.heap.size, 1, none⟩ = some (.int .i64 (T j)) := by rw [cell_of_row _ _ _ _ _ _ hx3]; rfl
      have hB3 : Below w.heap.size w w3 := hBr.trans (hb3w.mono hBs)
      have hz3 := hb3.size
      clear hb3 hb2w hx2
      cases hle : lentB h (F j) with
      | false =>
        have HR := Lib.hid (hPJ.out (by unfold pairB; rw [hle]; rfl))
        clear hle
        dsimp only
        go_wp2_with fail
        go_ret
        exact ⟨by rw [HR.out]; rfl, hB3⟩
      | true =>
        by_cases t1 : T j < 2 * h
        · have HR := Lib.hid (hPJ.out (by unfold pairB; rw [decide_eq_false (p := 2 * h ≤ T j) (by omega)]; simp))
          clear hle
          dsimp only
          go_wp2_with fail
          go_ret
          exact ⟨by rw [HR.out]; rfl, hB3⟩
        · by_cases t2 : s ≤ T j
          · have HR := Lib.hid (hPJ.out (by unfold pairB; rw [decide_eq_false (p := T j < s) (by omega)]; simp))
            clear hle
            dsimp only
            go_wp2_with fail
            go_ret
            exact ⟨by rw [HR.out]; rfl, hB3⟩
          · have hPN : Hid (pairsB h s F T (j + 1) = true) := Lib.hid (by simp only [pairsB, hPS.out, Bool.true_and]; unfold pairB; rw [hle, decide_eq_true (p := 2 * h ≤ T j) (by omega), decide_eq_true (p := T j < s) (by omega)]; rfl)
            clear hle hPJ hPS
            dsimp only
            go_wp2_with fail
            have hmw : mf ≤ w3.heap.size := by omega
            have hk1 : w3.cell? ⟨w.heap.size, 1, none⟩ = some (.slice (some ⟨b, off, none⟩) n cap) := (hb3w.cell (p := ⟨w.heap.size, 1, none⟩) (show w.heap.size < wr.heap.size by omega)).trans hc1
            refine QuietTail2.regionInv (n := 9) (Inv := SInv _ _ _ _ _ _ _ _ _ _ _ _ _ _ _ _ _ _ _ _ _ _ _ _ _ _ _ _ _ _ _ _ _ _ _ _ _ _ _ _ _ _ _ _ _ _ _ _ _ _ _ _ _ _ _ _ _ _ _ _ _ _ _ _ _ _ _ _ _ mf (mf + 1) wr.heap.size j F T mf w3) (by kernel_rfl) (by decide) (by kernel_rfl) ⟨_, _, _, _, _, _, _, _, rfl, by simp, by simp, by simp, by simp, by simp, by simp, by simp, by simp, ⟨rfl, rfl, rfl, Nat.le_refl _, fun _ _ => rfl⟩, hmw, by show wr.heap.size < w3.heap.size; omega, c0, c1, fun _ => hAA1.out.below (hb3w.trans ⟨rfl, rfl, rfl, Nat.le_refl _, fun _ _ => rfl⟩), by simp, hAA2.out.below (hb3w.trans ⟨rfl, rfl, rfl, Nat.le_refl _, fun _ _ => rfl⟩)⟩ ?step ?fin
            case step =>
              rintro i o hi ho L a' w' ⟨u0, u1, u2, u3, u4, u5, u6, u7, rfl, i0, i1, i2, i3, i4, i5, i6, i7, iB, iS, iE, iF, iT, iM, iM1, iN⟩ hL hpre
              match i, hi with
              | 0, _ =>
                simp at ho
                subst ho
                go_simp
                exact ⟨_, u1, u2, u3, u4, u5, u6, u7, rfl, fun _ => rfl, keepL i1 rfl, keepL i2 rfl, keepL i3 rfl, keepL i4 rfl, keepL i5 rfl, keepL i6 rfl, keepL i7 rfl, iB, iS, iE, iF, iT, keepL' iM rfl, keepL iM1 rfl, iN⟩
              | 1, _ =>
                simp at ho
                subst ho
                go_simp
                exact ⟨u0, _, u2, u3, u4, u5, u6, u7, rfl, keepL i0 rfl, fun _ => rfl, keepL i2 rfl, keepL i3 rfl, keepL i4 rfl, keepL i5 rfl, keepL i6 rfl, keepL i7 rfl, iB, iS, iE, iF, iT, keepL' iM rfl, keepL iM1 rfl, iN⟩
              | 2, _ =>
                simp at ho
                subst ho
                obtain rfl := i1 (hpre 1 (by kernel_rfl))
                go_simp
                exact ⟨u0, _, _, u3, u4, u5, u6, u7, rfl, keepL i0 rfl, keepL i1 rfl, fun _ => rfl, keepL i3 rfl, keepL i4 rfl, keepL i5 rfl, keepL i6 rfl, keepL i7 rfl, iB, iS, iE, iF, iT, keepL' iM rfl, keepL iM1 rfl, iN⟩
              | 3, _ =>
                simp at ho
                subst ho
                go_simp
                exact ⟨u0, u1, u2, _, u4, u5, u6, u7, rfl, keepL i0 rfl, keepL i1 rfl, keepL i2 rfl, fun _ => rfl, keepL i4 rfl, keepL i5 rfl, keepL i6 rfl, keepL i7 rfl, iB, iS, iE, iF, iT, keepL' iM rfl, keepL iM1 rfl, iN⟩
              | 4, _ =>
                simp at ho
                subst ho
                go_simp
                exact ⟨u0, u1, u2, u3, _, u5, u6, u7, rfl, keepL i0 rfl, keepL i1 rfl, keepL i2 rfl, keepL i3 rfl, fun _ => rfl, keepL i5 rfl, keepL i6 rfl, keepL i7 rfl, iB, iS, iE, iF, iT, keepL' iM rfl, keepL iM1 rfl, iN⟩
              | 5, _ =>
                simp at ho
                subst ho
                obtain rfl := i4 (hpre 4 (by kernel_rfl))
                go_simp
                exact ⟨u0, u1, u2, u3, _, _, u6, u7, rfl, keepL i0 rfl, keepL i1 rfl, keepL i2 rfl, keepL i3 rfl, keepL i4 rfl, fun _ => rfl, keepL i6 rfl, keepL i7 rfl, iB, iS, iE, iF, iT, keepL' iM rfl, keepL iM1 rfl, iN⟩
              | 6, _ =>
                simp at ho
                subst ho
                go_simp
                exact ⟨u0, u1, u2, u3, u4, u5, _, u7, rfl, keepL i0 rfl, keepL i1 rfl, keepL i2 rfl, keepL i3 rfl, keepL i4 rfl, keepL i5 rfl, fun _ => rfl, keepL i7 rfl, iB, iS, iE, iF, iT, keepL' iM rfl, keepL iM1 rfl, iN⟩
              | 7, _ =>
                simp at ho
                subst ho
                go_simp
                exact ⟨u0, u1, u2, u3, u4, u5, u6, _, rfl, keepL i0 rfl, keepL i1 rfl, keepL i2 rfl, keepL i3 rfl, keepL i4 rfl, keepL i5 rfl, keepL i6 rfl, fun _ => rfl, iB, iS, iE, iF, iT, keepL' iM rfl, keepL iM1 rfl, iN⟩
              | 8, _ =>
                simp at ho
                subst ho
                obtain rfl := i0 (hpre 0 (by kernel_rfl))
                obtain rfl := i2 (hpre 2 (by kernel_rfl))
                obtain rfl := i6 (hpre 6 (by kernel_rfl))
                have hM := iM hL
                refine wp_add (.tmp 57) (.tmp 59) (.tmp 63) rfl mf j F hj20 rfl hM rfl rfl hFj ?_
                intro w'' hM1 hg
                have hsz := hg.size
                have hEb : some wr.heap.size ≠ some mf := by intro h; injection h with h; omega
                exact ⟨_, u1, _, u3, u4, u5, _, u7, rfl, keepL i0 rfl, keepL i1 rfl, keepL i2 rfl, keepL i3 rfl, keepL i4 rfl, keepL i5 rfl, keepL i6 rfl, keepL i7 rfl, iB.grown hg iS (fun k hk => by injection hk with hk; omega), by omega, by omega, (World.cell?_of_block (hg.block wr.heap.size iE hEb)).trans iF, (World.cell?_of_block (hg.block wr.heap.size iE hEb)).trans iT, fun h => by simp at h, fun _ => hM1, iN.kept hg (by intro h; injection h with h; omega)⟩
              | i + 9, h => omega
            case fin =>
              rintro L a' w' hall ⟨u0, u1, u2, u3, u4, u5, u6, u7, rfl, i0, i1, i2, i3, i4, i5, i6, i7, iB, iS, iE, iF, iT, iM, iM1, iN⟩
              obtain rfl := i3 (hall 3 (by omega))
              obtain rfl := i5 (hall 5 (by omega))
              obtain rfl := i7 (hall 7 (by omega))
              have hM9 := iM1 (hall 8 (by omega))
              simp only [List.drop_succ_cons, List.drop_zero]
              refine wpList_add rfl (.tmp 60) (.tmp 62) (.tmp 64) rfl (mf + 1) j T hj20 rfl iN rfl rfl hTj ?_
              intro w5 hN5 hg5
              have hB5 : Below mf w3 w5 := iB.grown hg5 iS (fun k hk => by injection hk with hk; omega)
              have HN : Hid (RtI w.heap.size w mf (mf + 1) h s F T (j + 1) w5 ∧ w5.cell? ⟨w.heap.size, 1, none⟩ = some (.slice (some ⟨b, off, none⟩) n cap)) := Lib.hid ⟨⟨hPN.out, hM9.kept hg5 (by intro h; injection h with h; omega), hN5, hB3.trans (hB5.mono (by omega)), by have := hB5.size; omega⟩, (hB5.cell (p := ⟨w.heap.size, 1, none⟩) (show w.heap.size < mf by omega)).trans hk1⟩
              clear hB5 hg5 hN5 hM9 iB iS iE iF iT iM iM1 iN i0 i1 i2 i3 i4 i5 i6 i7 hall hk1 hAA1 hAA2 c0 c1 hx3 hb3w hB3
              go_wp2_with fail
              go_roundw
              case rel => exact ⟨j + 1, by omega, by go_num, HN⟩
              case measure => simp [intOf]; omega
    · obtain rfl : j = n := by omega
      obtain ⟨⟨hps, hA1, hA2, hBr, hBs⟩, hc1⟩ := hR.out
      have hlen1 := fun ty => World.ownsMap.len hA1 map_t ty
      have hlen2 := fun ty => World.ownsMap.len hA2 map_t ty
      have hz1 := setD_size F j
      have hz2 := setD_size T j
      have hR2 := HEN2.out hps
      clear hA1 hA2 hps hR HEN2
      generalize Maps.size (setD F j) = z1 at hlen1 hz1
      generalize Maps.size (setD T j) = z2 at hlen2 hz2
      cases d1 : distB F j with
      | false =>
        have hne : z1 ≠ j := fun e => by rw [hz1.2.1 e] at d1; cases d1
        have e1 : ((z1 : Int) == (j : Int)) = false := by simp; omega
        have HR : Hid (R = false) := Lib.hid (by rw [hR2, d1]; rfl)
        clear hz1 hz2 hR2 d1
        go_wp2_with fail
        go_ret
        exact ⟨by rw [HR.out]; rfl, hBr⟩
      | true =>
        have e0 : z1 = j := hz1.2.2 d1
        subst e0
        cases d2 : distB T z1 with
        | false =>
          have hne : z2 ≠ z1 := fun e => by rw [hz2.2.1 e] at d2; cases d2
          have e1 : ((z2 : Int) == (z1 : Int)) = false := by simp; omega
          have HR : Hid (R = false) := Lib.hid (by rw [hR2, d1, d2]; rfl)
          clear hz1 hz2 hR2 d1 d2
          go_wp2_with fail
          go_ret
          exact ⟨by rw [HR.out]; rfl, hBr⟩
        | true =>
          have e1 : z2 = z1 := hz2.2.2 d2
          subst e1
          have HR : Hid (R = true) := Lib.hid (by rw [hR2, d1, d2]; rfl)
          clear hz1 hz2 hR2 d1 d2
          go_wp2_with fail
          go_ret
          exact ⟨by rw [HR.out]; rfl, hBr⟩
end Rm
end Go.Proofs.YtllejfnmbpjhaaaDoor
