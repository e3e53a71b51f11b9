import Derived.Test.YtebgaafaokiigaaGreatDoorPJRb
import Derived.BigQuiet
import Derived.Test.YtebgaafaokiigaaGreatDoorPJSh
import Derived.Deep.RegionHeld3
/- remap: the reference's Right, by two loops. -/
namespace Go.Proofs.YtebgaafaokiigaaGreatDoor
set_option maxRecDepth 20000
namespace Rm
open Go.RowKit Dk

theorem right_like {s gen : Int} {n i k : Nat} {F T : Nat → Int} (hi : i < n) (hk : k < i) (h : F k = F i ∨ T k = T i) : rightB s gen n F T = false := by
  cases e : rightB s gen n F T with
  | false => rfl
  | true =>
    obtain ⟨_, _, _, _, _, h6, h7⟩ := right_parts e
    rcases h with h | h
    · exact absurd h (distB_iff.1 h6 k i (by omega) hi (by omega))
    · exact absurd h (distB_iff.1 h7 k i (by omega) hi (by omega))

def RrI (B : Nat) (w0 : World) (h s : Int) (F T : Nat → Int) (j : Nat) (w : World) : Prop :=
  pairsB h s F T j = true ∧ distB F j = true ∧ distB T j = true ∧ Below B w0 w ∧ B < w.heap.size
def RrJ (w0 : World) (F T : Nat → Int) (i k : Nat) (w : World) : Prop :=
  noneB F (F i) k = true ∧ noneB T (T i) k = true ∧ Below w0.heap.size w0 w

set_option maxRecDepth 100000 in
set_option maxHeartbeats 4000000 in
theorem refright_any (s gen : Int) (n : Nat) (F T : Nat → Int) (pa : Option Addr) (cap g : Nat) (w : World) (hl : Lay w w.heap.size g pa n cap 2 (prV F T)) (hn : n ≤ 140737488355328) :
    Calls Tryz.prog 34 #[.agg #[.int .i64 gen, .slice pa n cap], .int .i64 s] w fun e w' => e = .returned (.bool (rightB s gen n F T)) ∧ Below w.heap.size w w' := by
  have HL := Lib.hid hl
  have HNO := Lib.hid (@right_no s gen n F T)
  have HPA := Lib.hid (fun j hj hp => @right_pair s gen n j F T hj hp)
  have HLK := Lib.hid (fun i k hi hk hp => @right_like s gen n i k F T hi hk hp)
  have HEN := Lib.hid (@right_end s gen n F T)
  have hbd := halfN_bd s
  have HH := Lib.hid (fun W => refhalf_any s W)
  clear hl
  generalize rightB s gen n F T = R at HNO HPA HEN HLK ⊢
  generalize halfN s = h at HNO HPA HEN HH hbd ⊢
  obtain ⟨hb0, hb1, hb2'⟩ := hbd
  have hb2 := Lib.hid hb2'
  clear hb2'
  go_enter Tryz.func34, Tryz.ntmps34
  go_wp2_with fail
  generalize hW : w.alloc (.cells #[.int .i64 gen, .slice pa n cap] 28) = W
  have hB0 : Below w.heap.size w W := by rw [← hW]; exact (Below.refl _ _).alloc (Nat.le_refl _) _
  have hx0 : W.heap[w.heap.size]? = some (.cells #[.int .i64 gen, .slice pa n cap] 28 (0, 0)) := by rw [← hW]; exact heap_alloc_new _ _
  have hs0 : W.heap.size = w.heap.size + 1 := by rw [← hW]; simp
  clear hW
  refine (HH.out W).mono ?_
  rintro _ w1 ⟨rfl, hB1⟩
  have hx1 := (hB1.block w.heap.size (by omega)).trans hx0
  have c0 : w1.cell? ⟨w.heap.size, 0, none⟩ = some (.int .i64 gen) := by rw [cell_of_row _ _ _ _ _ _ hx1]; rfl
  have c1 : w1.cell? ⟨w.heap.size, 1, none⟩ = some (.slice pa n cap) := by rw [cell_of_row _ _ _ _ _ _ hx1]; rfl
  have hB : Below w.heap.size w w1 := hB0.trans (hB1.mono (by omega))
  have hs1 : w.heap.size < w1.heap.size := by have := hB1.size; omega
  clear hB0 hB1 hx0 HH
  dsimp only
  by_cases e0 : h = 0
  · have HR := Lib.hid (HNO.out (.inl e0))
    subst e0
    go_wp2_with fail
    go_ret
    exact ⟨by rw [HR.out]; rfl, hB⟩
  have e0' : (h == 0) = false := by simpa using e0
  by_cases e1 : gen < 0
  · have HR := Lib.hid (HNO.out (.inr (.inl e1)))
    go_wp2_with fail
    go_ret
    exact ⟨by rw [HR.out]; rfl, hB⟩
  by_cases e2 : 4611686018427387904 < gen
  · have HR := Lib.hid (HNO.out (.inr (.inr (.inl e2))))
    go_wp2_with fail
    go_ret
    exact ⟨by rw [HR.out]; rfl, hB⟩
  by_cases e3 : 20 < n
  · have HR := Lib.hid (HNO.out (.inr (.inr (.inr e3))))
    have e3' : (20 : Int) < (n : Int) := by omega
    go_wp2_with fail
    go_ret
    exact ⟨by rw [HR.out]; rfl, hB⟩
  have e3' : ¬ (20 : Int) < (n : Int) := by omega
  obtain ⟨hb3, hb4⟩ := hb2.out e0
  have HEN2 := Lib.hid (HEN.out e0 (by omega) (by omega) (by omega))
  have HB4 := Lib.hid hb4
  clear hb2 HNO HEN hx1 hb4
  go_wp2_with fail
  have HI : Hid (RrI w.heap.size w h s F T 0 w1 ∧ w1.cell? ⟨w.heap.size, 1, none⟩ = some (.slice pa n cap)) := Lib.hid ⟨⟨rfl, rfl, rfl, hB, hs1⟩, c1⟩
  clear hB c0 c1 hs1
  go_loopw [6] (fun i wr => ∃ j : Nat, j ≤ n ∧ i = .int .i64 j ∧ Hid (RrI w.heap.size w h s F T j wr ∧ wr.cell? ⟨w.heap.size, 1, none⟩ = some (.slice pa n cap))) (fun i _ => n - (intOf i).toNat)
  case atStart => exact ⟨0, by omega, rfl, HI⟩
  case round =>
    obtain ⟨j, hj, rfl, hR⟩ := hrel
    clear HI
    by_cases hlt : j < n
    · obtain ⟨b, off, rfl, hbl, _, hrow⟩ := HL.out.rows.resolve_left (by omega)
      obtain ⟨⟨hps, hd1, hd2, hBr, hBs⟩, hc1⟩ := hR.out
      have dF : wr.cell? ⟨b, off + j * 2, none⟩ = some (.int .i64 (F j)) := (hBr.cell (p := ⟨b, off + j * 2, none⟩) hbl).trans (hrow j hlt 0 _ rfl)
      have dT : wr.cell? ⟨b, off + j * 2 + 1, none⟩ = some (.int .i64 (T j)) := (hBr.cell (p := ⟨b, off + j * 2 + 1, none⟩) hbl).trans (hrow j hlt 1 _ rfl)
      have hj0 : (0 : Int) ≤ (j : Int) := by omega
      have hjn : (j : Int) < (n : Int) := by omega
      have hj20 : j ≤ 1000000 := by omega
      have hPJ := Lib.hid (HPA.out j hlt)
      have hPS := Lib.hid hps
      have hD1 := Lib.hid hd1
      have hD2 := Lib.hid hd2
      have HROW := Lib.hid hrow
      clear hrow hR hps hd1 hd2
      go_wp2_with (refine wpList_store_row rfl 134 (.tmp 7) (.tmp 40) rfl wr.heap.size #[.int .i64 (F j), .int .i64 (T j)] rfl rfl 134 _ (heap_alloc_new wr _) (by kernel_rfl) rfl (pair_one _ _) ?_; rw [World.setRow_alloc_new]; simp only [Act.put])
      generalize hW2 : wr.alloc (.cells #[.int .i64 (F j), .int .i64 (T j)] 134) = W2
      have hb2w : Below wr.heap.size wr W2 := by rw [← hW2]; exact (Below.refl _ _).alloc (Nat.le_refl _) _
      have hx2 : W2.heap[wr.heap.size]? = some (.cells #[.int .i64 (F j), .int .i64 (T j)] 134 (0, 0)) := by rw [← hW2]; exact heap_alloc_new _ _
      have hz2 : W2.heap.size = wr.heap.size + 1 := by rw [← hW2]; simp
      clear hW2 dF dT
      refine (usable_any h (F j) W2 hb0 (by omega)).mono ?_
      rintro _ w3 ⟨rfl, hb3⟩
      have hb3w : Below wr.heap.size wr w3 := hb2w.trans (hb3.mono (by omega))
      have hx3 := (hb3.block wr.heap.size (by omega)).trans hx2
      have c0 : w3.cell? ⟨wr.heap.size, 0, none⟩ = some (.int .i64 (F j)) := by rw [cell_of_row _ _ _ _ _ _ hx3]; rfl
      have c1 : w3.cell? ⟨wr.heap.size, 1, none⟩ = some (.int .i64 (T j)) := by rw [cell_of_row _ _ _ _ _ _ hx3]; rfl
      have hB3 : Below w.heap.size w w3 := hBr.trans (hb3w.mono (Nat.le_of_lt hBs))
      have hz3 := hb3.size
      clear hb3 hb2w hx2
      cases hle : lentB h (F j) with
      | false =>
        have HR := Lib.hid (hPJ.out (by unfold pairB; rw [hle]; rfl))
        clear hle
        dsimp only
        go_wp2_with fail
        go_ret
        exact ⟨by rw [HR.out]; rfl, hB3⟩
      | true =>
        by_cases t1 : T j < 2 * h
        · have HR := Lib.hid (hPJ.out (by unfold pairB; rw [decide_eq_false (p := 2 * h ≤ T j) (by omega)]; simp))
          clear hle
          dsimp only
          go_wp2_with fail
          go_ret
          exact ⟨by rw [HR.out]; rfl, hB3⟩
        · by_cases t2 : 2 * h + 20 ≤ T j
          · have HR := Lib.hid (hPJ.out (by unfold pairB; rw [decide_eq_false (p := T j < s) (by have := HB4.out; omega)]; simp))
            clear hle
            dsimp only
            go_wp2_with fail
            go_ret
            exact ⟨by rw [HR.out]; rfl, hB3⟩
          · have hPN : Hid (pairsB h s F T (j + 1) = true) := Lib.hid (by simp only [pairsB, hPS.out, Bool.true_and]; unfold pairB; rw [hle, decide_eq_true (p := 2 * h ≤ T j) (by omega), decide_eq_true (p := T j < s) (by have := HB4.out; omega)]; rfl)
            clear hle hPJ hPS
            dsimp only
            go_wp2_with fail
            have hk1 : w3.cell? ⟨w.heap.size, 1, none⟩ = some (.slice (some ⟨b, off, none⟩) n cap) := (hb3w.cell (p := ⟨w.heap.size, 1, none⟩) (show w.heap.size < wr.heap.size by omega)).trans hc1
            have HIJ : Hid (RrJ w3 F T j 0 w3) := Lib.hid ⟨rfl, rfl, Below.refl _ _⟩
            have HKJ := Lib.hid hb3w
            have hbl3 : b < w3.heap.size := by have := hBr.size; omega
            have hpw : wr.heap.size < w3.heap.size := by omega
            have hmw : w.heap.size < w3.heap.size := by omega
            clear hb3w hx3
            generalize wr.heap.size = pb at *
            obtain ⟨wo, ewo⟩ : ∃ wo, wo = wr := ⟨_, rfl⟩
            subst ewo
            go_loopw [8] (fun i wr => ∃ k : Nat, k ≤ j ∧ i = .int .i64 k ∧ Hid (RrJ w3 F T j k wr)) (fun i _ => j - (intOf i).toNat)
            case atStart => exact ⟨0, by omega, rfl, HIJ⟩
            case round =>
              obtain ⟨k, hk, rfl, hJ⟩ := hrel
              clear HIJ
              obtain ⟨hj1, hj2, hj3⟩ := hJ.out
              by_cases hkj : k < j
              · have e1 := (hj3.cell (p := ⟨w.heap.size, 1, none⟩) hmw).trans hk1
                have e2 := (hj3.cell (p := ⟨pb, 0, none⟩) hpw).trans c0
                have e3 := (hj3.cell (p := ⟨pb, 1, none⟩) hpw).trans c1
                have hB4 := hB3.trans (hj3.mono (Nat.le_of_lt hmw))
                have dF : wr.cell? ⟨b, off + k * 2, none⟩ = some (.int .i64 (F k)) := (hB4.cell (p := ⟨b, off + k * 2, none⟩) hbl).trans (HROW.out k (by omega) 0 _ rfl)
                have dT : wr.cell? ⟨b, off + k * 2 + 1, none⟩ = some (.int .i64 (T k)) := (hB4.cell (p := ⟨b, off + k * 2 + 1, none⟩) hbl).trans (HROW.out k (by omega) 1 _ rfl)
                have hk0 : (0 : Int) ≤ (k : Int) := by omega
                have hkn : (k : Int) < (n : Int) := by omega
                have hkj' : (k : Int) < (j : Int) := by omega
                clear hk1 c0 c1 hJ
                by_cases q1 : F k = F j
                · have HR := Lib.hid (HLK.out j k hlt hkj (.inl q1))
                  have q1' : (F k == F j) = true := by simpa using q1
                  clear q1
                  go_wp2_with fail
                  go_quiet (fail)
                  go_wp2_with fail
                  go_ret
                  exact ⟨by rw [HR.out]; rfl, hB4.trans ⟨rfl, rfl, rfl, Nat.le_refl _, fun _ _ => rfl⟩⟩
                · have q1' : (F k == F j) = false := by simpa using q1
                  by_cases q2 : T k = T j
                  · have HR := Lib.hid (HLK.out j k hlt hkj (.inr q2))
                    have q2' : (T k == T j) = true := by simpa using q2
                    clear q1 q2
                    go_wp2_with fail
                    go_quiet (fail)
                    go_wp2_with fail
                    go_ret
                    exact ⟨by rw [HR.out]; rfl, hB4.trans ⟨rfl, rfl, rfl, Nat.le_refl _, fun _ _ => rfl⟩⟩
                  · have q2' : (T k == T j) = false := by simpa using q2
                    have HN : Hid (noneB F (F j) (k + 1) = true ∧ noneB T (T j) (k + 1) = true) := Lib.hid ⟨by simp only [noneB, hj1, Bool.true_and]; simpa using q1, by simp only [noneB, hj2, Bool.true_and]; simpa using q2⟩
                    clear q1 q2
                    go_wp2_with fail
                    go_quiet (fail)
                    go_wp2_with fail
                    go_roundw
                    case rel => exact ⟨k + 1, by omega, by go_num, Lib.hid ⟨HN.out.1, HN.out.2, hj3.trans ⟨rfl, rfl, rfl, Nat.le_refl _, fun _ _ => rfl⟩⟩⟩
                    case measure => simp [intOf]; omega
              · obtain rfl : k = j := by omega
                have HN : Hid (RrI w.heap.size w h s F T (k + 1) wr ∧ wr.cell? ⟨w.heap.size, 1, none⟩ = some (.slice (some ⟨b, off, none⟩) n cap)) := Lib.hid ⟨⟨hPN.out, by simp only [distB, hD1.out, hj1, Bool.and_self], by simp only [distB, hD2.out, hj2, Bool.and_self], hB3.trans (hj3.mono (Nat.le_of_lt hmw)), by have := hj3.size; omega⟩, (hj3.cell (p := ⟨w.heap.size, 1, none⟩) hmw).trans hk1⟩
                clear hJ hk1
                go_wp2_with fail
                go_roundw
                case rel => exact ⟨k + 1, by omega, by go_num, HN⟩
                case measure => simp [intOf]; omega
    · obtain rfl : j = n := by omega
      obtain ⟨⟨hps, hd1, hd2, hBr, hBs⟩, hc1⟩ := hR.out
      have HR := Lib.hid ((HEN2.out hps).trans (show (distB F j && distB T j) = true by rw [hd1, hd2]; rfl))
      clear hps hd1 hd2 hR
      go_wp2_with fail
      go_ret
      exact ⟨by rw [HR.out]; rfl, hBr⟩
end Rm
end Go.Proofs.YtebgaafaokiigaaGreatDoor
/- remap: the reference's Seal. -/
namespace Go.Proofs.YtebgaafaokiigaaGreatDoor
set_option maxRecDepth 20000
namespace Rm
open Go.RowKit Dk Byt

attribute [local go_sem] zv29
attribute [local go_sem] zc29
end Rm
end Go.Proofs.YtebgaafaokiigaaGreatDoor
/- remap: the reference's Put. -/
namespace Go.Proofs.YtebgaafaokiigaaGreatDoor
set_option maxRecDepth 20000
namespace Rm
open Go.RowKit Dk Byt

attribute [local go_sem] zv29
attribute [local go_sem] zc29
end Rm
end Go.Proofs.YtebgaafaokiigaaGreatDoor
