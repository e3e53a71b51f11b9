import Derived.Test.YtllejfnmbpjhaaaGreatDoorJRb
import Derived.BigQuiet
import Derived.Test.YtllejfnmbpjhaaaGreatDoorJSh
import Derived.Deep.RegionHeld3
/- remap: the reference's Right, by two loops. -/
namespace Go.Proofs.YtllejfnmbpjhaaaGreatDoor
set_option maxRecDepth 20000
namespace Rm
open Go.RowKit Dk

theorem right_like {s gen : Int} {n i k : Nat} {F T : Nat → Int} (hi : i < n) (hk : k < i) (h : F k = F i ∨ T k = T i) : rightB s gen n F T = false := by
  cases e : rightB s gen n F T with
  | false => rfl
  | true =>
    obtain ⟨_, _, _, _, _, h6, h7⟩ := right_parts e
    rcases h with h | h
    · exact absurd h (distB_iff.1 h6 k i (by omega) hi (by omega))
    · exact absurd h (distB_iff.1 h7 k i (by omega) hi (by omega))

def RrI (B : Nat) (w0 : World) (h s : Int) (F T : Nat → Int) (j : Nat) (w : World) : Prop :=
  pairsB h s F T j = true ∧ distB F j = true ∧ distB T j = true ∧ Below B w0 w ∧ B < w.heap.size
def RrJ (w0 : World) (F T : Nat → Int) (i k : Nat) (w : World) : Prop :=
  noneB F (F i) k = true ∧ noneB T (T i) k = true ∧ Below w0.heap.size w0 w

set_option maxRecDepth 100000 in
set_option maxHeartbeats 4000000 in
theorem refright_any (s gen : Int) (n : Nat) (F T : Nat → Int) (pa : Option Addr) (cap g : Nat) (w : World) (hl : Lay w w.heap.size g pa n cap 2 (prV F T)) (hn : n ≤ 140737488355328) :
    Calls Tryz.prog 47 #[.agg #[.int .i64 gen, .slice pa n cap], .int .i64 s] w fun e w' => e = .returned (.bool (rightB s gen n F T)) ∧ Below w.heap.size w w' := by
  have HL := Lib.hid hl
  have HNO := Lib.hid (@right_no s gen n F T)
  have HPA := Lib.hid (fun j hj hp => @right_pair s gen n j F T hj hp)
  have HLK := Lib.hid (fun i k hi hk hp => @right_like s gen n i k F T hi hk hp)
  have HEN := Lib.hid (@right_end s gen n F T)
  have hbd := halfN_bd s
  have HH := Lib.hid (fun W => refhalf_any s W)
  clear hl
  generalize rightB s gen n F T = R at HNO HPA HEN HLK ⊢
  generalize halfN s = h at HNO HPA HEN HH hbd ⊢
  obtain ⟨hb0, hb1, hb2'⟩ := hbd
  have hb2 := Lib.hid hb2'
  clear hb2'
  go_enter Tryz.func47, Tryz.ntmps47
  go_wp2_with fail
  generalize hW : w.alloc (.cells #[.int .i64 gen, .slice pa n cap] 28) = W
  have hB0 : Below w.heap.size w W := by rw [← hW]; exact (Below.refl _ _).alloc (Nat.le_refl _) _
  have hx0 : W.heap[w.heap.size]? = some (.cells #[.int .i64 gen, .slice pa n cap] 28 (0, 0)) := by rw [← hW]; exact heap_alloc_new _ _
  have hs0 : W.heap.size = w.heap.size + 1 := by rw [← hW]; simp
  clear hW
  refine (HH.out W).mono ?_
  rintro _ w1 ⟨rfl, hB1⟩
  have hx1 := (hB1.block w.heap.size (by omega)).trans hx0
  have c0 : w1.cell? ⟨w.heap.size, 0, none⟩ = some (.int .i64 gen) := by rw [cell_of_row _ _ _ _ _ _ hx1]; rfl
  have c1 : w1.cell? ⟨w.heap.size, 1, none⟩ = some (.slice pa n cap) := by rw [cell_of_row _ _ _ _ _ _ hx1]; rfl
  have hB : Below w.heap.size w w1 := hB0.trans (hB1.mono (by omega))
  have hs1 : w.heap.size < w1.heap.size := by have := hB1.size; omega
  clear hB0 hB1 hx0 HH
  dsimp only
  by_cases e0 : h = 0
  · have HR := Lib.hid (HNO.out (.inl e0))
    subst e0
    go_wp2_with fail
    go_ret
    exact ⟨by rw [HR.out]; rfl, hB⟩
  have e0' : (h == 0) = false := by simpa using e0
  by_cases e1 : gen < 0
  · have HR := Lib.hid (HNO.out (.inr (.inl e1)))
    go_wp2_with fail
    go_ret
    exact ⟨by rw [HR.out]; rfl, hB⟩
  by_cases e2 : 4611686018427387904 < gen
  · have HR := Lib.hid (HNO.out (.inr (.inr (.inl e2))))
    go_wp2_with fail
    go_ret
    exact ⟨by rw [HR.out]; rfl, hB⟩
  by_cases e3 : 20 < n
  · have HR := Lib.hid (HNO.out (.inr (.inr (.inr e3))))
    have e3' : (20 : Int) < (n : Int) := by omega
    go_wp2_with fail
    go_ret
    exact ⟨by rw [HR.out]; rfl, hB⟩
  have e3' : ¬ (20 : Int) < (n : Int) := by omega
  obtain ⟨hb3, hb4⟩ := hb2.out e0
  have HEN2 := Lib.hid (HEN.out e0 (by omega) (by omega) (by omega))
  have HB4 := Lib.hid hb4
  clear hb2 HNO HEN hx1 hb4
  go_wp2_with fail
  have HI : Hid (RrI w.heap.size w h s F T 0 w1 ∧ w1.cell? ⟨w.heap.size, 1, none⟩ = some (.slice pa n cap)) := Lib.hid ⟨⟨rfl, rfl, rfl, hB, hs1⟩, c1⟩
  clear hB c0 c1 hs1
  go_loopw [6] (fun i wr => ∃ j : Nat, j ≤ n ∧ i = .int .i64 j ∧ Hid (RrI w.heap.size w h s F T j wr ∧ wr.cell? ⟨w.heap.size, 1, none⟩ = some (.slice pa n cap))) (fun i _ => n - (intOf i).toNat)
  case atStart => exact ⟨0, by omega, rfl, HI⟩
  case round =>
    obtain ⟨j, hj, rfl, hR⟩ := hrel
    clear HI
    by_cases hlt : j < n
    · obtain ⟨b, off, rfl, hbl, _, hrow⟩ := HL.out.rows.resolve_left (by omega)
      obtain ⟨⟨hps, hd1, hd2, hBr, hBs⟩, hc1⟩ := hR.out
      have dF : wr.cell? ⟨b, off + j * 2, none⟩ = some (.int .i64 (F j)) := (hBr.cell (p := ⟨b, off + j * 2, none⟩) hbl).trans (hrow j hlt 0 _ rfl)
      have dT : wr.cell? ⟨b, off + j * 2 + 1, none⟩ = some (.int .i64 (T j)) := (hBr.cell (p := ⟨b, off + j * 2 + 1, none⟩) hbl).trans (hrow j hlt 1 _ rfl)
      have hj0 : (0 : Int) ≤ (j : Int) := by omega
      have hjn : (j : Int) < (n : Int) := by omega
      have hj20 : j ≤ 1000000 := by omega
      have hPJ := Lib.hid (HPA.out j hlt)
      have hPS := Lib.hid hps
      have hD1 := Lib.hid hd1
      have hD2 := Lib.hid hd2
      have HROW := Lib.hid hrow
      clear hrow hR hps hd1 hd2
      go_wp2_with (refine wpList_store_row rfl 72 (.tmp 7) (.tmp 40) rfl wr.heap.size #[.int .i64 (F j), .int .i64 (T j)] rfl rfl 72 _ (heap_alloc_new wr _) (by kernel_rfl) rfl (pair_one _ _) ?_; rw [World.setRow_alloc_new]; simp only [Act.put])
      generalize hW2 : wr.alloc (.cells #[.int .i64 (F j), .int .i64 (T j)] 72) = W2
      have hb2w : Below wr.heap.size wr W2 := by rw [← hW2]; exact (Below.refl _ _).alloc (Nat.le_refl _) _
      have hx2 : W2.heap[wr.heap.size]? = some (.cells #[.int .i64 (F j), .int .i64 (T j)] 72 (0, 0)) := by rw [← hW2]; exact heap_alloc_new _ _
      have hz2 : W2.heap.size = wr.heap.size + 1 := by rw [← hW2]; simp
      clear hW2 dF dT
      refine (usable_any h (F j) W2 hb0 (by omega)).mono ?_
      rintro _ w3 ⟨rfl, hb3⟩
      have hb3w : Below wr.heap.size wr w3 := hb2w.trans (hb3.mono (by omega))
      have hx3 := (hb3.block wr.heap.size (by omega)).trans hx2
      have c0 : w3.cell? ⟨wr.heap.size, 0, none⟩ = some (.int .i64 (F j)) := by rw [cell_of_row _ _ _ _ _ _ hx3]; rfl
      have c1 : w3.cell? ⟨wr.heap.size, 1, none⟩ = some (.int .i64 (T j)) := by rw [cell_of_row _ _ _ _ _ _ hx3]; rfl
      have hB3 : Below w.heap.size w w3 := hBr.trans (hb3w.mono (Nat.le_of_lt hBs))
      have hz3 := hb3.size
      clear hb3 hb2w hx2
      cases hle : lentB h (F j) with
      | false =>
        have HR := Lib.hid (hPJ.out (by unfold pairB; rw [hle]; rfl))
        clear hle
        dsimp only
        go_wp2_with fail
        go_ret
        exact ⟨by rw [HR.out]; rfl, hB3⟩
      | true =>
        by_cases t1 : T j < 2 * h
        · have HR := Lib.hid (hPJ.out (by unfold pairB; rw [decide_eq_false (p := 2 * h ≤ T j) (by omega)]; simp))
          clear hle
          dsimp only
          go_wp2_with fail
          go_ret
          exact ⟨by rw [HR.out]; rfl, hB3⟩
        · by_cases t2 : 2 * h + 20 ≤ T j
          · have HR := Lib.hid (hPJ.out (by unfold pairB; rw [decide_eq_false (p := T j < s) (by have := HB4.out; omega)]; simp))
            clear hle
            dsimp only
            go_wp2_with fail
            go_ret
            exact ⟨by rw [HR.out]; rfl, hB3⟩
          · have hPN : Hid (pairsB h s F T (j + 1) = true) := Lib.hid (by simp only [pairsB, hPS.out, Bool.true_and]; unfold pairB; rw [hle, decide_eq_true (p := 2 * h ≤ T j) (by omega), decide_eq_true (p := T j < s) (by have := HB4.out; omega)]; rfl)
            clear hle hPJ hPS
            dsimp only
            go_wp2_with fail
            have hk1 : w3.cell? ⟨w.heap.size, 1, none⟩ = some (.slice (some ⟨b, off, none⟩) n cap) := (hb3w.cell (p := ⟨w.heap.size, 1, none⟩) (show w.heap.size < wr.heap.size by omega)).trans hc1
            have HIJ : Hid (RrJ w3 F T j 0 w3) := Lib.hid ⟨rfl, rfl, Below.refl _ _⟩
            have HKJ := Lib.hid hb3w
            have hbl3 : b < w3.heap.size := by have := hBr.size; omega
            have hpw : wr.heap.size < w3.heap.size := by omega
            have hmw : w.heap.size < w3.heap.size := by omega
            clear hb3w hx3
            generalize wr.heap.size = pb at *
            obtain ⟨wo, ewo⟩ : ∃ wo, wo = wr := ⟨_, rfl⟩
            subst ewo
            go_loopw [8] (fun i wr => ∃ k : Nat, k ≤ j ∧ i = .int .i64 k ∧ Hid (RrJ w3 F T j k wr)) (fun i _ => j - (intOf i).toNat)
            case atStart => exact ⟨0, by omega, rfl, HIJ⟩
            case round =>
              obtain ⟨k, hk, rfl, hJ⟩ := hrel
              clear HIJ
              obtain ⟨hj1, hj2, hj3⟩ := hJ.out
              by_cases hkj : k < j
              · have e1 := (hj3.cell (p := ⟨w.heap.size, 1, none⟩) hmw).trans hk1
                have e2 := (hj3.cell (p := ⟨pb, 0, none⟩) hpw).trans c0
                have e3 := (hj3.cell (p := ⟨pb, 1, none⟩) hpw).trans c1
                have hB4 := hB3.trans (hj3.mono (Nat.le_of_lt hmw))
                have dF : wr.cell? ⟨b, off + k * 2, none⟩ = some (.int .i64 (F k)) := (hB4.cell (p := ⟨b, off + k * 2, none⟩) hbl).trans (HROW.out k (by omega) 0 _ rfl)
                have dT : wr.cell? ⟨b, off + k * 2 + 1, none⟩ = some (.int .i64 (T k)) := (hB4.cell (p := ⟨b, off + k * 2 + 1, none⟩) hbl).trans (HROW.out k (by omega) 1 _ rfl)
                have hk0 : (0 : Int) ≤ (k : Int) := by omega
                have hkn : (k : Int) < (n : Int) := by omega
                have hkj' : (k : Int) < (j : Int) := by omega
                clear hk1 c0 c1 hJ
                by_cases q1 : F k = F j
                · have HR := Lib.hid (HLK.out j k hlt hkj (.inl q1))
                  have q1' : (F k == F j) = true := by simpa using q1
                  clear q1
                  go_wp2_with fail
                  go_quiet (fail)
                  go_wp2_with fail
                  go_ret
                  exact ⟨by rw [HR.out]; rfl, hB4.trans ⟨rfl, rfl, rfl, Nat.le_refl _, fun _ _ => rfl⟩⟩
                · have q1' : (F k == F j) = false := by simpa using q1
                  by_cases q2 : T k = T j
                  · have HR := Lib.hid (HLK.out j k hlt hkj (.inr q2))
                    have q2' : (T k == T j) = true := by simpa using q2
                    clear q1 q2
                    go_wp2_with fail
                    go_quiet (fail)
                    go_wp2_with fail
                    go_ret
                    exact ⟨by rw [HR.out]; rfl, hB4.trans ⟨rfl, rfl, rfl, Nat.le_refl _, fun _ _ => rfl⟩⟩
                  · have q2' : (T k == T j) = false := by simpa using q2
                    have HN : Hid (noneB F (F j) (k + 1) = true ∧ noneB T (T j) (k + 1) = true) := Lib.hid ⟨by simp only [noneB, hj1, Bool.true_and]; simpa using q1, by simp only [noneB, hj2, Bool.true_and]; simpa using q2⟩
                    clear q1 q2
                    go_wp2_with fail
                    go_quiet (fail)
                    go_wp2_with fail
                    go_roundw
                    case rel => exact ⟨k + 1, by omega, by go_num, Lib.hid ⟨HN.out.1, HN.out.2, hj3.trans ⟨rfl, rfl, rfl, Nat.le_refl _, fun _ _ => rfl⟩⟩⟩
                    case measure => simp [intOf]; omega
              · obtain rfl : k = j := by omega
                have HN : Hid (RrI w.heap.size w h s F T (k + 1) wr ∧ wr.cell? ⟨w.heap.size, 1, none⟩ = some (.slice (some ⟨b, off, none⟩) n cap)) := Lib.hid ⟨⟨hPN.out, by simp only [distB, hD1.out, hj1, Bool.and_self], by simp only [distB, hD2.out, hj2, Bool.and_self], hB3.trans (hj3.mono (Nat.le_of_lt hmw)), by have := hj3.size; omega⟩, (hj3.cell (p := ⟨w.heap.size, 1, none⟩) hmw).trans hk1⟩
                clear hJ hk1
                go_wp2_with fail
                go_roundw
                case rel => exact ⟨k + 1, by omega, by go_num, HN⟩
                case measure => simp [intOf]; omega
    · obtain rfl : j = n := by omega
      obtain ⟨⟨hps, hd1, hd2, hBr, hBs⟩, hc1⟩ := hR.out
      have HR := Lib.hid ((HEN2.out hps).trans (show (distB F j && distB T j) = true by rw [hd1, hd2]; rfl))
      clear hps hd1 hd2 hR
      go_wp2_with fail
      go_ret
      exact ⟨by rw [HR.out]; rfl, hBr⟩
end Rm
end Go.Proofs.YtllejfnmbpjhaaaGreatDoor
/- remap: the reference's Seal. -/
namespace Go.Proofs.YtllejfnmbpjhaaaGreatDoor
set_option maxRecDepth 20000
namespace Rm
open Go.RowKit Dk Byt

attribute [local go_sem] zv29
attribute [local go_sem] zc29
theorem results_sl {tmps : Array Value} {w : World} {B : Nat} {D : Nat → Int} {fn : Func} (hf : fn.results = #[.cell 2 36]) (h4 : tmps.getD 2 undef = .pointer (some ⟨B, 0, none⟩))
    (kV : w.heap[B]? = some (.cells (bl D).toArray 36 (0, 0))) : (results fn tmps).run Tryz.prog w = .ok (.agg (bl D).toArray) w := by
  have h4' : tmps[2]?.getD undef = .pointer (some ⟨B, 0, none⟩) := by simpa using h4
  have hv := run_loadVar_row (P := Tryz.prog) w B 36 36 (bl D).toArray (0, 0) _ kV und29 rfl (size_bl' D)
  simp [results, hf, h4', asAddr, hv]

/-- behind j bytes of the sum -/
def SlI (D q : Nat → Int) (B p : Nat) (w : World) (j : Nat) (wr : World) : Prop :=
  Row wr B 0 128 (mix D 96 j q) ∧ wr.heap[p]? = some (.cells (Sha.arr 32 (Sha.vu8 q)) 29 (0, 0)) ∧ wr.heap[B + 1]? = some (.cells (bl fun _ => 0).toArray 36 (0, 0)) ∧ Below B w wr

set_option maxRecDepth 100000 in
set_option maxHeartbeats 4000000 in
theorem seal_any (D : Nat → Int) (w : World) (hby : ∀ i, i < 96 → 0 ≤ D i ∧ D i < 256) (_h0 : 0 < w.heap.size) :
    Calls Tryz.prog 98 #[.agg (bl D).toArray] w fun e w' => e = .returned (.agg (bl (sealD D)).toArray) ∧ Below w.heap.size w w' := by
  have HS : Hid (sealD D = mix D 96 32 (Sha.sumB (Sha.sumS (tab 96 D)))) := Lib.hid rfl
  generalize sealD D = V at HS ⊢
  have HSUM := Lib.hid (fun (W : World) (B : Nat) (hr : Row W B 0 128 D) (hB : B < W.heap.size) => Sha.refsum_any 96 (some ⟨B, 0, none⟩) 128 (tab 96 D) W (by simp) (sha_lies hr hB) (byte_tab fun i hi => hby i (by omega)) (by omega) (by omega))
  generalize Sha.sumB (Sha.sumS (tab 96 D)) = q at HS HSUM
  go_enter Tryz.func98, Tryz.ntmps98
  go_wp2_with fail
  generalize hW : (w.alloc (.cells (bl D).toArray 36)).alloc (.cells (bl fun _ => 0).toArray 36) = W
  have hB0 : Below w.heap.size w W := by rw [← hW]; exact ((Below.refl _ _).alloc (Nat.le_refl _) _).alloc (by simp) _
  have hR0 : Row W w.heap.size 0 128 D := by rw [← hW]; exact row_new.block (Below.heap_alloc _ _ _ (by simp))
  have hr0 : W.heap[w.heap.size + 1]? = some (.cells (bl fun _ => 0).toArray 36 (0, 0)) := by
    rw [← hW]
    have := heap_alloc_new (w.alloc (.cells (bl D).toArray 36)) (.cells (bl fun _ => 0).toArray 36)
    rwa [World.size_alloc] at this
  have hs0 : W.heap.size = w.heap.size + 2 := by rw [← hW]; simp
  clear hW
  refine (HSUM.out W w.heap.size hR0 (by omega)).mono ?_
  rintro _ w1 ⟨rfl, hB1⟩
  have hR1 := hR0.block (hB1.block w.heap.size (by omega))
  have hr1 := (hB1.block (w.heap.size + 1) (by omega)).trans hr0
  have hs1 := hB1.size
  have hB : Below w.heap.size w w1 := hB0.trans (hB1.mono (by omega))
  clear hB0 hB1 hR0 hr0 HSUM
  dsimp only
  go_wp2_with (refine wpList_store_row rfl 29 (.tmp 3) (.tmp 6) rfl w1.heap.size (Sha.arr 32 (Sha.vu8 q)) rfl rfl 29 _ (heap_alloc_new _ _) Sha.info32 (by rw [Sha.arr_size]; rfl) (Sha.arr_one8 _ _) ?_; rw [World.setRow_alloc_new]; simp only [Act.put])
  generalize hW9 : w1.alloc (.cells (Sha.arr 32 (Sha.vu8 q)) 29) = W9
  have hx9 : W9.heap[w1.heap.size]? = some (.cells (Sha.arr 32 (Sha.vu8 q)) 29 (0, 0)) := by rw [← hW9]; exact heap_alloc_new _ _
  have hb9 : Below w1.heap.size w1 W9 := by rw [← hW9]; exact (Below.refl _ _).alloc (Nat.le_refl _) _
  clear hW9
  have HI : Hid (SlI D q w.heap.size w1.heap.size w 0 W9) := Lib.hid ⟨by rw [mix_zero]; exact hR1.block (hb9.block _ (by omega)), hx9, (hb9.block (w.heap.size + 1) (by omega)).trans hr1, hB.trans (hb9.mono (by omega))⟩
  have hp : w.heap.size + 1 < w1.heap.size := by omega
  clear hx9 hb9 hR1 hr1 hB hs0 hs1
  generalize w1.heap.size = p at *
  go_loopw [4] (fun i wr => ∃ j : Nat, j ≤ 32 ∧ i = .int .i64 j ∧ Hid (SlI D q w.heap.size p w j wr)) (fun i _ => 32 - (intOf i).toNat)
  case atStart => exact ⟨0, by omega, rfl, HI⟩
  case round =>
    clear HI
    obtain ⟨j, hj, rfl, hR⟩ := hrel
    obtain ⟨i1, i2, i3, i4⟩ := hR.out
    by_cases hlt : j < 32
    · have hj0 : (0 : Int) ≤ (j : Int) := by omega
      have hjn : (j : Int) < 32 := by omega
      have cq : wr.cell? ⟨p, j, none⟩ = some (.int .u8 (q j)) := by rw [cell_of_row _ _ _ _ _ _ i2, Sha.arr_get _ hlt]; rfl
      have cD := i1.cell (j := 96 + j) (by omega)
      rw [Nat.zero_add] at cD
      have fD := i1.free (96 + j)
      have HN : Hid (SlI D q w.heap.size p w (j + 1) (wr.setCell ⟨w.heap.size, 96 + j, none⟩ (.int .u8 (q j)))) := Lib.hid ⟨by
          have h := i1.store (96 + j) (q j)
          rw [put_mix, Nat.zero_add] at h
          exact h, (Below.heap_setCell _ _ _ p (by show p ≠ w.heap.size; omega)).trans i2, (Below.heap_setCell _ _ _ (w.heap.size + 1) (by show w.heap.size + 1 ≠ w.heap.size; omega)).trans i3, i4.setCell (Nat.le_refl _) _⟩
      clear i1 i2 i3 i4 hR
      go_wp2_with fail
      go_roundw
      case rel => exact ⟨j + 1, by omega, by go_num, HN⟩
      case measure => simp [intOf]; omega
    · obtain rfl : j = 32 := by omega
      have hrg := row_range i1
      rw [← HS.out] at hrg
      clear i1 i2 hR
      go_wp2_with (first
        | (refine wpList_load_mid rfl 36 (.tmp 1) rfl w.heap.size 0 rfl (bl V) _ (by exact hrg) und29 rfl (size_bl _) ?_; simp only [Act.put, List.setIfInBounds_toArray, List.set_cons_succ, List.set_cons_zero])
        | (refine wpList_store_row rfl 36 (.tmp 2) (.tmp 17) rfl (w.heap.size + 1) (bl V).toArray rfl rfl 36 _ i3 (size_bl' _) rfl (bl_all _) ?_; simp only [Act.put]))
      have hr10 := setRow_heap wr (w.heap.size + 1) _ (bl V).toArray 36 (0, 0) i3
      refine bodyPost_ret (results_sl rfl rfl hr10) rfl ?_
      exact ⟨rfl, i4.trans ⟨rfl, rfl, rfl, by simp, fun k hk => setRow_other wr _ k _ (by omega)⟩⟩
end Rm
end Go.Proofs.YtllejfnmbpjhaaaGreatDoor
/- remap: the reference's Put. -/
namespace Go.Proofs.YtllejfnmbpjhaaaGreatDoor
set_option maxRecDepth 20000
namespace Rm
open Go.RowKit Dk Byt

attribute [local go_sem] zv29
attribute [local go_sem] zc29
set_option maxRecDepth 100000 in
set_option maxHeartbeats 4000000 in
theorem refput_any (s gen : Int) (n : Nat) (F T : Nat → Int) (pa : Option Addr) (cap g : Nat) (w : World) (hl : Lay w w.heap.size g pa n cap 2 (prV F T)) (hn : n ≤ 140737488355328) (hF : ∀ i, i < n → i64 (F i) ∧ i64 (T i)) (h0 : 0 < w.heap.size) :
    Calls Tryz.prog 82 #[.agg #[.int .i64 gen, .slice pa n cap], .int .i64 s] w fun e w' => e = .returned (.tuple #[.agg (bl (putV s gen n F T)).toArray, .int .i64 (putEr s gen n F T)]) ∧ Below w.heap.size w w' := by
  have HL := Lib.hid hl
  have HF := Lib.hid hF
  have HRI := Lib.hid (fun W hl => refright_any s gen n F T pa cap g W hl hn)
  have HPR := Lib.hid (@right_parts s gen n F T)
  have HV : Hid (putV s gen n F T = if rightB s gen n F T then sealD (tabD gen n F T) else fun _ => 0) := Lib.hid rfl
  have HE : Hid (putEr s gen n F T = if rightB s gen n F T then 0 else 1) := Lib.hid rfl
  clear hl hF
  generalize putV s gen n F T = V at HV ⊢
  generalize putEr s gen n F T = E at HE ⊢
  generalize rightB s gen n F T = R at HRI HPR HV HE
  go_enter Tryz.func82, Tryz.ntmps82
  go_wp2_with fail
  generalize hW : ((w.alloc (.cells #[.int .i64 gen, .slice pa n cap] 28)).alloc (.cells (bl fun _ => 0).toArray 36)).alloc (.cells (bl fun _ => 0).toArray 36) = W
  have hB0 : Below w.heap.size w W := by rw [← hW]; exact (((Below.refl _ _).alloc (Nat.le_refl _) _).alloc (by simp) _).alloc (by simp; omega) _
  have hx0 : W.heap[w.heap.size]? = some (.cells #[.int .i64 gen, .slice pa n cap] 28 (0, 0)) := by rw [← hW]; exact (Below.heap_alloc _ _ _ (by simp; omega)).trans ((Below.heap_alloc _ _ _ (by simp)).trans (heap_alloc_new w _))
  have hr0 : W.heap[w.heap.size + 1]? = some (.cells (bl fun _ => 0).toArray 36 (0, 0)) := by
    rw [← hW]
    have := heap_alloc_new (w.alloc (.cells #[.int .i64 gen, .slice pa n cap] 28)) (.cells (bl fun _ => 0).toArray 36)
    rw [World.size_alloc] at this
    exact (Below.heap_alloc _ _ _ (by simp)).trans this
  have hR0 : Row W (w.heap.size + 1 + 1) 0 128 (fun _ => 0) := by
    rw [← hW]
    have := row_new (w := (w.alloc (.cells #[.int .i64 gen, .slice pa n cap] 28)).alloc (.cells (bl fun _ => 0).toArray 36)) (f := fun _ => 0) (t := 36)
    rw [World.size_alloc, World.size_alloc] at this
    exact this
  have hs0 : W.heap.size = w.heap.size + 3 := by rw [← hW]; simp
  clear hW
  refine (HRI.out W ((HL.out.below hB0).more (by omega))).mono ?_
  rintro _ w1 ⟨rfl, hB1⟩
  have hx1 := (hB1.block w.heap.size (by omega)).trans hx0
  have hr1 := (hB1.block (w.heap.size + 1) (by omega)).trans hr0
  have hR1 := hR0.block (hB1.block (w.heap.size + 1 + 1) (by omega))
  have hs1 := hB1.size
  have hB : Below w.heap.size w w1 := hB0.trans (hB1.mono (by omega))
  clear hB0 hB1 hx0 hr0 hR0
  dsimp only
  cases R with
  | false =>
    have HV2 : Hid (V = fun _ => 0) := Lib.hid HV.out
    have HE2 : Hid (E = 1) := Lib.hid HE.out
    have hrg := row_range hR1
    clear HV HE HPR HRI hR1
    go_wp2_with (first
      | (refine wpList_load_mid rfl 36 (.tmp 6) rfl (w.heap.size + 1 + 1) 0 rfl (bl fun _ => 0) _ (by exact hrg) und29 rfl (size_bl _) ?_; simp only [Act.put, List.setIfInBounds_toArray, List.set_cons_succ, List.set_cons_zero])
      | (refine wpList_store_row rfl 36 (.tmp 4) (.tmp 12) rfl (w.heap.size + 1) (bl fun _ => 0).toArray rfl rfl 36 _ hr1 (size_bl' _) rfl (bl_all _) ?_; simp only [Act.put]))
    have hr2 := setRow_heap w1 (w.heap.size + 1) _ (bl fun _ => 0).toArray 36 (0, 0) hr1
    refine bodyPost_ret (results_pt rfl rfl rfl hr2) rfl ?_
    exact ⟨by rw [HV2.out, HE2.out], hB.trans ⟨rfl, rfl, rfl, by simp, fun k hk => setRow_other w1 _ k _ (by omega)⟩⟩
  | true =>
    obtain ⟨_, hg0, hg1, hn20, _⟩ := HPR.out rfl
    have HV2 : Hid (V = sealD (tabD gen n F T)) := Lib.hid HV.out
    have HE2 : Hid (E = 0) := Lib.hid HE.out
    clear HV HE HPR HRI
    have c0 : w1.cell? ⟨w.heap.size, 0, none⟩ = some (.int .i64 gen) := by rw [cell_of_row _ _ _ _ _ _ hx1]; rfl
    have c1 : w1.cell? ⟨w.heap.size, 1, none⟩ = some (.slice pa n cap) := by rw [cell_of_row _ _ _ _ _ _ hx1]; rfl
    have cD := hR1.cell (j := 0) (by omega)
    rw [Nat.zero_add] at cD
    have fD := hR1.free 0
    have hbb1 : w.heap.size + 1 < w.heap.size + 1 + 1 := by omega
    have hbb2 : w.heap.size + 1 + 1 < w1.heap.size := by omega
    generalize w.heap.size + 1 + 1 = bb at hR1 cD fD hbb1 hbb2 ⊢
    go_wp2_with fail
    generalize hW2 : w1.setCell ⟨bb, 0, none⟩ (.int .u8 109) = W2
    have hR2 : Row W2 bb 0 128 (put (fun _ => 0) 0 109) := by rw [← hW2]; exact hR1.store 0 109
    have hb2 : Below bb w1 W2 := by rw [← hW2]; exact (Below.refl bb w1).setCell (Nat.le_refl _) _
    have hs2 : W2.heap.size = w1.heap.size := by rw [← hW2]; simp
    clear hW2 cD fD hR1
    have hd2 : Below bb w1 W2.drew := hb2.trans ⟨rfl, rfl, rfl, Nat.le_refl _, fun _ _ => rfl⟩
    have HO2 : Hid (Wd.Own W2.drew bb (some ⟨bb, 0, none⟩) 128 128 (put (fun _ => 0) 0 109)) := Lib.hid ((own_block hR2 (Nat.le_refl _)).same rfl)
    have d0 : W2.cell? ⟨w.heap.size, 0, none⟩ = some (.int .i64 gen) := (hb2.cell (p := ⟨w.heap.size, 0, none⟩) (show w.heap.size < bb by omega)).trans c0
    have e0 : W2.cell? ⟨w.heap.size, 1, none⟩ = some (.slice pa n cap) := (hb2.cell (p := ⟨w.heap.size, 1, none⟩) (show w.heap.size < bb by omega)).trans c1
    have HKE := Lib.hid (fun (w3 : World) (hG : Wd.Only W2.drew w3 (some ⟨bb, 0, none⟩)) => show w3.cell? ⟨w.heap.size, 0, none⟩ = some (.int .i64 gen) from (World.cell?_of_block (a := ⟨w.heap.size, 0, none⟩) (hG.block w.heap.size (by show w.heap.size < W2.heap.size; omega) (by simp; omega))).trans d0)
    have HKE1 := Lib.hid (fun (w3 : World) (hG : Wd.Only W2.drew w3 (some ⟨bb, 0, none⟩)) => show w3.cell? ⟨w.heap.size, 1, none⟩ = some (.slice pa n cap) from (World.cell?_of_block (a := ⟨w.heap.size, 1, none⟩) (hG.block w.heap.size (by show w.heap.size < W2.heap.size; omega) (by simp; omega))).trans e0)
    clear c0 c1 hb2 e0
    go_region_held3 (fun w' => w'.cell? ⟨w.heap.size, 0, none⟩ = some (.int .i64 gen))
      (first
        | exact d0
        | exact HKE.out w3 hG3)
      (first
        | ((go_at_call 97; refine (Wd.refput_any _ bb (some ⟨bb, 0, none⟩) 128 128 (put (fun _ => 0) 0 109) _ _ _ (by exact HO2.out) (by omega) (by omega)).mono ?_; rintro _ w3 ⟨rfl, hG3, hO3⟩)))
    have e1 := HKE1.out w3 hG3
    have hR3 := own_row hO3
    have hd3 : Below bb w1 w3 := HO2.out.under hd2 hG3 (by show bb ≤ W2.heap.size; omega)
    have c9 : w3.cell? ⟨bb, 9, none⟩ = some (.int .u8 (Wd.putF 128 1 8 gen (put (fun _ => 0) 0 109) 9)) := by
      have := hR3.cell (j := 9) (by omega)
      rwa [Nat.zero_add] at this
    have f9 := hR3.free 9
    have hwr : IntKind.u8.wrap (n : Int) = n := by rw [IntKind.wrap_u8]; omega
    clear HKE HKE1 HO2 hG3 d0 hO3 hR2
    go_wp2_with fail
    generalize hW4 : w3.setCell ⟨bb, 9, none⟩ (.int .u8 n) = W4
    have hR4 : Row W4 bb 0 128 (head gen n) := by rw [← hW4]; exact hR3.store 9 n
    have hd4 : Below bb w1 W4 := by rw [← hW4]; exact hd3.setCell (Nat.le_refl _) _
    have k4 : W4.cell? ⟨w.heap.size, 1, none⟩ = some (.slice pa n cap) := by rw [← hW4]; exact (World.cell?_of_block (a := ⟨w.heap.size, 1, none⟩) (Below.heap_setCell _ _ _ w.heap.size (by show w.heap.size ≠ bb; omega))).trans e1
    clear hW4 hR3 hd3 c9 f9 hwr e1
    have HI : Hid (Row W4 bb 0 128 (pairsD F T (head gen n) 0) ∧ Below bb w1 W4 ∧ W4.cell? ⟨w.heap.size, 1, none⟩ = some (.slice pa n cap)) := Lib.hid ⟨hR4, hd4, k4⟩
    clear hR4 hd4 hd2 k4
    go_loopw [7] (fun i wr => ∃ j : Nat, j ≤ n ∧ i = .int .i64 j ∧ Hid (Row wr bb 0 128 (pairsD F T (head gen n) j) ∧ Below bb w1 wr ∧ wr.cell? ⟨w.heap.size, 1, none⟩ = some (.slice pa n cap))) (fun i _ => n - (intOf i).toNat)
    case atStart => exact ⟨0, by omega, rfl, HI⟩
    case round =>
      clear HI
      obtain ⟨j, hj, rfl, hR⟩ := hrel
      have hBw : Below w.heap.size w wr := hB.trans (hR.out.2.1.mono (by omega))
      have hrl := hR.out.1.lt
      have k1 := hR.out.2.2
      by_cases hlt : j < n
      · obtain ⟨b, off, rfl, hbl, _, hrow⟩ := (HL.out.below hBw).rows.resolve_left (by omega)
        obtain ⟨dF, dT⟩ := pr_cells hrow hlt
        have hj0 : (0 : Int) ≤ (j : Int) := by omega
        have hjn : (j : Int) < (n : Int) := by omega
        have hj20 : (j : Int) ≤ 20 := by omega
        obtain ⟨⟨_, hzF⟩, ⟨_, hzT⟩⟩ := HF.out j hlt
        have HO5 : Hid (Wd.Own wr.drew bb (some ⟨bb, 0, none⟩) 128 128 (pairsD F T (head gen n) j)) := Lib.hid ((own_block hR.out.1 (Nat.le_refl _)).same rfl)
        have hd5 : Below bb w1 wr.drew := hR.out.2.1.trans ⟨rfl, rfl, rfl, Nat.le_refl _, fun _ _ => rfl⟩
        have HKE := Lib.hid (fun (u v : World) (hu : b < u.heap.size) (hG : Wd.Only u v (some ⟨bb, 0, none⟩)) (k : Nat) => World.cell?_of_block (a := ⟨b, k, none⟩) (hG.block b hu (by simp; omega)))
        have HKM := Lib.hid (fun (u v : World) (hu : w.heap.size < u.heap.size) (hG : Wd.Only u v (some ⟨bb, 0, none⟩)) (k : Nat) => World.cell?_of_block (a := ⟨w.heap.size, k, none⟩) (hG.block w.heap.size hu (by simp; omega)))
        have hu5 : b < wr.drew.heap.size := by show b < wr.heap.size; omega
        have hv5 : w.heap.size < wr.drew.heap.size := by show w.heap.size < wr.heap.size; omega
        clear hR hrow
        go_wp2_with fail
        go_region_held3 (fun w' => w'.cell? ⟨w.heap.size, 1, none⟩ = some (.slice (some ⟨b, off, none⟩) n cap) ∧ w'.cell? ⟨b, off + j * 2, none⟩ = some (.int .i64 (F j)))
          (first
            | exact ⟨k1, dF⟩
            | exact ⟨(HKM.out _ w6 hv5 hG6 1).trans k1, (HKE.out _ w6 hu5 hG6 (off + j * 2)).trans dF⟩)
          (first
            | ((go_at_call 97; refine (Wd.refput_any _ bb (some ⟨bb, 0, none⟩) 128 128 (pairsD F T (head gen n) j) _ _ _ (by exact HO5.out) (by omega) (by omega)).mono ?_; rintro _ w6 ⟨rfl, hG6, hO6⟩)))
        have hm1 : IntKind.i64.wrap (10 + IntKind.i64.wrap (4 * (j : Int))) = 10 + 4 * j := by rw [IntWalk.i64_in (4 * (j : Int)) (by omega), IntWalk.i64_in (10 + 4 * (j : Int)) (by omega)]
        have hm2 : IntKind.i64.wrap (12 + IntKind.i64.wrap (4 * (j : Int))) = 12 + 4 * j := by rw [IntWalk.i64_in (4 * (j : Int)) (by omega), IntWalk.i64_in (12 + 4 * (j : Int)) (by omega)]
        rw [hm1] at hO6
        have HM2 := Lib.hid hm2
        clear hm1 hm2
        have k1' : w6.cell? ⟨w.heap.size, 1, none⟩ = some (.slice (some ⟨b, off, none⟩) n cap) := (HKM.out _ w6 hv5 hG6 1).trans k1
        have dT' : w6.cell? ⟨b, off + j * 2 + 1, none⟩ = some (.int .i64 (T j)) := (HKE.out _ w6 hu5 hG6 (off + j * 2 + 1)).trans dT
        have hd6 : Below bb w1 w6 := HO5.out.under hd5 hG6 (by show bb ≤ wr.heap.size; omega)
        have hu6 : b < w6.drew.heap.size := Nat.lt_of_lt_of_le hu5 hG6.size
        have hv6 : w.heap.size < w6.drew.heap.size := Nat.lt_of_lt_of_le hv5 hG6.size
        have hd6' : Below bb w1 w6.drew := hd6.trans ⟨rfl, rfl, rfl, Nat.le_refl _, fun _ _ => rfl⟩
        have HO6 := Lib.hid (hO6.same (w' := w6.drew) rfl)
        clear k1 dF dT HO5 hG6 hd5 hO6
        go_wp2_with fail
        go_region_held3 (fun w' => w'.cell? ⟨w.heap.size, 1, none⟩ = some (.slice (some ⟨b, off, none⟩) n cap) ∧ w'.cell? ⟨b, off + j * 2 + 1, none⟩ = some (.int .i64 (T j)))
          (first
            | exact ⟨k1', dT'⟩
            | exact ⟨(HKM.out _ w7 hv6 hG7 1).trans k1', (HKE.out _ w7 hu6 hG7 (off + j * 2 + 1)).trans dT'⟩)
          (first
            | ((go_at_call 97; refine (Wd.refput_any _ bb (some ⟨bb, 0, none⟩) 128 128 (Wd.putF 128 (10 + 4 * (j : Int)) 2 (F j) (pairsD F T (head gen n) j)) _ _ _ (by exact HO6.out) (by omega) (by omega)).mono ?_; rintro _ w7 ⟨rfl, hG7, hO7⟩)))
        rw [HM2.out] at hO7
        have hd7 : Below bb w1 w7 := HO6.out.under hd6' hG7 (by have := hd6'.size; omega)
        have HN : Hid (Row w7 bb 0 128 (pairsD F T (head gen n) (j + 1)) ∧ Below bb w1 w7 ∧ w7.cell? ⟨w.heap.size, 1, none⟩ = some (.slice (some ⟨b, off, none⟩) n cap)) := Lib.hid ⟨own_row hO7, hd7, (HKM.out _ w7 hv6 hG7 1).trans k1'⟩
        clear hd7 hO7 hG7 HO6 k1' dT' hd6 hd6'
        go_wp2_with fail
        go_roundw
        case rel => exact ⟨j + 1, by omega, by go_num, HN⟩
        case measure => simp [intOf]; omega
      · obtain rfl : j = n := by omega
        have hD : tabD gen j F T = pairsD F T (head gen j) j := rfl
        have hby := tab_bytes gen F T hn20
        obtain ⟨hR5, hd5, _⟩ := hR.out
        rw [← hD] at hR5
        have HSL := Lib.hid (seal_any (tabD gen j F T) wr (fun i hi => hby i (by omega)) (by omega))
        generalize tabD gen j F T = D at hR5 hby HSL HV2
        rw [← HV2.out] at HSL
        have hrg := row_range hR5
        clear hD hby hR
        go_wp2_with (first
          | (refine wpList_load_mid rfl 36 (.tmp 6) rfl bb 0 rfl (bl D) _ (by exact hrg) und29 rfl (size_bl _) ?_; simp only [Act.put, List.setIfInBounds_toArray, List.set_cons_succ, List.set_cons_zero]))
        refine HSL.out.mono ?_
        rintro _ w8 ⟨rfl, hb8⟩
        have hd8 : Below bb w1 w8 := hd5.trans (hb8.mono (Nat.le_of_lt hrl))
        have hr8 := (hd8.block (w.heap.size + 1) (by omega)).trans hr1
        have hBn : Below w.heap.size w w8 := hB.trans (hd8.mono (by omega))
        clear HSL hrg hR5 hd5 hb8
        dsimp only
        go_wp2_with (refine wpList_store_row rfl 36 (.tmp 4) (.tmp 53) rfl (w.heap.size + 1) (bl V).toArray rfl rfl 36 _ hr8 (size_bl' _) rfl (bl_all _) ?_; simp only [Act.put])
        have hr10 := setRow_heap w8 (w.heap.size + 1) _ (bl V).toArray 36 (0, 0) hr8
        refine bodyPost_ret (results_pt rfl rfl rfl hr10) rfl ?_
        exact ⟨by rw [HE2.out], hBn.trans ⟨rfl, rfl, rfl, by simp, fun k hk => setRow_other w8 _ k _ (by omega)⟩⟩
end Rm
end Go.Proofs.YtllejfnmbpjhaaaGreatDoor
