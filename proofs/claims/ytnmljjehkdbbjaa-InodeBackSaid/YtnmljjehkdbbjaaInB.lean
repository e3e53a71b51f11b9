/- inode: which nodes, stems, numbers and kinds are right. -/
import Derived.Test.YtnmljjehkdbbjaaInA
namespace Go.Proofs.Ytnmljjehkdbbjaa
set_option maxRecDepth 20000
namespace In
open Go.RowKit Dk Eqb Byt Pt

def nbB (N : Int) : Bool := decide (1 ≤ N) && decide (N ≤ 64)
def knB (K : Int) : Bool := decide (K = 1) || (decide (K = 2) || decide (K = 3))
def rsB (p : Pn) (z c : Int) : Bool := rightB p && (decide (0 ≤ z) && (decide (z ≤ 8192) && (decide (1 ≤ c) && decide (c ≤ 2))))
def rtB (n : Nd) : Bool := nbB n.N && (knB n.K && (decide (0 ≤ n.L) && (decide (n.L ≤ 99) && (rsB n.p n.z n.c && (decide (n.K = 1) || decide (n.c = 2))))))
theorem nbB_iff {N : Int} : nbB N = true ↔ 1 ≤ N ∧ N ≤ 64 := by simp [nbB]
theorem knB_iff {K : Int} : knB K = true ↔ K = 1 ∨ K = 2 ∨ K = 3 := by simp [knB]
theorem rsB_iff {p : Pn} {z c : Int} : rsB p z c = true ↔ rightB p = true ∧ 0 ≤ z ∧ z ≤ 8192 ∧ 1 ≤ c ∧ c ≤ 2 := by simp [rsB]
theorem rtB_iff {n : Nd} : rtB n = true ↔ (1 ≤ n.N ∧ n.N ≤ 64) ∧ (n.K = 1 ∨ n.K = 2 ∨ n.K = 3) ∧ 0 ≤ n.L ∧ n.L ≤ 99 ∧ (rightB n.p = true ∧ 0 ≤ n.z ∧ n.z ≤ 8192 ∧ 1 ≤ n.c ∧ n.c ≤ 2) ∧ (n.K = 1 ∨ n.c = 2) := by
  simp only [rtB, Bool.and_eq_true, nbB_iff, knB_iff, rsB_iff, decide_eq_true_eq, Bool.or_eq_true]

theorem numbered_any (N : Int) (w : World) : Calls Try.prog 21 #[.int .i64 N] w fun e w' => e = .returned (.bool (nbB N)) ∧ w = w' := by
  unfold nbB
  by_cases h1 : 1 ≤ N
  · rw [decide_eq_true h1]
    go_enter Try.func21, Try.ntmps21
    go_wp2_with fail
    go_ret
    exact ⟨rfl, rfl⟩
  · rw [decide_eq_false h1]
    go_enter Try.func21, Try.ntmps21
    go_wp2_with fail
    go_ret
    exact ⟨rfl, rfl⟩
theorem known_any (K : Int) (w : World) : Calls Try.prog 22 #[.int .i64 K] w fun e w' => e = .returned (.bool (knB K)) ∧ w = w' := by
  by_cases h1 : K = 1
  · subst h1
    go_enter Try.func22, Try.ntmps22
    go_wp2_with fail
    go_ret
    exact ⟨rfl, rfl⟩
  · by_cases h2 : K = 2
    · subst h2
      go_enter Try.func22, Try.ntmps22
      go_wp2_with fail
      go_ret
      exact ⟨rfl, rfl⟩
    · by_cases h3 : K = 3
      · subst h3
        go_enter Try.func22, Try.ntmps22
        go_wp2_with fail
        go_ret
        exact ⟨rfl, rfl⟩
      · have hv : Hid (knB K = false) := Lib.hid (by simp [knB, h1, h2, h3])
        have e1 : (K == 1) = false := beq_eq_false_iff_ne.2 h1
        have e2 : (K == 2) = false := beq_eq_false_iff_ne.2 h2
        have e3 : (K == 3) = false := beq_eq_false_iff_ne.2 h3
        clear h1 h2 h3
        go_enter Try.func22, Try.ntmps22
        go_wp2_with fail
        go_ret
        exact ⟨by rw [hv.out]; rfl, rfl⟩

set_option maxHeartbeats 2000000 in
theorem rstem_any (p : Pn) (z c : Int) (w : World) : Calls Try.prog 23 #[.agg (sV p z c).toArray] w fun e w' => e = .returned (.bool (rsB p z c)) ∧ Below w.heap.size w w' := by
  obtain ⟨W, hW, hb0, hx0, hs0⟩ : ∃ W, W = w.alloc (.cells (sV p z c).toArray 26) ∧ Below w.heap.size w W ∧ Bs W w.heap.size p z c ∧ W.heap.size = w.heap.size + 1 := ⟨_, rfl, bs_new w p z c⟩
  have hr0 := hx0.pt
  have HI := Lib.hid (fun W => right_any p W)
  obtain ⟨r1, hr1⟩ : ∃ r1, rightB p = r1 := ⟨_, rfl⟩
  rw [hr1] at HI
  have HR := Lib.hid hr1
  clear hr1
  go_enter Try.func23, Try.ntmps23
  go_wp2_with (first | (rw [← hW]) | (refine wpList_load_mid rfl 24 (.tmp 3) rfl w.heap.size 0 rfl (pV p) _ (by exact hr0) undP rfl (sizeP p) ?_; simp only [Act.put, List.setIfInBounds_toArray, List.set_cons_succ, List.set_cons_zero]))
  refine (HI.out W).mono ?_
  rintro _ w1 ⟨rfl, hb1⟩
  have hB := hb0.trans (hb1.mono hb0.size)
  have hx1 := hx0.keep (hb1.block w.heap.size (by omega))
  have c1 := hx1.sz
  have c2 := hx1.cp
  clear hx0 hb1 hb0 hr0 hW HI hx1
  dsimp only
  cases r1 with
  | false =>
    have hv : Hid (rsB p z c = false) := Lib.hid (by simp [rsB, HR.out])
    go_wp2_with fail
    go_ret
    exact ⟨by rw [hv.out]; rfl, hB⟩
  | true =>
    by_cases h1 : 0 ≤ z
    · by_cases h2 : z ≤ 8192
      · by_cases h3 : 1 ≤ c
        · by_cases h4 : c ≤ 2
          · have hv : Hid (rsB p z c = true) := Lib.hid (by simp [rsB, HR.out, h1, h2, h3, h4])
            go_wp2_with fail
            go_ret
            exact ⟨by rw [hv.out]; rfl, hB⟩
          · have hv : Hid (rsB p z c = false) := Lib.hid (by simp [rsB, HR.out, h1, h2, h3, h4])
            go_wp2_with fail
            go_ret
            exact ⟨by rw [hv.out]; rfl, hB⟩
        · have hv : Hid (rsB p z c = false) := Lib.hid (by simp [rsB, HR.out, h1, h2, h3])
          go_wp2_with fail
          go_ret
          exact ⟨by rw [hv.out]; rfl, hB⟩
      · have hv : Hid (rsB p z c = false) := Lib.hid (by simp [rsB, HR.out, h1, h2])
        go_wp2_with fail
        go_ret
        exact ⟨by rw [hv.out]; rfl, hB⟩
    · have hv : Hid (rsB p z c = false) := Lib.hid (by simp [rsB, HR.out, h1])
      go_wp2_with fail
      go_ret
      exact ⟨by rw [hv.out]; rfl, hB⟩
set_option maxHeartbeats 2000000 in
theorem refrstem_any (p : Pn) (z c : Int) (w : World) : Calls Try.prog 24 #[.agg (sV p z c).toArray] w fun e w' => e = .returned (.bool (rsB p z c)) ∧ Below w.heap.size w w' := by
  obtain ⟨W, hW, hb0, hx0, hs0⟩ : ∃ W, W = w.alloc (.cells (sV p z c).toArray 26) ∧ Below w.heap.size w W ∧ Bs W w.heap.size p z c ∧ W.heap.size = w.heap.size + 1 := ⟨_, rfl, bs_new w p z c⟩
  have hr0 := hx0.pt
  have HI := Lib.hid (fun W => refright_any p W)
  obtain ⟨r1, hr1⟩ : ∃ r1, rightB p = r1 := ⟨_, rfl⟩
  rw [hr1] at HI
  have HR := Lib.hid hr1
  clear hr1
  go_enter Try.func24, Try.ntmps24
  go_wp2_with (first | (rw [← hW]) | (refine wpList_load_mid rfl 24 (.tmp 3) rfl w.heap.size 0 rfl (pV p) _ (by exact hr0) undP rfl (sizeP p) ?_; simp only [Act.put, List.setIfInBounds_toArray, List.set_cons_succ, List.set_cons_zero]))
  refine (HI.out W).mono ?_
  rintro _ w1 ⟨rfl, hb1⟩
  have hB := hb0.trans (hb1.mono hb0.size)
  have hx1 := hx0.keep (hb1.block w.heap.size (by omega))
  have c1 := hx1.sz
  have c2 := hx1.cp
  clear hx0 hb1 hb0 hr0 hW HI hx1
  dsimp only
  cases r1 with
  | false =>
    have hv : Hid (rsB p z c = false) := Lib.hid (by simp [rsB, HR.out])
    go_wp2_with fail
    go_ret
    exact ⟨by rw [hv.out]; rfl, hB⟩
  | true =>
    by_cases h1 : 0 ≤ z
    · by_cases h2 : z ≤ 8192
      · skip
        by_cases h4 : c = 1
        · subst h4
          have hv : Hid (rsB p z 1 = true) := Lib.hid (by simp [rsB, HR.out, h1, h2])
          go_wp2_with fail
          go_ret
          exact ⟨by rw [hv.out]; rfl, hB⟩
        · by_cases h5 : c = 2
          · subst h5
            have hv : Hid (rsB p z 2 = true) := Lib.hid (by simp [rsB, HR.out, h1, h2])
            go_wp2_with fail
            go_ret
            exact ⟨by rw [hv.out]; rfl, hB⟩
          · have hv : Hid (rsB p z c = false) := Lib.hid (by
              cases e : rsB p z c with
              | false => rfl
              | true => have := rsB_iff.1 e; omega)
            have e4 : (c == 1) = false := beq_eq_false_iff_ne.2 h4
            have e5 : (c == 2) = false := beq_eq_false_iff_ne.2 h5
            clear h4 h5
            go_wp2_with fail
            go_ret
            exact ⟨by rw [hv.out]; rfl, hB⟩
      · have hv : Hid (rsB p z c = false) := Lib.hid (by simp [rsB, HR.out, h1, h2])
        go_wp2_with fail
        go_ret
        exact ⟨by rw [hv.out]; rfl, hB⟩
    · have hv : Hid (rsB p z c = false) := Lib.hid (by simp [rsB, HR.out, h1])
      go_wp2_with fail
      go_ret
      exact ⟨by rw [hv.out]; rfl, hB⟩
set_option maxHeartbeats 4000000 in
theorem right_any (n : Nd) (w : World) : Calls Try.prog 12 #[.agg (nV n).toArray] w fun e w' => e = .returned (.bool (rtB n)) ∧ Below w.heap.size w w' := by
  obtain ⟨W, hW, hb0, hx0, hs0⟩ : ∃ W, W = w.alloc (.cells (nV n).toArray 28) ∧ Below w.heap.size w W ∧ Bn W w.heap.size n ∧ W.heap.size = w.heap.size + 1 := ⟨_, rfl, bn_new w n⟩
  have hB : Below w.heap.size w W := hb0
  have hx : Bn W w.heap.size n := hx0
  obtain ⟨N, K, L, p, z, c⟩ := n
  have c0 : W.cell? ⟨w.heap.size, 0, none⟩ = some (.int .i64 N) := hx0.N
  have c1 : W.cell? ⟨w.heap.size, 1, none⟩ = some (.int .i64 K) := hx0.K
  have c2 : W.cell? ⟨w.heap.size, 2, none⟩ = some (.int .i64 L) := hx0.L
  have hst : W.rangeAt w.heap.size 3 (sV p z c) := hx0.st
  have c4 : W.cell? ⟨w.heap.size, 38, none⟩ = some (.int .i64 c) := hx0.c
  have e0 : (nV ⟨N, K, L, p, z, c⟩)[0]? = some (.int .i64 N) := rfl
  have e1 : (nV ⟨N, K, L, p, z, c⟩)[1]? = some (.int .i64 K) := rfl
  have e2 : (nV ⟨N, K, L, p, z, c⟩)[2]? = some (.int .i64 L) := rfl
  clear hb0 hx0
  subst hW
  have HA := Lib.hid (fun W => numbered_any N W)
  have HK := Lib.hid (fun W => known_any K W)
  have HS := Lib.hid (fun W => rstem_any p z c W)
  have HV : Hid (rtB ⟨N, K, L, p, z, c⟩ = (nbB N && (knB K && (decide (0 ≤ L) && (decide (L ≤ 99) && (rsB p z c && (decide (K = 1) || decide (c = 2)))))))) := Lib.hid rfl
  generalize rtB ⟨N, K, L, p, z, c⟩ = R at *
  generalize rsB p z c = r3 at *
  generalize nbB N = r1 at *
  generalize knB K = r2 at *
  go_enter Try.func12, Try.ntmps12
  go_wp2_with fail
  generalize w.alloc (.cells (nV ⟨N, K, L, p, z, c⟩).toArray 28) = W at *
  refine (HA.out W).mono ?_
  rintro _ _ ⟨rfl, rfl⟩
  dsimp only
  cases r1 with
  | false =>
    go_wp2_with fail
    go_ret
    exact ⟨by rw [HV.out]; simp, hB⟩
  | true =>
    go_wp2_with fail
    refine (HK.out W).mono ?_
    rintro _ _ ⟨rfl, rfl⟩
    dsimp only
    cases r2 with
    | false =>
      go_wp2_with fail
      go_ret
      exact ⟨by rw [HV.out]; simp, hB⟩
    | true =>
      by_cases h1 : 0 ≤ L
      · by_cases h2 : L ≤ 99
        · skip
          go_wp2_with (refine @wpList_loadG _ _ _ _ _ _ _ (by kernel_rfl) 26 (.tmp 22) rfl w.heap.size 3 rfl (sV p z c) _ hst undS rfl (sizeS _ _ _) ?_; simp only [Act.put, List.setIfInBounds_toArray, List.set_cons_succ, List.set_cons_zero])
          refine (HS.out W).mono ?_
          rintro _ w1 ⟨rfl, hb1⟩
          have hB := hB.trans (hb1.mono hB.size)
          have hx1 := hx.keep (hb1.block w.heap.size (by omega))
          have c1 : w1.cell? ⟨w.heap.size, 1, none⟩ = some (.int .i64 K) := hx1.K
          have c4 : w1.cell? ⟨w.heap.size, 38, none⟩ = some (.int .i64 c) := hx1.c
          clear hx1 hx hst hb1 HS
          dsimp only
          cases r3 with
          | false =>
            go_wp2_with fail
            go_ret
            exact ⟨by rw [HV.out]; simp [h1, h2], hB⟩
          | true =>
            by_cases h3 : K = 1
            · subst h3
              go_wp2_with fail
              go_ret
              exact ⟨by rw [HV.out]; simp [h1, h2], hB⟩
            · have e3 : (K == 1) = false := beq_eq_false_iff_ne.2 h3
              have H3 := Lib.hid h3
              clear h3
              by_cases h4 : c = 2
              · subst h4
                go_wp2_with fail
                go_ret
                exact ⟨by rw [HV.out]; simp [h1, h2], hB⟩
              · have e4 : (c == 2) = false := beq_eq_false_iff_ne.2 h4
                have H4 := Lib.hid h4
                clear h4
                go_wp2_with fail
                go_ret
                exact ⟨by rw [HV.out]; simp [h1, h2, H3.out, H4.out], hB⟩
        · clear hst
          go_wp2_with fail
          go_ret
          exact ⟨by rw [HV.out]; simp [h1, Int.not_le.2 h2], hB⟩
      · clear hst
        go_wp2_with fail
        go_ret
        exact ⟨by rw [HV.out]; simp [Int.not_le.2 h1], hB⟩
set_option maxHeartbeats 4000000 in
theorem refright_any (n : Nd) (w : World) : Calls Try.prog 13 #[.agg (nV n).toArray] w fun e w' => e = .returned (.bool (rtB n)) ∧ Below w.heap.size w w' := by
  obtain ⟨W, hW, hb0, hx0, hs0⟩ : ∃ W, W = w.alloc (.cells (nV n).toArray 28) ∧ Below w.heap.size w W ∧ Bn W w.heap.size n ∧ W.heap.size = w.heap.size + 1 := ⟨_, rfl, bn_new w n⟩
  have hB : Below w.heap.size w W := hb0
  have hx : Bn W w.heap.size n := hx0
  obtain ⟨N, K, L, p, z, c⟩ := n
  have c0 : W.cell? ⟨w.heap.size, 0, none⟩ = some (.int .i64 N) := hx0.N
  have c1 : W.cell? ⟨w.heap.size, 1, none⟩ = some (.int .i64 K) := hx0.K
  have c2 : W.cell? ⟨w.heap.size, 2, none⟩ = some (.int .i64 L) := hx0.L
  have hst : W.rangeAt w.heap.size 3 (sV p z c) := hx0.st
  have c4 : W.cell? ⟨w.heap.size, 38, none⟩ = some (.int .i64 c) := hx0.c
  have e0 : (nV ⟨N, K, L, p, z, c⟩)[0]? = some (.int .i64 N) := rfl
  have e1 : (nV ⟨N, K, L, p, z, c⟩)[1]? = some (.int .i64 K) := rfl
  have e2 : (nV ⟨N, K, L, p, z, c⟩)[2]? = some (.int .i64 L) := rfl
  clear hb0 hx0
  subst hW
  have HS := Lib.hid (fun W => refrstem_any p z c W)
  have HV : Hid (rtB ⟨N, K, L, p, z, c⟩ = (nbB N && (knB K && (decide (0 ≤ L) && (decide (L ≤ 99) && (rsB p z c && (decide (K = 1) || decide (c = 2)))))))) := Lib.hid rfl
  generalize rtB ⟨N, K, L, p, z, c⟩ = R at *
  generalize rsB p z c = r3 at *
  by_cases a1 : 1 ≤ N
  · by_cases a2 : N ≤ 64
    · by_cases b1 : 1 ≤ K
      · by_cases b2 : K ≤ 3
        · have hk : knB K = true := knB_iff.2 (by omega)
          by_cases h1 : 0 ≤ L
          · by_cases h2 : L ≤ 99
            · have HKK := Lib.hid hk
              clear hk
              go_enter Try.func13, Try.ntmps13
              go_wp2_with (refine @wpList_loadG _ _ _ _ _ _ _ (by kernel_rfl) 26 (.tmp 32) rfl w.heap.size 3 rfl (sV p z c) _ hst undS rfl (sizeS _ _ _) ?_; simp only [Act.put, List.setIfInBounds_toArray, List.set_cons_succ, List.set_cons_zero])
              generalize w.alloc (.cells (nV ⟨N, K, L, p, z, c⟩).toArray 28) = W at *
              refine (HS.out W).mono ?_
              rintro _ w1 ⟨rfl, hb1⟩
              have hB := hB.trans (hb1.mono hB.size)
              have hx1 := hx.keep (hb1.block w.heap.size (by omega))
              have c1 : w1.cell? ⟨w.heap.size, 1, none⟩ = some (.int .i64 K) := hx1.K
              have c4 : w1.cell? ⟨w.heap.size, 38, none⟩ = some (.int .i64 c) := hx1.c
              clear hx1 hx hst hb1 HS
              dsimp only
              cases r3 with
              | false =>
                go_wp2_with fail
                go_ret
                exact ⟨by rw [HV.out]; simp [nbB, a1, a2, HKK.out, h1, h2], hB⟩
              | true =>
                by_cases h3 : K = 1
                · subst h3
                  go_wp2_with fail
                  go_ret
                  exact ⟨by rw [HV.out]; simp [nbB, a1, a2, HKK.out, h1, h2], hB⟩
                · have e3 : (K == 1) = false := beq_eq_false_iff_ne.2 h3
                  have H3 := Lib.hid h3
                  clear h3
                  by_cases h4 : c = 2
                  · subst h4
                    go_wp2_with fail
                    go_ret
                    exact ⟨by rw [HV.out]; simp [nbB, a1, a2, HKK.out, h1, h2], hB⟩
                  · have e4 : (c == 2) = false := beq_eq_false_iff_ne.2 h4
                    have H4 := Lib.hid h4
                    clear h4
                    go_wp2_with fail
                    go_ret
                    exact ⟨by rw [HV.out]; simp [nbB, a1, a2, HKK.out, h1, h2, H3.out, H4.out], hB⟩
            · clear hst
              have HKK := Lib.hid hk
              clear hk
              go_enter Try.func13, Try.ntmps13
              go_wp2_with fail
              go_ret
              exact ⟨by rw [HV.out]; simp [nbB, a1, a2, HKK.out, h1, Int.not_le.2 h2], hB⟩
          · clear hst
            have HKK := Lib.hid hk
            clear hk
            go_enter Try.func13, Try.ntmps13
            go_wp2_with fail
            go_ret
            exact ⟨by rw [HV.out]; simp [nbB, a1, a2, HKK.out, Int.not_le.2 h1], hB⟩
        · clear hst
          have HKK : Hid (knB K = false) := Lib.hid (by cases e : knB K with | false => rfl | true => have := knB_iff.1 e; omega)
          go_enter Try.func13, Try.ntmps13
          go_wp2_with fail
          go_ret
          exact ⟨by rw [HV.out]; simp [nbB, a1, a2, HKK.out], hB⟩
      · clear hst
        have HKK : Hid (knB K = false) := Lib.hid (by cases e : knB K with | false => rfl | true => have := knB_iff.1 e; omega)
        go_enter Try.func13, Try.ntmps13
        go_wp2_with fail
        go_ret
        exact ⟨by rw [HV.out]; simp [nbB, a1, a2, HKK.out], hB⟩
    · clear hst
      go_enter Try.func13, Try.ntmps13
      go_wp2_with fail
      go_ret
      exact ⟨by rw [HV.out]; simp [nbB, a1, Int.not_le.2 a2], hB⟩
  · clear hst
    go_enter Try.func13, Try.ntmps13
    go_wp2_with fail
    go_ret
    exact ⟨by rw [HV.out]; simp [nbB, Int.not_le.2 a1], hB⟩
end In
end Go.Proofs.Ytnmljjehkdbbjaa
