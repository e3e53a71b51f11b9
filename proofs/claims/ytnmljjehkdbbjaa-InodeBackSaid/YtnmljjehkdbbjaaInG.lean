/- inode: Stat, the program's and the document's; the document's Put (made by tools/gen_ing.py). -/
import Derived.Test.YtnmljjehkdbbjaaInF
namespace Go.Proofs.Ytnmljjehkdbbjaa
set_option maxRecDepth 20000
namespace In
open Go.RowKit Dk Eqb Byt Pt

def stV (n : Nd) (k : Int) : List Value := [.int .i64 n.N, .int .i64 n.K, .int .i64 n.c, .int .i64 n.L, .int .i64 n.z, .int .i64 k]
def z6 : List Value := [.int .i64 0, .int .i64 0, .int .i64 0, .int .i64 0, .int .i64 0, .int .i64 0]
def stB (n : Nd) (k : Int) : Bool := rtB n && decide (0 ≤ k)
def stR (n : Nd) (k : Int) : List Value := if stB n k = true then stV n k else z6
def stE (n : Nd) (k : Int) : Int := if stB n k = true then 0 else 1
theorem undT : Try.prog.underlying 35 = some (.struct (Try.prog.fieldsOf 35)) := by kernel_rfl
theorem sizeT (L : List Value) (h : L.length = 6) : (Try.prog.info? 35).map (·.size) = some L.toArray.size := by rw [List.size_toArray, h]; kernel_rfl
theorem builtT (a b c d e f : Int) : Try.prog.built 35 [(0, .int .i64 a), (1, .int .i64 b), (2, .int .i64 c), (3, .int .i64 d), (4, .int .i64 e), (5, .int .i64 f)] = some [.int .i64 a, .int .i64 b, .int .i64 c, .int .i64 d, .int .i64 e, .int .i64 f].toArray := by kernel_rfl
theorem stR_len (n : Nd) (k : Int) : (stR n k).length = 6 := by
  unfold stR
  split <;> rfl
theorem results_2s {tmps : Array Value} {w : World} {B : Nat} {L : List Value} {e : Int} {fn : Func} {s r : Nat} (hl : L.length = 6) (hf : fn.results = #[.cell s 35, .tmp r]) (h4 : tmps.getD s undef = .pointer (some ⟨B, 0, none⟩)) (h5 : tmps.getD r undef = .int .i64 e)
    (kV : w.heap[B]? = some (.cells L.toArray 35 (0, 0))) : (results fn tmps).run Try.prog w = .ok (.tuple #[.agg L.toArray, .int .i64 e]) w := by
  have h4' : tmps[s]?.getD undef = .pointer (some ⟨B, 0, none⟩) := by simpa using h4
  have h5' : tmps[r]?.getD undef = .int .i64 e := by simpa using h5
  have hv := run_loadVar_row (P := Try.prog) w B 35 35 L.toArray (0, 0) _ kV undT rfl (sizeT L hl)
  simp [results, hf, h4', h5', asAddr, hv]
theorem boxnt (w : World) (n : Nd) : ∃ W, W = (w.alloc (.cells (nV n).toArray 28)).alloc (.cells z6.toArray 35) ∧ Below w.heap.size w W ∧ W.heap.size = w.heap.size + 2 ∧ Bn W w.heap.size n ∧ W.heap[w.heap.size + 1]? = some (.cells z6.toArray 35 (0, 0)) := by
  obtain ⟨W1, h1, b1, x1, s1⟩ := box1 w n
  have b2 : Below W1.heap.size W1 (W1.alloc (.cells z6.toArray 35)) := (Below.refl _ _).alloc (Nat.le_refl _) _
  refine ⟨_, by rw [h1], b1.trans (b2.mono (by omega)), by simp [s1], x1.keep (b2.block _ (by omega)), ?_⟩
  rw [← s1]
  exact heap_alloc_new _ _
theorem zstat : (#[Value.int .i64 0, Value.int .i64 0, Value.int .i64 0, Value.int .i64 0, Value.int .i64 0, Value.int .i64 0] : Array Value) = z6.toArray := rfl
theorem z6_one : z6.toArray.all (·.oneCell') = true := all_oneCell_toArray fun u hu => by
  simp only [z6, List.mem_cons, List.not_mem_nil, or_false] at hu
  rcases hu with rfl | rfl | rfl | rfl | rfl | rfl <;> rfl
theorem stV_one (n : Nd) (k : Int) : (stV n k).toArray.all (·.oneCell') = true := all_oneCell_toArray fun u hu => by
  simp only [stV, List.mem_cons, List.not_mem_nil, or_false] at hu
  rcases hu with rfl | rfl | rfl | rfl | rfl | rfl <;> rfl
set_option maxRecDepth 100000 in
set_option maxHeartbeats 4000000 in
theorem stat_any (n : Nd) (k : Int) (w : World) : Calls Try.prog 10 #[.agg (nV n).toArray, .int .i64 k] w fun e w' => e = .returned (.tuple #[.agg (stR n k).toArray, .int .i64 (stE n k)]) ∧ Below w.heap.size w w' := by
  obtain ⟨W, hW, hb0, hs0, hx0, hx1⟩ := boxnt w n
  have HR := Lib.hid (fun W => right_any n W)
  obtain ⟨r, hr⟩ : ∃ r, rtB n = r := ⟨_, rfl⟩
  have HV : Hid (stR n k = (if (r && decide (0 ≤ k)) = true then stV n k else z6) ∧ stE n k = if (r && decide (0 ≤ k)) = true then 0 else 1) := Lib.hid (by unfold stR stE stB; rw [hr]; exact ⟨rfl, rfl⟩)
  rw [hr] at HR
  rw [HV.out.1, HV.out.2]
  clear HV hr
  by_cases hk : 0 ≤ k
  · rw [decide_eq_true hk]
    go_enter Try.func10, Try.ntmps10
    go_upto_region 1 with fail
    rw [zstat, ← hW]
    have hal := hx0.all
    clear hW
    go_wp2_with (first | (refine wpList_load_mid rfl 28 (.tmp 2) rfl (w.heap.size) 0 rfl (nV n) _ (by exact hal) undN rfl (sizeN _) ?_; simp only [Act.put, List.setIfInBounds_toArray, List.set_cons_succ, List.set_cons_zero]))
    refine (HR.out W).mono ?_
    rintro _ w1 ⟨rfl, hb1⟩
    have hn1 := hx0.keep (hb1.block _ (by omega))
    have ht1 := (hb1.block _ (by omega)).trans hx1
    have hB := hb0.trans (hb1.mono hb0.size)
    have hs1 := hb1.size
    clear HR hb1 hb0 hx0 hx1 hal
    dsimp only
    cases r with
    | false =>
      go_wp2_with (first | (refine @wpList_buildG _ _ _ _ _ _ _ (by kernel_rfl) 35 #[] rfl z6.toArray (by kernel_rfl) ?_; simp only [Act.put, List.setIfInBounds_toArray, List.set_cons_succ, List.set_cons_zero]) | (refine @wpList_store_row _ _ _ _ _ _ _ rfl 35 (.tmp 4) (.tmp 14) rfl (w.heap.size + 1) (z6.toArray) rfl rfl 35 _ ht1 (sizeT _ rfl) rfl z6_one ?_; simp only [Act.put]))
      refine bodyPost_ret (results_2s rfl rfl rfl rfl (setRow_heap _ _ _ _ _ _ ht1)) rfl ?_
      exact ⟨rfl, below_row hB (by omega) _⟩
    | true =>
      have hst := hn1.st
      obtain ⟨w2, hW2, hb2, hx2, hs2⟩ : ∃ W, W = w1.alloc (.cells (sV n.p n.z n.c).toArray 26) ∧ Below w1.heap.size w1 W ∧ Bs W w1.heap.size n.p n.z n.c ∧ W.heap.size = w1.heap.size + 1 := ⟨_, rfl, bs_new w1 _ _ _⟩
      go_upto_region 4 with (first | (refine wpList_load_mid rfl 26 (.tmp 15) rfl (w.heap.size) 3 rfl (sV n.p n.z n.c) _ (by exact hst) undS rfl (sizeS _ _ _) ?_; simp only [Act.put, List.setIfInBounds_toArray, List.set_cons_succ, List.set_cons_zero]) | (refine @wpList_store_row _ _ _ _ _ _ _ rfl 26 (.tmp 6) (.tmp 16) rfl (w1.heap.size) ((sV n.p n.z n.c).toArray) rfl rfl 26 _ (heap_alloc_new w1 _) (sizeS' _ _ _) rfl (sV_all _ _ _) ?_; simp only [Act.put]; rw [World.setRow_alloc_new]))
      rw [← hW2]
      have hn2 := hn1.keep (hb2.block _ (by omega))
      have ht2 := (hb2.block _ (by omega)).trans ht1
      have hB2 := hB.trans (hb2.mono hB.size)
      have cN := hn2.N
      have cK := hn2.K
      have cL := hn2.L
      have cz := hx2.sz
      have cc := hx2.cp
      clear hW2 hb2 hst hn1 ht1 hB hn2 hx2
      generalize w1.heap.size = b1 at *
      go_wp2_with (first | (refine wpList_buildL rfl 35 [(0, .tmp 18), (1, .tmp 20), (2, .tmp 22), (3, .tmp 24), (4, .tmp 26), (5, .tmp 27)] rfl _ rfl [(0, .int .i64 n.N), (1, .int .i64 n.K), (2, .int .i64 n.c), (3, .int .i64 n.L), (4, .int .i64 n.z), (5, .int .i64 k)] (by rfl) _ (builtT _ _ _ _ _ _) ?_; simp only [Act.put, List.setIfInBounds_toArray, List.set_cons_succ, List.set_cons_zero]) | (refine @wpList_store_row _ _ _ _ _ _ _ rfl 35 (.tmp 4) (.tmp 28) rfl (w.heap.size + 1) ((stV n k).toArray) rfl rfl 35 _ ht2 (sizeT _ rfl) rfl (stV_one n k) ?_; simp only [Act.put]))
      refine bodyPost_ret (results_2s rfl rfl rfl rfl (setRow_heap _ _ _ _ _ _ ht2)) rfl ?_
      exact ⟨rfl, below_row hB2 (by omega) _⟩
  · rw [decide_eq_false hk]
    go_enter Try.func10, Try.ntmps10
    go_upto_region 1 with fail
    rw [zstat, ← hW]
    have hal := hx0.all
    clear hW
    go_wp2_with (first | (refine wpList_load_mid rfl 28 (.tmp 2) rfl (w.heap.size) 0 rfl (nV n) _ (by exact hal) undN rfl (sizeN _) ?_; simp only [Act.put, List.setIfInBounds_toArray, List.set_cons_succ, List.set_cons_zero]))
    refine (HR.out W).mono ?_
    rintro _ w1 ⟨rfl, hb1⟩
    have ht1 := (hb1.block _ (by omega)).trans hx1
    have hB := hb0.trans (hb1.mono hb0.size)
    have hs1 := hb1.size
    clear HR hb1 hb0 hx0 hx1 hal
    dsimp only
    cases r with
    | false =>
      go_wp2_with (first | (refine @wpList_buildG _ _ _ _ _ _ _ (by kernel_rfl) 35 #[] rfl z6.toArray (by kernel_rfl) ?_; simp only [Act.put, List.setIfInBounds_toArray, List.set_cons_succ, List.set_cons_zero]) | (refine @wpList_store_row _ _ _ _ _ _ _ rfl 35 (.tmp 4) (.tmp 14) rfl (w.heap.size + 1) (z6.toArray) rfl rfl 35 _ ht1 (sizeT _ rfl) rfl z6_one ?_; simp only [Act.put]))
      refine bodyPost_ret (results_2s rfl rfl rfl rfl (setRow_heap _ _ _ _ _ _ ht1)) rfl ?_
      exact ⟨rfl, below_row hB (by omega) _⟩
    | true =>
      go_wp2_with (first | (refine @wpList_buildG _ _ _ _ _ _ _ (by kernel_rfl) 35 #[] rfl z6.toArray (by kernel_rfl) ?_; simp only [Act.put, List.setIfInBounds_toArray, List.set_cons_succ, List.set_cons_zero]) | (refine @wpList_store_row _ _ _ _ _ _ _ rfl 35 (.tmp 4) (.tmp 14) rfl (w.heap.size + 1) (z6.toArray) rfl rfl 35 _ ht1 (sizeT _ rfl) rfl z6_one ?_; simp only [Act.put]))
      refine bodyPost_ret (results_2s rfl rfl rfl rfl (setRow_heap _ _ _ _ _ _ ht1)) rfl ?_
      exact ⟨rfl, below_row hB (by omega) _⟩
set_option maxRecDepth 100000 in
set_option maxHeartbeats 4000000 in
theorem refstat_any (n : Nd) (k : Int) (w : World) : Calls Try.prog 11 #[.agg (nV n).toArray, .int .i64 k] w fun e w' => e = .returned (.tuple #[.agg (stR n k).toArray, .int .i64 (stE n k)]) ∧ Below w.heap.size w w' := by
  obtain ⟨W, hW, hb0, hs0, hx0, hx1⟩ := boxnt w n
  have HR := Lib.hid (fun W => refright_any n W)
  obtain ⟨r, hr⟩ : ∃ r, rtB n = r := ⟨_, rfl⟩
  have HV : Hid (stR n k = (if (r && decide (0 ≤ k)) = true then stV n k else z6) ∧ stE n k = if (r && decide (0 ≤ k)) = true then 0 else 1) := Lib.hid (by unfold stR stE stB; rw [hr]; exact ⟨rfl, rfl⟩)
  rw [hr] at HR
  rw [HV.out.1, HV.out.2]
  clear HV hr
  by_cases hk : 0 ≤ k
  · rw [decide_eq_true hk]
    go_enter Try.func11, Try.ntmps11
    go_upto_region 1 with fail
    rw [zstat, ← hW]
    have hal := hx0.all
    clear hW
    go_wp2_with (first | (refine wpList_load_mid rfl 28 (.tmp 2) rfl (w.heap.size) 0 rfl (nV n) _ (by exact hal) undN rfl (sizeN _) ?_; simp only [Act.put, List.setIfInBounds_toArray, List.set_cons_succ, List.set_cons_zero]))
    refine (HR.out W).mono ?_
    rintro _ w1 ⟨rfl, hb1⟩
    have hn1 := hx0.keep (hb1.block _ (by omega))
    have ht1 := (hb1.block _ (by omega)).trans hx1
    have hB := hb0.trans (hb1.mono hb0.size)
    have hs1 := hb1.size
    clear HR hb1 hb0 hx0 hx1 hal
    dsimp only
    cases r with
    | false =>
      go_wp2_with (first | (refine @wpList_buildG _ _ _ _ _ _ _ (by kernel_rfl) 35 #[] rfl z6.toArray (by kernel_rfl) ?_; simp only [Act.put, List.setIfInBounds_toArray, List.set_cons_succ, List.set_cons_zero]) | (refine @wpList_store_row _ _ _ _ _ _ _ rfl 35 (.tmp 4) (.tmp 13) rfl (w.heap.size + 1) (z6.toArray) rfl rfl 35 _ ht1 (sizeT _ rfl) rfl z6_one ?_; simp only [Act.put]))
      refine bodyPost_ret (results_2s rfl rfl rfl rfl (setRow_heap _ _ _ _ _ _ ht1)) rfl ?_
      exact ⟨rfl, below_row hB (by omega) _⟩
    | true =>
      have cN := hn1.N
      have cK := hn1.K
      have cL := hn1.L
      have cz := hn1.z
      have cc := hn1.c
      clear hn1
      go_wp2_with (first | (refine wpList_buildL rfl 35 [(0, .tmp 15), (1, .tmp 17), (2, .tmp 20), (3, .tmp 22), (4, .tmp 25), (5, .tmp 26)] rfl _ rfl [(0, .int .i64 n.N), (1, .int .i64 n.K), (2, .int .i64 n.c), (3, .int .i64 n.L), (4, .int .i64 n.z), (5, .int .i64 k)] (by rfl) _ (builtT _ _ _ _ _ _) ?_; simp only [Act.put, List.setIfInBounds_toArray, List.set_cons_succ, List.set_cons_zero]) | (refine @wpList_store_row _ _ _ _ _ _ _ rfl 35 (.tmp 4) (.tmp 27) rfl (w.heap.size + 1) ((stV n k).toArray) rfl rfl 35 _ ht1 (sizeT _ rfl) rfl (stV_one n k) ?_; simp only [Act.put]))
      refine bodyPost_ret (results_2s rfl rfl rfl rfl (setRow_heap _ _ _ _ _ _ ht1)) rfl ?_
      exact ⟨rfl, below_row hB (by omega) _⟩
  · rw [decide_eq_false hk]
    go_enter Try.func11, Try.ntmps11
    go_upto_region 1 with fail
    rw [zstat, ← hW]
    have hal := hx0.all
    clear hW
    go_wp2_with (first | (refine wpList_load_mid rfl 28 (.tmp 2) rfl (w.heap.size) 0 rfl (nV n) _ (by exact hal) undN rfl (sizeN _) ?_; simp only [Act.put, List.setIfInBounds_toArray, List.set_cons_succ, List.set_cons_zero]))
    refine (HR.out W).mono ?_
    rintro _ w1 ⟨rfl, hb1⟩
    have ht1 := (hb1.block _ (by omega)).trans hx1
    have hB := hb0.trans (hb1.mono hb0.size)
    have hs1 := hb1.size
    clear HR hb1 hb0 hx0 hx1 hal
    dsimp only
    cases r with
    | false =>
      go_wp2_with (first | (refine @wpList_buildG _ _ _ _ _ _ _ (by kernel_rfl) 35 #[] rfl z6.toArray (by kernel_rfl) ?_; simp only [Act.put, List.setIfInBounds_toArray, List.set_cons_succ, List.set_cons_zero]) | (refine @wpList_store_row _ _ _ _ _ _ _ rfl 35 (.tmp 4) (.tmp 13) rfl (w.heap.size + 1) (z6.toArray) rfl rfl 35 _ ht1 (sizeT _ rfl) rfl z6_one ?_; simp only [Act.put]))
      refine bodyPost_ret (results_2s rfl rfl rfl rfl (setRow_heap _ _ _ _ _ _ ht1)) rfl ?_
      exact ⟨rfl, below_row hB (by omega) _⟩
    | true =>
      go_wp2_with (first | (refine @wpList_buildG _ _ _ _ _ _ _ (by kernel_rfl) 35 #[] rfl z6.toArray (by kernel_rfl) ?_; simp only [Act.put, List.setIfInBounds_toArray, List.set_cons_succ, List.set_cons_zero]) | (refine @wpList_store_row _ _ _ _ _ _ _ rfl 35 (.tmp 4) (.tmp 13) rfl (w.heap.size + 1) (z6.toArray) rfl rfl 35 _ ht1 (sizeT _ rfl) rfl z6_one ?_; simp only [Act.put]))
      refine bodyPost_ret (results_2s rfl rfl rfl rfl (setRow_heap _ _ _ _ _ _ ht1)) rfl ?_
      exact ⟨rfl, below_row hB (by omega) _⟩
/-- the first three bytes -/
def f3 (n : Nd) (a b c : Bool) (i : Nat) : Int := if i = 0 then (if a = true then n.K else 0) else if i = 1 then (if b = true then n.L else 0) else if i = 2 then (if c = true then n.c else 0) else 0
theorem f3_0 (n : Nd) (b c : Bool) : put (f3 n false b c) 0 n.K = f3 n true b c := by
  funext i
  unfold put f3
  by_cases h : i = 0
  · simp [h]
  · simp [h]
theorem f3_1 (n : Nd) (a c : Bool) : put (f3 n a false c) 1 n.L = f3 n a true c := by
  funext i
  unfold put f3
  by_cases h : i = 1
  · simp [h]
  · simp [h]
theorem f3_2 (n : Nd) (a b : Bool) : put (f3 n a b false) 2 n.c = f3 n a b true := by
  funext i
  unfold put f3
  by_cases h : i = 2
  · simp [h]
  · simp [h]
def rF (n : Nd) : Nat → Int := ppF 64 8 n.p (Wd.putF 64 4 4 n.z (f3 n true true true))
theorem byte0 {z : Int} (h : 0 ≤ z) (h2 : z < 256) : Wd.byteAt z 0 = z := by
  unfold Wd.byteAt
  simp
  omega
theorem rF_ly {n : Nd} (h : rtB n = true) (i : Nat) : rF n i = lyF n i := by
  obtain ⟨hg, hp⟩ := right_lay h
  obtain ⟨_, hK, hL0, hL1, ⟨_, hz0, hz1, hc0, hc1⟩, _⟩ := rtB_iff.1 h
  have g3 := hg 3 (by omega)
  unfold rF
  by_cases h8 : 8 ≤ i ∧ i < 48
  · rw [pp_in (g := fun _ => 0) hp h8.1 h8.2]
    unfold lyF
    rw [if_neg (by omega), if_neg (by omega), if_neg (by omega), if_neg (by omega), if_pos h8]
  · rw [pp_out h8]
    have g3' : Wd.putGood 64 4 4 n.z := g3
    unfold Wd.putF
    rw [if_pos g3']
    have e4 : (4 : Int).toNat = 4 := rfl
    unfold mix
    rw [e4]
    by_cases h4 : 4 ≤ i ∧ i < 4 + 4
    · rw [if_pos h4]
      unfold lyF
      rw [if_neg (by omega), if_neg (by omega), if_neg (by omega), if_pos (by omega)]
    · rw [if_neg h4]
      unfold f3 lyF
      by_cases h0 : i = 0
      · rw [if_pos h0, if_pos h0, byte0 (by omega) (by omega)]
        rfl
      · rw [if_neg h0, if_neg h0]
        by_cases h1 : i = 1
        · rw [if_pos h1, if_pos h1, byte0 (by omega) (by omega)]
          rfl
        · rw [if_neg h1, if_neg h1]
          by_cases h2 : i = 2
          · rw [if_pos h2, if_pos h2, byte0 (by omega) (by omega)]
            rfl
          · rw [if_neg h2, if_neg h2, if_neg (by omega), if_neg h8]
/-- the boxes of the document's Put -/
structure Rs (w : World) (n : Nd) (f : Nat → Int) (wr : World) : Prop where
  bel : Below w.heap.size w wr
  sz : w.heap.size + 3 ≤ wr.heap.size
  nd : Bn wr w.heap.size n
  res : Bb wr (w.heap.size + 1) fun _ => 0
  own : Wd.Own wr w.heap.size (some ⟨w.heap.size + 2, 0, none⟩) 64 64 f
section
variable {w wr w' : World} {n : Nd} {f f' : Nat → Int}
theorem Rs.below (h : Rs w n f wr) (hb : Below wr.heap.size wr w') : Rs w n f w' := by
  have hs := h.sz
  exact ⟨h.bel.trans (hb.mono (by omega)), by have := hb.size; omega, h.nd.keep (hb.block _ (by omega)), h.res.keep (hb.block _ (by omega)), h.own.below hb⟩
theorem Rs.only (h : Rs w n f wr) (hg : Wd.Only wr w' (some ⟨w.heap.size + 2, 0, none⟩)) (ho : Wd.Own w' w.heap.size (some ⟨w.heap.size + 2, 0, none⟩) 64 64 f') : Rs w n f' w' := by
  have hs := h.sz
  have hg' : wr.grownBy w' (some (w.heap.size + 2)) := hg
  have hk : ∀ b, b < w.heap.size + 3 → b ≠ w.heap.size + 2 → w'.heap[b]? = wr.heap[b]? := fun b hb hne => hg'.block b (by omega) (by simpa using hne)
  exact ⟨h.bel.grown hg' (by have := h.bel.size; omega) (fun j hj => by cases hj; omega), by have := hg'.size; omega, h.nd.keep (hk _ (by omega) (by omega)), h.res.keep (hk _ (by omega) (by omega)), ho⟩
theorem Rs.row (h : Rs w n f wr) : Row wr (w.heap.size + 2) 0 64 f := by
  obtain ⟨g, e, _, hrow⟩ := h.own.row.resolve_left (by rintro ⟨e, _⟩; cases e)
  cases e
  exact hrow
theorem Rs.byte (h : Rs w n f wr) {j : Nat} (_hj : j < 64) (z : Int) (hf : put f j z = f') : Rs w n f' (wr.setCell ⟨w.heap.size + 2, j, none⟩ (.int .u8 z)) := by
  refine h.only (grown_setCell _ _ _ _) ⟨Nat.le_refl _, by simp, .inr ⟨_, rfl, by omega, ?_⟩⟩
  have := h.row.store j z
  rw [Nat.zero_add, hf] at this
  exact this
theorem Rs.congr (h : Rs w n f wr) (he : ∀ i, i < 64 → f i = f' i) : Rs w n f' wr := ⟨h.bel, h.sz, h.nd, h.res, h.own.congr he⟩
theorem Rs.bytes (h : Rs w n f wr) : wr.rangeAt (w.heap.size + 2) 0 (b64 f).toList := by
  intro j v hv
  have hj : j < 64 := by
    have := (List.getElem?_eq_some_iff.1 hv).1
    rw [Array.length_toList, b64_size] at this
    exact this
  have hv' : (b64 f)[j]? = some v := by simpa using hv
  rw [b64_get f hj] at hv'
  cases hv'
  exact h.row.cell hj
end
theorem u8_id {z : Int} (h : 0 ≤ z) (h2 : z < 256) : IntKind.u8.wrap z = z := by
  simp [IntKind.wrap, IntKind.signed, IntKind.bits]
  omega
/-- Rp4: what holds at each moment -/
def Rp4Inv (x0 x3 x5 x6 x7 x8 x22 x23 x24 x25 x26 x27 x28 x29 x30 x31 x32 : Value) (w : World) (n : Nd)  (L : Nat → Bool) (a' : Act) (w' : World) : Prop :=
  ∃ u0 u1 u2 u3 u4 u5 u6 u7 u8 u9 u10 u12 u14, a' = { tmps := #[x0, .pointer (some ⟨w.heap.size, 0, none⟩), .pointer (some ⟨w.heap.size + 1, 0, none⟩), x3, .pointer (some ⟨w.heap.size + 2, 0, none⟩), x5, x6, x7, x8, u0, u1, u2, u3, u4, u5, u6, u7, u8, u9, u10, u12, u14, x22, x23, x24, x25, x26, x27, x28, x29, x30, x31, x32], defers := [] } ∧ Fa L [(0, u0, .pointer (some ⟨w.heap.size, 1, none⟩)), (1, u1, .int .i64 n.K), (2, u2, .int .u8 n.K), (3, u3, .pointer (some ⟨w.heap.size, 2, none⟩)), (4, u4, .int .i64 n.L), (5, u5, .int .u8 n.L), (6, u6, .pointer (some ⟨w.heap.size, 3, none⟩)), (7, u7, .pointer (some ⟨w.heap.size, 38, none⟩)), (8, u8, .int .i64 n.c), (9, u9, .int .u8 n.c), (10, u10, .pointer (some ⟨w.heap.size + 2, 0, none⟩)), (12, u12, .pointer (some ⟨w.heap.size + 2, 1, none⟩)), (14, u14, .pointer (some ⟨w.heap.size + 2, 2, none⟩))] ∧ Od L [] ∧ Rs w n (f3 n (L 11) (L 13) (L 15)) w'
/-- Rp5: what holds at each moment -/
def Rp5Inv (x0 x3 x5 x6 x7 x8 x9 x10 x11 x12 x13 x14 x15 x16 x17 x18 x19 x20 x21 x27 x28 x29 x30 x31 x32 : Value) (w : World) (n : Nd) (f f2 : Nat → Int)  (L : Nat → Bool) (a' : Act) (w' : World) : Prop :=
  ∃ u0 u1 u2 u3 u4, a' = { tmps := #[x0, .pointer (some ⟨w.heap.size, 0, none⟩), .pointer (some ⟨w.heap.size + 1, 0, none⟩), x3, .pointer (some ⟨w.heap.size + 2, 0, none⟩), x5, x6, x7, x8, x9, x10, x11, x12, x13, x14, x15, x16, x17, x18, x19, x20, x21, u0, u1, u2, u3, u4, x27, x28, x29, x30, x31, x32], defers := [] } ∧ Fa L [(0, u0, .slice (some ⟨w.heap.size + 2, 0, none⟩) 64 64), (1, u1, .pointer (some ⟨w.heap.size, 3, none⟩)), (2, u2, .pointer (some ⟨w.heap.size, 37, none⟩)), (3, u3, .int .i64 n.z)] ∧ Od L [] ∧ Rs w n (if (L 4) = true then f2 else f) w'
/-- Rp6: what holds at each moment -/
def Rp6Inv (x0 x3 x5 x6 x7 x8 x9 x10 x11 x12 x13 x14 x15 x16 x17 x18 x19 x20 x21 x22 x23 x24 x25 x26 x32 : Value) (w : World) (n : Nd) (f f2 : Nat → Int)  (L : Nat → Bool) (a' : Act) (w' : World) : Prop :=
  ∃ u0 u1 u2 u3 u4, a' = { tmps := #[x0, .pointer (some ⟨w.heap.size, 0, none⟩), .pointer (some ⟨w.heap.size + 1, 0, none⟩), x3, .pointer (some ⟨w.heap.size + 2, 0, none⟩), x5, x6, x7, x8, x9, x10, x11, x12, x13, x14, x15, x16, x17, x18, x19, x20, x21, x22, x23, x24, x25, x26, u0, u1, u2, u3, u4, x32], defers := [] } ∧ Fa L [(0, u0, .slice (some ⟨w.heap.size + 2, 0, none⟩) 64 64), (1, u1, .pointer (some ⟨w.heap.size, 3, none⟩)), (2, u2, .pointer (some ⟨w.heap.size, 3, none⟩)), (3, u3, .agg (pV n.p).toArray)] ∧ Od L [] ∧ Rs w n (if (L 4) = true then f2 else f) w'
set_option maxRecDepth 100000 in
set_option maxHeartbeats 4000000 in
theorem refput_any (n : Nd) (w : World) : Calls Try.prog 9 #[.agg (nV n).toArray] w fun e w' => e = .returned (.tuple #[.agg (b64 (ptF n)), .int .i64 (ptE n)]) ∧ Below w.heap.size w w' := by
  obtain ⟨W, hW, hb0, hs0, hx0, hx1, hx2⟩ := boxes3 w n
  have HR := Lib.hid (fun W => refright_any n W)
  have hR0 : Rs w n (f3 n false false false) W := by
    have ho := hx2.own.mono (show w.heap.size ≤ w.heap.size + 2 by omega)
    exact ⟨hb0, by omega, hx0, hx1, ho.congr fun i _ => by simp [f3]⟩
  have HS := Lib.hid hR0
  have hal := hx0.all
  have hr2 : W.rangeAt (w.heap.size + 2) 0 (b64 fun _ => 0).toList := hx2.all
  clear hx0 hx1 hx2 hb0 hR0
  cases hr : rtB n with
  | false =>
    have h1 : ptF n = fun _ => 0 := by unfold ptF; rw [hr]; rfl
    have h2 : ptE n = 1 := by unfold ptE; rw [hr]; rfl
    rw [h1, h2]
    rw [hr] at HR
    clear h1 h2 hr
    go_enter Try.func9, Try.ntmps9
    go_upto_region 2 with fail
    rw [z64, ← hW, show w.heap.size + 1 + 1 = w.heap.size + 2 from rfl]
    clear hW
    go_wp2_with (first | (refine wpList_load_mid rfl 28 (.tmp 1) rfl (w.heap.size) 0 rfl (nV n) _ (by exact hal) undN rfl (sizeN _) ?_; simp only [Act.put, List.setIfInBounds_toArray, List.set_cons_succ, List.set_cons_zero]))
    refine (HR.out W).mono ?_
    rintro _ w1 ⟨rfl, hb1⟩
    have hr3 : w1.rangeAt (w.heap.size + 2) 0 (b64 fun _ => 0).toList := fun j v hv => (World.cell?_of_block (hb1.block _ (by show w.heap.size + 2 < _; omega))).trans (hr2 j v hv)
    have HS1 := Lib.hid (HS.out.below hb1)
    have hx := HS1.out.res.row
    clear HR hb1 hr2 hal HS
    dsimp only
    go_wp2_with (first | (refine wpList_load_mid rfl 30 (.tmp 4) rfl (w.heap.size + 2) 0 rfl ((b64 (fun _ => 0)).toList) _ (by exact hr3) und64 rfl (by rw [Array.length_toList]; exact size64 _) ?_; simp only [Act.put, List.setIfInBounds_toArray, List.set_cons_succ, List.set_cons_zero, Array.toArray_toList]) | (refine @wpList_store_row _ _ _ _ _ _ _ rfl 30 (.tmp 2) (.tmp 8) rfl (w.heap.size + 1) (b64 (fun _ => 0)) rfl rfl 30 _ hx (size64 _) (by simp only [b64_size]) (b64_all _) ?_; simp only [Act.put]))
    refine bodyPost_ret (results_2b rfl rfl rfl (setRow_heap _ _ _ _ _ _ hx)) rfl ?_
    exact ⟨rfl, below_row HS1.out.bel (by omega) _⟩
  | true =>
    have h1 : ptF n = lyF n := by unfold ptF; rw [hr]; rfl
    have h2 : ptE n = 0 := by unfold ptE; rw [hr]; rfl
    rw [h1, h2]
    obtain ⟨_, hK, hL0, hL1, ⟨_, hz0, hz1, hc0, hc1⟩, _⟩ := rtB_iff.1 hr
    have HU0 := Lib.hid (u8_id (z := n.K) (by omega) (by omega))
    have HU1 := Lib.hid (u8_id (z := n.L) (by omega) (by omega))
    have HU2 := Lib.hid (u8_id (z := n.c) (by omega) (by omega))
    have HP2 := Lib.hid (fun W (h : Wd.Own W w.heap.size (some ⟨w.heap.size + 2, 0, none⟩) 64 64 (f3 n true true true)) => Wd.refput_any W w.heap.size (some ⟨w.heap.size + 2, 0, none⟩) 64 64 (f3 n true true true) 4 4 n.z h (by omega) (by omega))
    have HP5 := Lib.hid (fun W (h : Wd.Own W w.heap.size (some ⟨w.heap.size + 2, 0, none⟩) 64 64 (Wd.putF 64 4 4 n.z (f3 n true true true))) => Pt.refput_any W w.heap.size (some ⟨w.heap.size + 2, 0, none⟩) 64 64 (Wd.putF 64 4 4 n.z (f3 n true true true)) 8 n.p h (by omega) (by omega) (by omega))
    have HLY := Lib.hid (rF_ly hr)
    rw [hr] at HR
    clear h1 h2 hr hK hL0 hL1 hz0 hz1 hc0 hc1
    go_enter Try.func9, Try.ntmps9
    go_upto_region 2 with fail
    rw [z64, ← hW, show w.heap.size + 1 + 1 = w.heap.size + 2 from rfl]
    clear hW
    go_wp2_with (first | (refine wpList_load_mid rfl 28 (.tmp 1) rfl (w.heap.size) 0 rfl (nV n) _ (by exact hal) undN rfl (sizeN _) ?_; simp only [Act.put, List.setIfInBounds_toArray, List.set_cons_succ, List.set_cons_zero]))
    refine (HR.out W).mono ?_
    rintro _ w1 ⟨rfl, hb1⟩
    have HS1 := Lib.hid (HS.out.below hb1)
    clear HR hb1 hr2 hal HS
    dsimp only
    go_wp2_with fail
    refine QuietTail2.regionInv (n := 16) (Inv := Rp4Inv _ _ _ _ _ _ _ _ _ _ _ _ _ _ _ _ _ w n) (by kernel_rfl) (by decide) (by kernel_rfl) ⟨_, _, _, _, _, _, _, _, _, _, _, _, _, rfl, Fa.none _, Od.none _, ?_⟩ ?step ?fin
    exact HS1.out.below (drawn_below _)
    case step =>
      rintro i o hi ho L a' w' ⟨u0, u1, u2, u3, u4, u5, u6, u7, u8, u9, u10, u12, u14, rfl, TF, TO, TW⟩ hL hpre
      match i, hi with
      | 0, _ =>
        simp at ho
        subst ho
        go_simp
        exact ⟨_, u1, u2, u3, u4, u5, u6, u7, u8, u9, u10, u12, u14, rfl, TF.set 0, TO.set 0 trivial, TW⟩
      | 1, _ =>
        simp at ho
        subst ho
        obtain rfl := TF.1 (hpre 0 (by kernel_rfl))
        have hc := TW.nd.K
        go_simp
        exact ⟨_, _, u2, u3, u4, u5, u6, u7, u8, u9, u10, u12, u14, rfl, TF.set 1, TO.set 1 trivial, TW⟩
      | 2, _ =>
        simp at ho
        subst ho
        obtain rfl := TF.2.1 (hpre 1 (by kernel_rfl))
        have hu := HU0.out
        go_simp
        exact ⟨u0, _, _, u3, u4, u5, u6, u7, u8, u9, u10, u12, u14, rfl, TF.set 2, TO.set 2 trivial, TW⟩
      | 3, _ =>
        simp at ho
        subst ho
        go_simp
        exact ⟨u0, u1, u2, _, u4, u5, u6, u7, u8, u9, u10, u12, u14, rfl, TF.set 3, TO.set 3 trivial, TW⟩
      | 4, _ =>
        simp at ho
        subst ho
        obtain rfl := TF.2.2.2.1 (hpre 3 (by kernel_rfl))
        have hc := TW.nd.L
        go_simp
        exact ⟨u0, u1, u2, _, _, u5, u6, u7, u8, u9, u10, u12, u14, rfl, TF.set 4, TO.set 4 trivial, TW⟩
      | 5, _ =>
        simp at ho
        subst ho
        obtain rfl := TF.2.2.2.2.1 (hpre 4 (by kernel_rfl))
        have hu := HU1.out
        go_simp
        exact ⟨u0, u1, u2, u3, _, _, u6, u7, u8, u9, u10, u12, u14, rfl, TF.set 5, TO.set 5 trivial, TW⟩
      | 6, _ =>
        simp at ho
        subst ho
        go_simp
        exact ⟨u0, u1, u2, u3, u4, u5, _, u7, u8, u9, u10, u12, u14, rfl, TF.set 6, TO.set 6 trivial, TW⟩
      | 7, _ =>
        simp at ho
        subst ho
        obtain rfl := TF.2.2.2.2.2.2.1 (hpre 6 (by kernel_rfl))
        go_simp
        exact ⟨u0, u1, u2, u3, u4, u5, _, _, u8, u9, u10, u12, u14, rfl, TF.set 7, TO.set 7 trivial, TW⟩
      | 8, _ =>
        simp at ho
        subst ho
        obtain rfl := TF.2.2.2.2.2.2.2.1 (hpre 7 (by kernel_rfl))
        have hc := TW.nd.c
        go_simp
        exact ⟨u0, u1, u2, u3, u4, u5, u6, _, _, u9, u10, u12, u14, rfl, TF.set 8, TO.set 8 trivial, TW⟩
      | 9, _ =>
        simp at ho
        subst ho
        obtain rfl := TF.2.2.2.2.2.2.2.2.1 (hpre 8 (by kernel_rfl))
        have hu := HU2.out
        go_simp
        exact ⟨u0, u1, u2, u3, u4, u5, u6, u7, _, _, u10, u12, u14, rfl, TF.set 9, TO.set 9 trivial, TW⟩
      | 10, _ =>
        simp at ho
        subst ho
        go_simp
        exact ⟨u0, u1, u2, u3, u4, u5, u6, u7, u8, u9, _, u12, u14, rfl, TF.set 10, TO.set 10 trivial, TW⟩
      | 11, _ =>
        simp at ho
        subst ho
        obtain rfl := TF.2.2.1 (hpre 2 (by kernel_rfl))
        obtain rfl := TF.2.2.2.2.2.2.2.2.2.2.1 (hpre 10 (by kernel_rfl))
        have hw := TW
        rw [hL] at hw
        have hc := hw.row.cell (j := 0) (by omega)
        have hf := hw.row.free 0
        rw [Nat.zero_add] at hc
        go_simp
        exact ⟨u0, u1, _, u3, u4, u5, u6, u7, u8, u9, _, u12, u14, rfl, TF.set 11, TO.set 11 trivial, (hw.byte (by omega) _ (f3_0 _ _ _))⟩
      | 12, _ =>
        simp at ho
        subst ho
        go_simp
        exact ⟨u0, u1, u2, u3, u4, u5, u6, u7, u8, u9, u10, _, u14, rfl, TF.set 12, TO.set 12 trivial, TW⟩
      | 13, _ =>
        simp at ho
        subst ho
        obtain rfl := TF.2.2.2.2.2.1 (hpre 5 (by kernel_rfl))
        obtain rfl := TF.2.2.2.2.2.2.2.2.2.2.2.1 (hpre 12 (by kernel_rfl))
        have hw := TW
        rw [hL] at hw
        have hc := hw.row.cell (j := 1) (by omega)
        have hf := hw.row.free 1
        rw [Nat.zero_add] at hc
        go_simp
        exact ⟨u0, u1, u2, u3, u4, _, u6, u7, u8, u9, u10, _, u14, rfl, TF.set 13, TO.set 13 trivial, (hw.byte (by omega) _ (f3_1 _ _ _))⟩
      | 14, _ =>
        simp at ho
        subst ho
        go_simp
        exact ⟨u0, u1, u2, u3, u4, u5, u6, u7, u8, u9, u10, u12, _, rfl, TF.set 14, TO.set 14 trivial, TW⟩
      | 15, _ =>
        simp at ho
        subst ho
        obtain rfl := TF.2.2.2.2.2.2.2.2.2.1 (hpre 9 (by kernel_rfl))
        obtain rfl := TF.2.2.2.2.2.2.2.2.2.2.2.2.1 (hpre 14 (by kernel_rfl))
        have hw := TW
        rw [hL] at hw
        have hc := hw.row.cell (j := 2) (by omega)
        have hf := hw.row.free 2
        rw [Nat.zero_add] at hc
        go_simp
        exact ⟨u0, u1, u2, u3, u4, u5, u6, u7, u8, _, u10, u12, _, rfl, TF.set 15, TO.set 15 trivial, (hw.byte (by omega) _ (f3_2 _ _ _))⟩
      | i + 16, h => omega
    case fin =>
      rintro L a' w' hall ⟨u0, u1, u2, u3, u4, u5, u6, u7, u8, u9, u10, u12, u14, rfl, TF, TO, hWD⟩
      rw [hall 11 (by omega), hall 13 (by omega), hall 15 (by omega)] at hWD
      clear TF TO
      refine wpList_nil ?_
      have HS2 := Lib.hid hWD
      clear hWD HS1 HU0 HU1 HU2
      go_wp2_with fail
      refine QuietTail2.regionInv (n := 5) (Inv := Rp5Inv _ _ _ _ _ _ _ _ _ _ _ _ _ _ _ _ _ _ _ _ _ _ _ _ _ w n (f3 n true true true) (Wd.putF 64 4 4 n.z (f3 n true true true))) (by kernel_rfl) (by decide) (by kernel_rfl) ⟨_, _, _, _, _, rfl, Fa.none _, Od.none _, ?_⟩ ?step ?fin
      exact HS2.out.below (drawn_below _)
      case step =>
        rintro i o hi ho L a' w' ⟨u0, u1, u2, u3, u4, rfl, TF, TO, TW⟩ hL hpre
        match i, hi with
        | 0, _ =>
          simp at ho
          subst ho
          go_simp
          exact ⟨_, u1, u2, u3, u4, rfl, TF.set 0, TO.set 0 trivial, TW⟩
        | 1, _ =>
          simp at ho
          subst ho
          go_simp
          exact ⟨u0, _, u2, u3, u4, rfl, TF.set 1, TO.set 1 trivial, TW⟩
        | 2, _ =>
          simp at ho
          subst ho
          obtain rfl := TF.2.1 (hpre 1 (by kernel_rfl))
          go_simp
          exact ⟨u0, _, _, u3, u4, rfl, TF.set 2, TO.set 2 trivial, TW⟩
        | 3, _ =>
          simp at ho
          subst ho
          obtain rfl := TF.2.2.1 (hpre 2 (by kernel_rfl))
          have hc := TW.nd.z
          go_simp
          exact ⟨u0, u1, _, _, u4, rfl, TF.set 3, TO.set 3 trivial, TW⟩
        | 4, _ =>
          simp at ho
          subst ho
          obtain rfl := TF.1 (hpre 0 (by kernel_rfl))
          obtain rfl := TF.2.2.2.1 (hpre 3 (by kernel_rfl))
          have hw := TW
          rw [hL] at hw
          go_simp
          refine (HP2.out w' hw.own).mono ?_
          rintro _ w'' ⟨rfl, hO, hW⟩
          exact ⟨_, u1, u2, _, _, rfl, TF.set 4, TO.set 4 trivial, (hw.only hO hW)⟩
        | i + 5, h => omega
      case fin =>
        rintro L a' w' hall ⟨u0, u1, u2, u3, u4, rfl, TF, TO, hWD⟩
        rw [hall 4 (by omega)] at hWD
        clear TF TO
        refine wpList_nil ?_
        have HS3 := Lib.hid hWD
        clear hWD HS2 HP2
        go_wp2_with fail
        refine QuietTail2.regionInv (n := 5) (Inv := Rp6Inv _ _ _ _ _ _ _ _ _ _ _ _ _ _ _ _ _ _ _ _ _ _ _ _ _ w n (Wd.putF 64 4 4 n.z (f3 n true true true)) (rF n)) (by kernel_rfl) (by decide) (by kernel_rfl) ⟨_, _, _, _, _, rfl, Fa.none _, Od.none _, ?_⟩ ?step ?fin
        exact HS3.out.below (drawn_below _)
        case step =>
          rintro i o hi ho L a' w' ⟨u0, u1, u2, u3, u4, rfl, TF, TO, TW⟩ hL hpre
          match i, hi with
          | 0, _ =>
            simp at ho
            subst ho
            go_simp
            exact ⟨_, u1, u2, u3, u4, rfl, TF.set 0, TO.set 0 trivial, TW⟩
          | 1, _ =>
            simp at ho
            subst ho
            go_simp
            exact ⟨u0, _, u2, u3, u4, rfl, TF.set 1, TO.set 1 trivial, TW⟩
          | 2, _ =>
            simp at ho
            subst ho
            obtain rfl := TF.2.1 (hpre 1 (by kernel_rfl))
            go_simp
            exact ⟨u0, _, _, u3, u4, rfl, TF.set 2, TO.set 2 trivial, TW⟩
          | 3, _ =>
            simp at ho
            subst ho
            obtain rfl := TF.2.2.1 (hpre 2 (by kernel_rfl))
            refine wp_load_mid 24 (.tmp 29) rfl w.heap.size 3 rfl (pV n.p) _ TW.nd.pt undP rfl (sizeP _) ?_
            simp only [Act.put, List.setIfInBounds_toArray, List.set_cons_succ, List.set_cons_zero]
            exact ⟨u0, u1, _, _, u4, rfl, TF.set 3, TO.set 3 trivial, TW⟩
          | 4, _ =>
            simp at ho
            subst ho
            obtain rfl := TF.1 (hpre 0 (by kernel_rfl))
            obtain rfl := TF.2.2.2.1 (hpre 3 (by kernel_rfl))
            have hw := TW
            rw [hL] at hw
            go_simp
            refine (HP5.out w' hw.own).mono ?_
            rintro _ w'' ⟨rfl, hO, hW⟩
            exact ⟨_, u1, u2, _, _, rfl, TF.set 4, TO.set 4 trivial, (hw.only hO hW)⟩
          | i + 5, h => omega
        case fin =>
          rintro L a' w' hall ⟨u0, u1, u2, u3, u4, rfl, TF, TO, hWD⟩
          rw [hall 4 (by omega)] at hWD
          clear TF TO
          refine wpList_nil ?_
          have hS4 := hWD.congr (f' := lyF n) fun i _ => HLY.out i
          have HS4 := Lib.hid hS4
          have hr3 := hS4.bytes
          have hx := hS4.res.row
          clear hWD HS3 HP5 hS4
          go_wp2_with (first | (refine wpList_load_mid rfl 30 (.tmp 4) rfl (w.heap.size + 2) 0 rfl ((b64 (lyF n)).toList) _ (by exact hr3) und64 rfl (by rw [Array.length_toList]; exact size64 _) ?_; simp only [Act.put, List.setIfInBounds_toArray, List.set_cons_succ, List.set_cons_zero, Array.toArray_toList]) | (refine @wpList_store_row _ _ _ _ _ _ _ rfl 30 (.tmp 2) (.tmp 32) rfl (w.heap.size + 1) (b64 (lyF n)) rfl rfl 30 _ hx (size64 _) (by simp only [b64_size]) (b64_all _) ?_; simp only [Act.put]))
          refine bodyPost_ret (results_2b rfl rfl rfl (setRow_heap _ _ _ _ _ _ hx)) rfl ?_
          exact ⟨rfl, below_row HS4.out.bel (by omega) _⟩
end In
end Go.Proofs.Ytnmljjehkdbbjaa
