/- inode: Put, New, Stat, the program's (made by tools/gen_inf.py). -/
import Derived.Test.YtnmljjehkdbbjaaInE
namespace Go.Proofs.Ytnmljjehkdbbjaa
set_option maxRecDepth 20000
namespace In
open Go.RowKit Dk Eqb Byt Pt

def ptF (n : Nd) : Nat → Int := if rtB n = true then lyF n else fun _ => 0
def ptE (n : Nd) : Int := if rtB n = true then 0 else 1
theorem results_2b {tmps : Array Value} {w : World} {B : Nat} {g : Nat → Int} {e : Int} {fn : Func} {s r : Nat} (hf : fn.results = #[.cell s 30, .tmp r]) (h4 : tmps.getD s undef = .pointer (some ⟨B, 0, none⟩)) (h5 : tmps.getD r undef = .int .i64 e)
    (kV : w.heap[B]? = some (.cells (b64 g) 30 (0, 0))) : (results fn tmps).run Try.prog w = .ok (.tuple #[.agg (b64 g), .int .i64 e]) w := by
  have h4' : tmps[s]?.getD undef = .pointer (some ⟨B, 0, none⟩) := by simpa using h4
  have h5' : tmps[r]?.getD undef = .int .i64 e := by simpa using h5
  have hv := run_loadVar_row (P := Try.prog) w B 30 30 (b64 g) (0, 0) _ kV und64 rfl (size64 g)
  simp [results, hf, h4', h5', asAddr, hv]
theorem boxnb (w : World) (n : Nd) (f : Nat → Int) : ∃ W, W = (w.alloc (.cells (nV n).toArray 28)).alloc (.cells (b64 f) 30) ∧ Below w.heap.size w W ∧ W.heap.size = w.heap.size + 2 ∧ Bn W w.heap.size n ∧ Bb W (w.heap.size + 1) f := by
  obtain ⟨W1, h1, b1, x1, s1⟩ : ∃ W, W = w.alloc (.cells (nV n).toArray 28) ∧ Below w.heap.size w W ∧ Bn W w.heap.size n ∧ W.heap.size = w.heap.size + 1 := ⟨_, rfl, bn_new w n⟩
  obtain ⟨W2, h2, b2, x2, s2⟩ : ∃ W, W = W1.alloc (.cells (b64 f) 30) ∧ Below W1.heap.size W1 W ∧ Bb W W1.heap.size f ∧ W.heap.size = W1.heap.size + 1 := ⟨_, rfl, bb_new W1 _⟩
  refine ⟨W2, by rw [h2, h1], b1.trans (b2.mono (by omega)), by omega, x1.keep (b2.block _ (by omega)), ?_⟩
  rw [← s1]
  exact x2
theorem below_row {b : Nat} {w w' : World} (h : Below w.heap.size w w') (hb : w.heap.size ≤ b) (cs : Array Value) : Below w.heap.size w (w'.setRow b cs) := h.grown (grown_row cs) h.size (fun j hj => by cases hj; exact hb)
set_option maxRecDepth 100000 in
set_option maxHeartbeats 2000000 in
theorem put_any (n : Nd) (w : World) : Calls Try.prog 8 #[.agg (nV n).toArray] w fun e w' => e = .returned (.tuple #[.agg (b64 (ptF n)), .int .i64 (ptE n)]) ∧ Below w.heap.size w w' := by
  obtain ⟨W, hW, hb0, hs0, hx0, hx1⟩ := boxnb w n fun _ => 0
  have HR := Lib.hid (fun W => right_any n W)
  cases hr : rtB n with
  | false =>
    have h1 : ptF n = fun _ => 0 := by unfold ptF; rw [hr]; rfl
    have h2 : ptE n = 1 := by unfold ptE; rw [hr]; rfl
    rw [h1, h2]
    rw [hr] at HR
    clear h1 h2
    go_enter Try.func8, Try.ntmps8
    go_upto_region 1 with fail
    rw [z64, ← hW]
    have hal := hx0.all
    clear hW
    go_wp2_with (first | (refine wpList_load_mid rfl 28 (.tmp 1) rfl (w.heap.size) 0 rfl (nV n) _ (by exact hal) undN rfl (sizeN _) ?_; simp only [Act.put, List.setIfInBounds_toArray, List.set_cons_succ, List.set_cons_zero]))
    refine (HR.out W).mono ?_
    rintro _ w1 ⟨rfl, hb1⟩
    have hx := (hx1.keep (hb1.block _ (by omega))).row
    have hB := hb0.trans (hb1.mono hb0.size)
    have hal := (hx0.keep (hb1.block _ (by omega))).all
    clear HR hb1 hb0 hx0 hx1
    dsimp only
    go_wp2_with (first | (refine @wpList_buildG _ _ _ _ _ _ _ (by kernel_rfl) 30 #[] rfl (b64 fun _ => 0) (by kernel_rfl) ?_; simp only [Act.put, List.setIfInBounds_toArray, List.set_cons_succ, List.set_cons_zero]) | (refine @wpList_store_row _ _ _ _ _ _ _ rfl 30 (.tmp 2) (.tmp 7) rfl (w.heap.size + 1) (b64 (fun _ => 0)) rfl rfl 30 _ hx (size64 _) (by simp only [b64_size]) (b64_all _) ?_; simp only [Act.put]))
    refine bodyPost_ret (results_2b rfl rfl rfl (setRow_heap _ _ _ _ _ _ hx)) rfl ?_
    exact ⟨rfl, below_row hB (by omega) _⟩
  | true =>
    have h1 : ptF n = lyF n := by unfold ptF; rw [hr]; rfl
    have h2 : ptE n = 0 := by unfold ptE; rw [hr]; rfl
    rw [h1, h2]
    have HL := Lib.hid (fun W => lay_any n hr W)
    rw [hr] at HR
    clear h1 h2
    go_enter Try.func8, Try.ntmps8
    go_upto_region 1 with fail
    rw [z64, ← hW]
    have hal := hx0.all
    clear hW
    go_wp2_with (first | (refine wpList_load_mid rfl 28 (.tmp 1) rfl (w.heap.size) 0 rfl (nV n) _ (by exact hal) undN rfl (sizeN _) ?_; simp only [Act.put, List.setIfInBounds_toArray, List.set_cons_succ, List.set_cons_zero]))
    refine (HR.out W).mono ?_
    rintro _ w1 ⟨rfl, hb1⟩
    have hx := hx1.keep (hb1.block _ (by omega))
    have hB := hb0.trans (hb1.mono hb0.size)
    have hal := (hx0.keep (hb1.block _ (by omega))).all
    have hs1 := hb1.size
    clear HR hb1 hb0 hx0 hx1
    dsimp only
    go_wp2_with (first | (refine wpList_load_mid rfl 28 (.tmp 1) rfl (w.heap.size) 0 rfl (nV n) _ (by exact hal) undN rfl (sizeN _) ?_; simp only [Act.put, List.setIfInBounds_toArray, List.set_cons_succ, List.set_cons_zero]))
    refine (HL.out w1).mono ?_
    rintro _ w2 ⟨rfl, hb2⟩
    have hx := (hx.keep (hb2.block _ (by omega))).row
    have hB := hB.trans (hb2.mono hB.size)
    clear HL hb2 hal
    dsimp only
    go_wp2_with (first | (refine @wpList_store_row _ _ _ _ _ _ _ rfl 30 (.tmp 2) (.tmp 9) rfl (w.heap.size + 1) (b64 (lyF n)) rfl rfl 30 _ hx (size64 _) (by simp only [b64_size]) (b64_all _) ?_; simp only [Act.put]))
    refine bodyPost_ret (results_2b rfl rfl rfl (setRow_heap _ _ _ _ _ _ hx)) rfl ?_
    exact ⟨rfl, below_row hB (by omega) _⟩
/-- a new node -/
def nwN (N K : Int) : Nd := ⟨N, K, 0, hole, 0, if K = 1 then 1 else 2⟩
def nwR (N K : Int) : Nd := if rtB (nwN N K) = true then nwN N K else nz
def nwE (N K : Int) : Int := if rtB (nwN N K) = true then 0 else 1
theorem box1 (w : World) (n : Nd) : ∃ W, W = w.alloc (.cells (nV n).toArray 28) ∧ Below w.heap.size w W ∧ Bn W w.heap.size n ∧ W.heap.size = w.heap.size + 1 := ⟨_, rfl, bn_new w n⟩
set_option maxRecDepth 100000 in
set_option maxHeartbeats 4000000 in
theorem new_any (N K : Int) (w : World) : Calls Try.prog 16 #[.int .i64 N, .int .i64 K] w fun e w' => e = .returned (.tuple #[.agg (nV (nwR N K)).toArray, .int .i64 (nwE N K)]) ∧ Below w.heap.size w w' := by
  obtain ⟨W, hW, hb0, hx0, hs0⟩ := box1 w nz
  have HH := Lib.hid (fun W => hole_any W)
  have HR := Lib.hid (fun W => right_any (nwN N K) W)
  obtain ⟨r, hr⟩ : ∃ r, rtB (nwN N K) = r := ⟨_, rfl⟩
  have HV : Hid (nwR N K = (if r = true then nwN N K else nz) ∧ nwE N K = if r = true then 0 else 1) := Lib.hid (by unfold nwR nwE; rw [hr]; exact ⟨rfl, rfl⟩)
  rw [hr] at HR
  rw [HV.out.1, HV.out.2]
  clear HV hr
  go_enter Try.func16, Try.ntmps16
  go_upto_region 1 with fail
  rw [znode, ← hW]
  clear hW
  go_wp2_with fail
  refine (HH.out W).mono ?_
  rintro _ w1 ⟨rfl, hb1⟩
  have hx1 := hx0.keep (hb1.block _ (by omega))
  have hB1 := hb0.trans (hb1.mono hb0.size)
  have hs1 := hb1.size
  obtain ⟨w2, hW2, hb2, hx2, hs2⟩ := box1 w1 ⟨N, K, 0, hole, 0, 2⟩
  clear HH hb1 hb0 hx0
  dsimp only
  go_upto_region 2 with (first | (refine wpList_buildL rfl 26 [(0, .tmp 9), (2, .const (.int .i64 2))] rfl _ rfl [(0, .agg (pV hole).toArray), (2, .int .i64 2)] (by rfl) _ (builtS _ _) ?_; simp only [Act.put, List.setIfInBounds_toArray, List.set_cons_succ, List.set_cons_zero]) | (refine wpList_buildL rfl 28 [(0, .tmp 7), (1, .tmp 8), (3, .tmp 10)] rfl _ rfl [(0, .int .i64 N), (1, .int .i64 K), (3, .agg (sV hole 0 2).toArray)] (by rfl) _ (builtN _ _ _ _ _) ?_; simp only [Act.put, List.setIfInBounds_toArray, List.set_cons_succ, List.set_cons_zero]) | (refine @wpList_store_row _ _ _ _ _ _ _ rfl 28 (.tmp 6) (.tmp 11) rfl (w1.heap.size) ((nV ⟨N, K, 0, hole, 0, 2⟩).toArray) rfl rfl 28 _ (heap_alloc_new w1 _) (sizeN' _) rfl (nV_all _) ?_; simp only [Act.put]; rw [World.setRow_alloc_new]))
  rw [← hW2]
  have hB2 := hB1.trans (hb2.mono hB1.size)
  have hy2 := hx1.keep (hb2.block _ (by omega))
  clear hW2 hx1 hb2 hB1
  have hK : ∃ w3, w3 = (if K = 1 then w2.setCell ⟨w1.heap.size, 38, none⟩ (.int .i64 1) else w2) ∧ Bn w3 w1.heap.size (nwN N K) ∧ Bn w3 w.heap.size nz ∧ Below w.heap.size w w3 := by
    refine ⟨_, rfl, ?_⟩
    by_cases h : K = 1
    · subst h
      rw [if_pos rfl]
      exact ⟨bn_set hx2 38 _ _ (set_c _ _), hy2.keep ((grown_setCell _ _ _ _).block _ hy2.lt (by simp; omega)), hB2.grown (grown_setCell _ _ _ _) hB2.size (fun j hj => by cases hj; omega)⟩
    · rw [if_neg h]
      refine ⟨?_, hy2, hB2⟩
      unfold nwN
      rw [if_neg h]
      exact hx2
  obtain ⟨w3, hw3, hn3, hz3, hB3⟩ := hK
  generalize w1.heap.size = b1 at *
  have hcc := hx2.c
  have hff := hx2.free 38
  have hal := hn3.all
  by_cases h1 : K = 1
  · subst h1
    rw [if_pos rfl] at hw3
    go_upto_region 4 with fail
    rw [← hw3]
    clear hw3 hx2 hy2 hcc hff hB2 hs2
    go_wp2_with (first | (refine wpList_load_mid rfl 28 (.tmp 6) rfl (b1) 0 rfl (nV (nwN N 1)) _ (by exact hal) undN rfl (sizeN _) ?_; simp only [Act.put, List.setIfInBounds_toArray, List.set_cons_succ, List.set_cons_zero]))
    refine (HR.out w3).mono ?_
    rintro _ w4 ⟨rfl, hb4⟩
    have hz4 := (hz3.keep (hb4.block _ hz3.lt)).row
    have hn4 := (hn3.keep (hb4.block _ hn3.lt)).all
    have hB4 := hB3.trans (hb4.mono hB3.size)
    clear HR hb4 hz3 hn3 hal hB3
    dsimp only
    cases r with
    | false =>
      go_wp2_with (first | (refine @wpList_buildG _ _ _ _ _ _ _ (by kernel_rfl) 28 #[] rfl (nV nz).toArray (by kernel_rfl) ?_; simp only [Act.put, List.setIfInBounds_toArray, List.set_cons_succ, List.set_cons_zero]) | (refine @wpList_store_row _ _ _ _ _ _ _ rfl 28 (.tmp 4) (.tmp 19) rfl (w.heap.size) ((nV nz).toArray) rfl rfl 28 _ hz4 (sizeN' _) rfl (nV_all _) ?_; simp only [Act.put]))
      refine bodyPost_ret (results_2n rfl rfl rfl (setRow_heap _ _ _ _ _ _ hz4)) rfl ?_
      exact ⟨rfl, below_row hB4 (by omega) _⟩
    | true =>
      go_wp2_with (first | (refine wpList_load_mid rfl 28 (.tmp 6) rfl (b1) 0 rfl (nV (nwN N 1)) _ (by exact hn4) undN rfl (sizeN _) ?_; simp only [Act.put, List.setIfInBounds_toArray, List.set_cons_succ, List.set_cons_zero]) | (refine @wpList_store_row _ _ _ _ _ _ _ rfl 28 (.tmp 4) (.tmp 20) rfl (w.heap.size) ((nV (nwN N 1)).toArray) rfl rfl 28 _ hz4 (sizeN' _) rfl (nV_all _) ?_; simp only [Act.put]))
      refine bodyPost_ret (results_2n rfl rfl rfl (setRow_heap _ _ _ _ _ _ hz4)) rfl ?_
      exact ⟨rfl, below_row hB4 (by omega) _⟩
  · have hk : (K == 1) = false := beq_eq_false_iff_ne.2 h1
    rw [if_neg h1] at hw3
    subst hw3
    clear h1
    go_upto_region 4 with fail
    clear hx2 hy2 hcc hff hB2 hs2
    go_wp2_with (first | (refine wpList_load_mid rfl 28 (.tmp 6) rfl (b1) 0 rfl (nV (nwN N K)) _ (by exact hal) undN rfl (sizeN _) ?_; simp only [Act.put, List.setIfInBounds_toArray, List.set_cons_succ, List.set_cons_zero]))
    refine (HR.out w3).mono ?_
    rintro _ w4 ⟨rfl, hb4⟩
    have hz4 := (hz3.keep (hb4.block _ hz3.lt)).row
    have hn4 := (hn3.keep (hb4.block _ hn3.lt)).all
    have hB4 := hB3.trans (hb4.mono hB3.size)
    clear HR hb4 hz3 hn3 hal hB3
    dsimp only
    cases r with
    | false =>
      go_wp2_with (first | (refine @wpList_buildG _ _ _ _ _ _ _ (by kernel_rfl) 28 #[] rfl (nV nz).toArray (by kernel_rfl) ?_; simp only [Act.put, List.setIfInBounds_toArray, List.set_cons_succ, List.set_cons_zero]) | (refine @wpList_store_row _ _ _ _ _ _ _ rfl 28 (.tmp 4) (.tmp 19) rfl (w.heap.size) ((nV nz).toArray) rfl rfl 28 _ hz4 (sizeN' _) rfl (nV_all _) ?_; simp only [Act.put]))
      refine bodyPost_ret (results_2n rfl rfl rfl (setRow_heap _ _ _ _ _ _ hz4)) rfl ?_
      exact ⟨rfl, below_row hB4 (by omega) _⟩
    | true =>
      go_wp2_with (first | (refine wpList_load_mid rfl 28 (.tmp 6) rfl (b1) 0 rfl (nV (nwN N K)) _ (by exact hn4) undN rfl (sizeN _) ?_; simp only [Act.put, List.setIfInBounds_toArray, List.set_cons_succ, List.set_cons_zero]) | (refine @wpList_store_row _ _ _ _ _ _ _ rfl 28 (.tmp 4) (.tmp 20) rfl (w.heap.size) ((nV (nwN N K)).toArray) rfl rfl 28 _ hz4 (sizeN' _) rfl (nV_all _) ?_; simp only [Act.put]))
      refine bodyPost_ret (results_2n rfl rfl rfl (setRow_heap _ _ _ _ _ _ hz4)) rfl ?_
      exact ⟨rfl, below_row hB4 (by omega) _⟩
set_option maxRecDepth 100000 in
set_option maxHeartbeats 4000000 in
theorem refnew_any (N K : Int) (w : World) : Calls Try.prog 17 #[.int .i64 N, .int .i64 K] w fun e w' => e = .returned (.tuple #[.agg (nV (nwR N K)).toArray, .int .i64 (nwE N K)]) ∧ Below w.heap.size w w' := by
  obtain ⟨W, hW, hb0, hx0, hs0⟩ := box1 w nz
  have HH := Lib.hid (fun W => refhole_any W)
  have HR := Lib.hid (fun W => refright_any (nwN N K) W)
  obtain ⟨r, hr⟩ : ∃ r, rtB (nwN N K) = r := ⟨_, rfl⟩
  have HV : Hid (nwR N K = (if r = true then nwN N K else nz) ∧ nwE N K = if r = true then 0 else 1) := Lib.hid (by unfold nwR nwE; rw [hr]; exact ⟨rfl, rfl⟩)
  rw [hr] at HR
  rw [HV.out.1, HV.out.2]
  clear HV hr
  go_enter Try.func17, Try.ntmps17
  go_upto_region 1 with fail
  rw [znode, ← hW]
  clear hW
  go_wp2_with fail
  refine (HH.out W).mono ?_
  rintro _ w1 ⟨rfl, hb1⟩
  have hx1 := hx0.keep (hb1.block _ (by omega))
  have hB1 := hb0.trans (hb1.mono hb0.size)
  have hs1 := hb1.size
  obtain ⟨w2, hW2, hb2, hx2, hs2⟩ := box1 w1 ⟨N, K, 0, hole, 0, 2⟩
  clear HH hb1 hb0 hx0
  dsimp only
  go_upto_region 2 with (first | (refine wpList_buildL rfl 26 [(0, .tmp 9), (2, .const (.int .i64 2))] rfl _ rfl [(0, .agg (pV hole).toArray), (2, .int .i64 2)] (by rfl) _ (builtS _ _) ?_; simp only [Act.put, List.setIfInBounds_toArray, List.set_cons_succ, List.set_cons_zero]) | (refine wpList_buildL rfl 28 [(0, .tmp 7), (1, .tmp 8), (3, .tmp 10)] rfl _ rfl [(0, .int .i64 N), (1, .int .i64 K), (3, .agg (sV hole 0 2).toArray)] (by rfl) _ (builtN _ _ _ _ _) ?_; simp only [Act.put, List.setIfInBounds_toArray, List.set_cons_succ, List.set_cons_zero]) | (refine @wpList_store_row _ _ _ _ _ _ _ rfl 28 (.tmp 6) (.tmp 11) rfl (w1.heap.size) ((nV ⟨N, K, 0, hole, 0, 2⟩).toArray) rfl rfl 28 _ (heap_alloc_new w1 _) (sizeN' _) rfl (nV_all _) ?_; simp only [Act.put]; rw [World.setRow_alloc_new]))
  rw [← hW2]
  have hB2 := hB1.trans (hb2.mono hB1.size)
  have hy2 := hx1.keep (hb2.block _ (by omega))
  clear hW2 hx1 hb2 hB1
  have hK : ∃ w3, w3 = (if K = 1 then w2.setCell ⟨w1.heap.size, 38, none⟩ (.int .i64 1) else w2) ∧ Bn w3 w1.heap.size (nwN N K) ∧ Bn w3 w.heap.size nz ∧ Below w.heap.size w w3 := by
    refine ⟨_, rfl, ?_⟩
    by_cases h : K = 1
    · subst h
      rw [if_pos rfl]
      exact ⟨bn_set hx2 38 _ _ (set_c _ _), hy2.keep ((grown_setCell _ _ _ _).block _ hy2.lt (by simp; omega)), hB2.grown (grown_setCell _ _ _ _) hB2.size (fun j hj => by cases hj; omega)⟩
    · rw [if_neg h]
      refine ⟨?_, hy2, hB2⟩
      unfold nwN
      rw [if_neg h]
      exact hx2
  obtain ⟨w3, hw3, hn3, hz3, hB3⟩ := hK
  generalize w1.heap.size = b1 at *
  have hcc := hx2.c
  have hff := hx2.free 38
  have hal := hn3.all
  by_cases h1 : K = 1
  · subst h1
    rw [if_pos rfl] at hw3
    go_upto_region 4 with fail
    rw [← hw3]
    clear hw3 hx2 hy2 hcc hff hB2 hs2
    go_wp2_with (first | (refine wpList_load_mid rfl 28 (.tmp 6) rfl (b1) 0 rfl (nV (nwN N 1)) _ (by exact hal) undN rfl (sizeN _) ?_; simp only [Act.put, List.setIfInBounds_toArray, List.set_cons_succ, List.set_cons_zero]))
    refine (HR.out w3).mono ?_
    rintro _ w4 ⟨rfl, hb4⟩
    have hz4 := (hz3.keep (hb4.block _ hz3.lt)).row
    have hn4 := (hn3.keep (hb4.block _ hn3.lt)).all
    have hB4 := hB3.trans (hb4.mono hB3.size)
    clear HR hb4 hz3 hn3 hal hB3
    dsimp only
    cases r with
    | false =>
      go_wp2_with (first | (refine @wpList_buildG _ _ _ _ _ _ _ (by kernel_rfl) 28 #[] rfl (nV nz).toArray (by kernel_rfl) ?_; simp only [Act.put, List.setIfInBounds_toArray, List.set_cons_succ, List.set_cons_zero]) | (refine @wpList_store_row _ _ _ _ _ _ _ rfl 28 (.tmp 4) (.tmp 19) rfl (w.heap.size) ((nV nz).toArray) rfl rfl 28 _ hz4 (sizeN' _) rfl (nV_all _) ?_; simp only [Act.put]))
      refine bodyPost_ret (results_2n rfl rfl rfl (setRow_heap _ _ _ _ _ _ hz4)) rfl ?_
      exact ⟨rfl, below_row hB4 (by omega) _⟩
    | true =>
      go_wp2_with (first | (refine wpList_load_mid rfl 28 (.tmp 6) rfl (b1) 0 rfl (nV (nwN N 1)) _ (by exact hn4) undN rfl (sizeN _) ?_; simp only [Act.put, List.setIfInBounds_toArray, List.set_cons_succ, List.set_cons_zero]) | (refine @wpList_store_row _ _ _ _ _ _ _ rfl 28 (.tmp 4) (.tmp 20) rfl (w.heap.size) ((nV (nwN N 1)).toArray) rfl rfl 28 _ hz4 (sizeN' _) rfl (nV_all _) ?_; simp only [Act.put]))
      refine bodyPost_ret (results_2n rfl rfl rfl (setRow_heap _ _ _ _ _ _ hz4)) rfl ?_
      exact ⟨rfl, below_row hB4 (by omega) _⟩
  · have hk : (K == 1) = false := beq_eq_false_iff_ne.2 h1
    rw [if_neg h1] at hw3
    subst hw3
    clear h1
    go_upto_region 4 with fail
    clear hx2 hy2 hcc hff hB2 hs2
    go_wp2_with (first | (refine wpList_load_mid rfl 28 (.tmp 6) rfl (b1) 0 rfl (nV (nwN N K)) _ (by exact hal) undN rfl (sizeN _) ?_; simp only [Act.put, List.setIfInBounds_toArray, List.set_cons_succ, List.set_cons_zero]))
    refine (HR.out w3).mono ?_
    rintro _ w4 ⟨rfl, hb4⟩
    have hz4 := (hz3.keep (hb4.block _ hz3.lt)).row
    have hn4 := (hn3.keep (hb4.block _ hn3.lt)).all
    have hB4 := hB3.trans (hb4.mono hB3.size)
    clear HR hb4 hz3 hn3 hal hB3
    dsimp only
    cases r with
    | false =>
      go_wp2_with (first | (refine @wpList_buildG _ _ _ _ _ _ _ (by kernel_rfl) 28 #[] rfl (nV nz).toArray (by kernel_rfl) ?_; simp only [Act.put, List.setIfInBounds_toArray, List.set_cons_succ, List.set_cons_zero]) | (refine @wpList_store_row _ _ _ _ _ _ _ rfl 28 (.tmp 4) (.tmp 19) rfl (w.heap.size) ((nV nz).toArray) rfl rfl 28 _ hz4 (sizeN' _) rfl (nV_all _) ?_; simp only [Act.put]))
      refine bodyPost_ret (results_2n rfl rfl rfl (setRow_heap _ _ _ _ _ _ hz4)) rfl ?_
      exact ⟨rfl, below_row hB4 (by omega) _⟩
    | true =>
      go_wp2_with (first | (refine wpList_load_mid rfl 28 (.tmp 6) rfl (b1) 0 rfl (nV (nwN N K)) _ (by exact hn4) undN rfl (sizeN _) ?_; simp only [Act.put, List.setIfInBounds_toArray, List.set_cons_succ, List.set_cons_zero]) | (refine @wpList_store_row _ _ _ _ _ _ _ rfl 28 (.tmp 4) (.tmp 20) rfl (w.heap.size) ((nV (nwN N K)).toArray) rfl rfl 28 _ hz4 (sizeN' _) rfl (nV_all _) ?_; simp only [Act.put]))
      refine bodyPost_ret (results_2n rfl rfl rfl (setRow_heap _ _ _ _ _ _ hz4)) rfl ?_
      exact ⟨rfl, below_row hB4 (by omega) _⟩
end In
end Go.Proofs.Ytnmljjehkdbbjaa
