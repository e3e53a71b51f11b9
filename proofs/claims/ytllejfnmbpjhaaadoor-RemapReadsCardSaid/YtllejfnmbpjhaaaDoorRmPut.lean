/- remap: Put. -/
import Derived.Test.YtllejfnmbpjhaaaDoorRmFind
import Derived.Test.YtllejfnmbpjhaaaDoorRmBytes
import Derived.Test.YtllejfnmbpjhaaaDoorDkRead
import Derived.Laws.CopyOwn
import Derived.IntWalk
import Derived.Deep.RegionHeld3
namespace Go.Proofs.YtllejfnmbpjhaaaDoor
set_option maxRecDepth 20000
namespace Rm
open Go.RowKit Dk Byt

attribute [local go_sem] zv29
attribute [local go_sem] zc29
/-- the step numbers stand where they stand -/
def Kp (w : World) : Prop := (∀ k, k < 64 → w.cell? ⟨0, k, none⟩ = some (.int .u32 (Sha.kT k))) ∧ 0 < w.heap.size
theorem Kp.below {w w' : World} (h : Kp w) (hb : Below w.heap.size w w') : Kp w' := ⟨fun k hk => (hb.cell (p := ⟨0, k, none⟩) h.2).trans (h.1 k hk), Nat.lt_of_lt_of_le h.2 hb.size⟩
theorem Kp.grown {w w' : World} {g : Nat} (h : Kp w) (hg : w.grownBy w' (some g)) (h0 : g ≠ 0) : Kp w' := ⟨fun k hk => (World.cell?_of_block (hg.block 0 h.2 (by simpa using fun e => h0 e.symm))).trans (h.1 k hk), Nat.lt_of_lt_of_le h.2 hg.size⟩

theorem row_splice {w' : World} {g : Nat} {f h : Nat → Int} {cur : Array Value} {ty : TypeId} (hz : ∀ j, j < 128 → cur[0 + j]? = some (.int .u8 (f j))) (hw : w'.heap[g]? = some (.cells (splice cur.toList 96 ((List.range 32).map fun j => Value.int .u8 (h j))).toArray ty (0, 0))) :
    Row w' g 0 128 (mix f 96 32 h) := by
  refine ⟨⟨_, ⟨_, hw⟩, fun j hj => ?_⟩⟩
  have hlen : 128 ≤ cur.size := by
    have := (Array.getElem?_eq_some_iff.1 (hz 127 (by omega))).1
    omega
  rw [Nat.zero_add, List.getElem?_toArray]
  unfold splice
  by_cases h1 : j < 96
  · rw [List.getElem?_append_left (by simp; omega), List.getElem?_take, if_pos h1, mix_out (by omega)]
    have := hz j hj
    rw [Nat.zero_add] at this
    simpa using this
  · rw [List.getElem?_append_right (by simp; omega), List.getElem?_append_left (by simp; omega), mix_in (by omega) (by omega)]
    have : j - (cur.toList.take 96).length = j - 96 := by simp; omega
    rw [this]
    simp [show j - 96 < 32 by omega]

theorem row_set {w : World} {f : Nat → Int} {t : TypeId} {j : Nat} {z : Int} : Row (w.alloc (.cells ((bl f).set j (.int .u8 z)).toArray t)) w.heap.size 0 128 (put f j z) :=
  ⟨⟨_, ⟨_, heap_alloc_new _ _⟩, fun i hi => by
    rw [Nat.zero_add, List.getElem?_toArray]
    unfold put
    by_cases e : i = j
    · subst e
      rw [if_pos rfl, List.getElem?_set_self (by rw [bl_length]; exact hi)]
    · rw [if_neg e, List.getElem?_set_ne (fun h => e h.symm), bl_get f hi]⟩⟩
theorem u8_size : (Tryd.prog.info? 5).map (·.size) = some 1 := by kernel_rfl
theorem bs_one (q : Nat → Int) : ∀ v ∈ (List.range 32).map fun j => Value.int .u8 (q j), v.oneCell' = true := by
  intro v hv
  simp only [List.mem_map] at hv
  obtain ⟨j, _, rfl⟩ := hv
  rfl
theorem results_pt {tmps : Array Value} {w : World} {B : Nat} {D : Nat → Int} {e : Int} {fn : Func} (hf : fn.results = #[.cell 4 22, .tmp 5]) (h4 : tmps.getD 4 undef = .pointer (some ⟨B, 0, none⟩)) (h5 : tmps.getD 5 undef = .int .i64 e)
    (kV : w.heap[B]? = some (.cells (bl D).toArray 22 (0, 0))) : (results fn tmps).run Tryd.prog w = .ok (.tuple #[.agg (bl D).toArray, .int .i64 e]) w := by
  have h4' : tmps[4]?.getD undef = .pointer (some ⟨B, 0, none⟩) := by simpa using h4
  have h5' : tmps[5]?.getD undef = .int .i64 e := by simpa using h5
  have hv := run_loadVar_row (P := Tryd.prog) w B 22 22 (bl D).toArray (0, 0) _ kV und29 rfl (size_bl' D)
  simp [results, hf, h4', h5', asAddr, hv]

theorem sha_lies {w : World} {g B : Nat} {f : Nat → Int} (hr : Row w g 0 128 f) (hB : g < B) : Sha.Lies w B (some ⟨g, 0, none⟩) 128 (tab 96 f) :=
  ⟨by simp, (fun e => by cases e), fun _ => ⟨g, 0, rfl, hB, fun i hi => by
    rw [tab_length] at hi
    rw [hr.cell (by omega), tab_getD 96 f hi]⟩⟩

set_option maxRecDepth 100000 in
set_option maxHeartbeats 4000000 in
theorem put_any (s gen : Int) (n : Nat) (F T : Nat → Int) (pa : Option Addr) (cap g : Nat) (w : World) (hl : Lay w w.heap.size g pa n cap 2 (prV F T)) (hn : n ≤ 140737488355328) (hF : ∀ i, i < n → i64 (F i) ∧ i64 (T i)) (hk : Kp w) :
    Calls Tryd.prog 23 #[.agg #[.int .i64 gen, .slice pa n cap], .int .i64 s] w fun e w' => e = .returned (.tuple #[.agg (bl (putV s gen n F T)).toArray, .int .i64 (putEr s gen n F T)]) ∧ Below w.heap.size w w' := by
  have HL := Lib.hid hl
  have HF := Lib.hid hF
  have HK := Lib.hid hk
  have HRI := Lib.hid (fun W hl => right_any s gen n F T pa cap g W hl hn hF)
  have HPR := Lib.hid (@right_parts s gen n F T)
  have HV : Hid (putV s gen n F T = if rightB s gen n F T then sealD (tabD gen n F T) else fun _ => 0) := Lib.hid rfl
  have HE : Hid (putEr s gen n F T = if rightB s gen n F T then 0 else 1) := Lib.hid rfl
  clear hl hF hk
  generalize putV s gen n F T = V at HV ⊢
  generalize putEr s gen n F T = E at HE ⊢
  generalize rightB s gen n F T = R at HRI HPR HV HE
  go_enter Tryd.func23, Tryd.ntmps23
  go_wp2_with fail
  generalize hW : (w.alloc (.cells #[.int .i64 gen, .slice pa n cap] 26)).alloc (.cells (bl fun _ => 0).toArray 22) = W
  have hB0 : Below w.heap.size w W := by rw [← hW]; exact ((Below.refl _ _).alloc (Nat.le_refl _) _).alloc (by simp) _
  have hx0 : W.heap[w.heap.size]? = some (.cells #[.int .i64 gen, .slice pa n cap] 26 (0, 0)) := by rw [← hW]; exact (Below.heap_alloc _ _ _ (by simp)).trans (heap_alloc_new w _)
  have hr0 : W.heap[w.heap.size + 1]? = some (.cells (bl fun _ => 0).toArray 22 (0, 0)) := by
    rw [← hW]
    have := heap_alloc_new (w.alloc (.cells #[.int .i64 gen, .slice pa n cap] 26)) (.cells (bl fun _ => 0).toArray 22)
    rwa [World.size_alloc] at this
  have hs0 : W.heap.size = w.heap.size + 2 := by rw [← hW]; simp
  clear hW
  refine (HRI.out W ((HL.out.below hB0).more (by omega))).mono ?_
  rintro _ w1 ⟨rfl, hB1⟩
  have hx1 := (hB1.block w.heap.size (by omega)).trans hx0
  have hr1 := (hB1.block (w.heap.size + 1) (by omega)).trans hr0
  have hs1 := hB1.size
  have hB : Below w.heap.size w w1 := hB0.trans (hB1.mono (by omega))
  clear hB0 hB1 hx0 hr0
  dsimp only
  cases R with
  | false =>
    have HV2 : Hid (V = fun _ => 0) := Lib.hid HV.out
    have HE2 : Hid (E = 1) := Lib.hid HE.out
    clear HV HE HPR HRI
    go_wp2_with (first
      | (refine wpList_buildTo rfl 22 #[] rfl _ rfl (bl fun _ => 0).toArray built29 ?_; simp only [Act.put, List.setIfInBounds_toArray, List.set_cons_succ, List.set_cons_zero])
      | (refine wpList_store_row rfl 22 (.tmp 4) (.tmp 15) rfl (w.heap.size + 1) (bl fun _ => 0).toArray rfl rfl 22 _ hr1 (size_bl' _) rfl (bl_all _) ?_; simp only [Act.put]))
    have hr2 := setRow_heap w1 (w.heap.size + 1) _ (bl fun _ => 0).toArray 22 (0, 0) hr1
    refine bodyPost_ret (results_pt rfl rfl rfl hr2) rfl ?_
    exact ⟨by rw [HV2.out, HE2.out], hB.trans ⟨rfl, rfl, rfl, by simp, fun k hk => setRow_other w1 _ k _ (by omega)⟩⟩
  | true =>
    obtain ⟨_, hg0, hg1, hn20, _⟩ := HPR.out rfl
    have HV2 : Hid (V = sealD (tabD gen n F T)) := Lib.hid HV.out
    have HE2 : Hid (E = 0) := Lib.hid HE.out
    clear HV HE HPR HRI
    have c0 : w1.cell? ⟨w.heap.size, 0, none⟩ = some (.int .i64 gen) := by rw [cell_of_row _ _ _ _ _ _ hx1]; rfl
    have c1 : w1.cell? ⟨w.heap.size, 1, none⟩ = some (.slice pa n cap) := by rw [cell_of_row _ _ _ _ _ _ hx1]; rfl
    go_wp2_with fail
    generalize hW2 : w1.alloc (.cells ((bl fun _ => 0).set 0 (.int .u8 109)).toArray 22) = W2
    have hR2 : Row W2 w1.heap.size 0 128 (put (fun _ => 0) 0 109) := by rw [← hW2]; exact row_set
    have hb2 : Below w1.heap.size w1 W2 := by rw [← hW2]; exact (Below.refl _ _).alloc (Nat.le_refl _) _
    have hs2 : W2.heap.size = w1.heap.size + 1 := by rw [← hW2]; simp
    clear hW2
    have hd2 : Below w1.heap.size w1 W2.drew := hb2.trans ⟨rfl, rfl, rfl, Nat.le_refl _, fun _ _ => rfl⟩
    have HO2 : Hid (Wd.Own W2.drew w1.heap.size (some ⟨w1.heap.size, 0, none⟩) 128 128 (put (fun _ => 0) 0 109)) := Lib.hid ((own_block hR2 (Nat.le_refl _)).same rfl)
    have d0 : W2.cell? ⟨w.heap.size, 0, none⟩ = some (.int .i64 gen) := (hb2.cell (p := ⟨w.heap.size, 0, none⟩) (show w.heap.size < w1.heap.size by omega)).trans c0
    have e0 : W2.cell? ⟨w.heap.size, 1, none⟩ = some (.slice pa n cap) := (hb2.cell (p := ⟨w.heap.size, 1, none⟩) (show w.heap.size < w1.heap.size by omega)).trans c1
    have HKE := Lib.hid (fun (w3 : World) (hG : Wd.Only W2.drew w3 (some ⟨w1.heap.size, 0, none⟩)) => show w3.cell? ⟨w.heap.size, 0, none⟩ = some (.int .i64 gen) from (World.cell?_of_block (a := ⟨w.heap.size, 0, none⟩) (hG.block w.heap.size (by show w.heap.size < W2.heap.size; omega) (by simp; omega))).trans d0)
    have HKE1 := Lib.hid (fun (w3 : World) (hG : Wd.Only W2.drew w3 (some ⟨w1.heap.size, 0, none⟩)) => show w3.cell? ⟨w.heap.size, 1, none⟩ = some (.slice pa n cap) from (World.cell?_of_block (a := ⟨w.heap.size, 1, none⟩) (hG.block w.heap.size (by show w.heap.size < W2.heap.size; omega) (by simp; omega))).trans e0)
    clear c0 c1 hb2 e0
    go_region_held3 (fun w' => w'.cell? ⟨w.heap.size, 0, none⟩ = some (.int .i64 gen))
      (first
        | exact d0
        | exact HKE.out w3 hG3)
      (first
        | ((go_at_call 64; refine (Wd.put_any _ w1.heap.size (some ⟨w1.heap.size, 0, none⟩) 128 128 (put (fun _ => 0) 0 109) _ _ _ (by exact HO2.out) (by omega)).mono ?_; rintro _ w3 ⟨rfl, hG3, hO3⟩)))
    have e1 := HKE1.out w3 hG3
    have hR3 := own_row hO3
    have hd3 : Below w1.heap.size w1 w3 := HO2.out.under hd2 hG3 (by show w1.heap.size ≤ W2.heap.size; omega)
    have c9 : w3.cell? ⟨w1.heap.size, 9, none⟩ = some (.int .u8 (Wd.putF 128 1 8 gen (put (fun _ => 0) 0 109) 9)) := by
      have := hR3.cell (j := 9) (by omega)
      rwa [Nat.zero_add] at this
    have f9 := hR3.free 9
    have hwr : IntKind.u8.wrap (n : Int) = n := by rw [IntKind.wrap_u8]; omega
    clear HKE HKE1 HO2 hG3 d0 hO3 hR2
    go_wp2_with fail
    generalize hW4 : w3.setCell ⟨w1.heap.size, 9, none⟩ (.int .u8 n) = W4
    have hR4 : Row W4 w1.heap.size 0 128 (head gen n) := by rw [← hW4]; exact hR3.store 9 n
    have hd4 : Below w1.heap.size w1 W4 := by rw [← hW4]; exact hd3.setCell (Nat.le_refl _) _
    clear hW4 hR3 hd3 c9 f9 hwr e1
    have HI : Hid (Row W4 w1.heap.size 0 128 (pairsD F T (head gen n) 0) ∧ Below w1.heap.size w1 W4) := Lib.hid ⟨hR4, hd4⟩
    clear hR4 hd4 hd2
    go_loopw [29] (fun i wr => ∃ j : Nat, j ≤ n ∧ i = .int .i64 j ∧ Hid (Row wr w1.heap.size 0 128 (pairsD F T (head gen n) j) ∧ Below w1.heap.size w1 wr)) (fun i _ => n - (intOf i).toNat)
    case atStart => exact ⟨0, by omega, rfl, HI⟩
    case round =>
      clear HI
      obtain ⟨j, hj, rfl, hR⟩ := hrel
      have hBw : Below w.heap.size w wr := hB.trans (hR.out.2.mono (by omega))
      have hrl := hR.out.1.lt
      by_cases hlt : j < n
      · obtain ⟨b, off, rfl, hbl, _, hrow⟩ := (HL.out.below hBw).rows.resolve_left (by omega)
        obtain ⟨dF, dT⟩ := pr_cells hrow hlt
        have hj0 : (0 : Int) ≤ (j : Int) := by omega
        have hjn : (j : Int) < (n : Int) := by omega
        have hj20 : (j : Int) ≤ 20 := by omega
        clear hrow
        go_wp2_with (refine wpList_store_row rfl 100 (.tmp 8) (.tmp 33) rfl wr.heap.size #[.int .i64 (F j), .int .i64 (T j)] rfl rfl 100 _ (heap_alloc_new wr _) (by kernel_rfl) rfl (pair_one _ _) ?_; rw [World.setRow_alloc_new]; simp only [Act.put])
        generalize hW5 : wr.alloc (.cells #[.int .i64 (F j), .int .i64 (T j)] 100) = W5
        have hb5 : Below wr.heap.size wr W5 := by rw [← hW5]; exact (Below.refl _ _).alloc (Nat.le_refl _) _
        have hx5 : W5.heap[wr.heap.size]? = some (.cells #[.int .i64 (F j), .int .i64 (T j)] 100 (0, 0)) := by rw [← hW5]; exact heap_alloc_new _ _
        have hs5 : W5.heap.size = wr.heap.size + 1 := by rw [← hW5]; simp
        clear hW5 dF dT
        have c0 : W5.cell? ⟨wr.heap.size, 0, none⟩ = some (.int .i64 (F j)) := by rw [cell_of_row _ _ _ _ _ _ hx5]; rfl
        have c1 : W5.cell? ⟨wr.heap.size, 1, none⟩ = some (.int .i64 (T j)) := by rw [cell_of_row _ _ _ _ _ _ hx5]; rfl
        have HO5 : Hid (Wd.Own W5.drew w1.heap.size (some ⟨w1.heap.size, 0, none⟩) 128 128 (pairsD F T (head gen n) j)) := Lib.hid ((own_block (hR.out.1.block (hb5.block _ hrl)) (Nat.le_refl _)).same rfl)
        have hb5' : Below wr.heap.size wr W5.drew := hb5.trans ⟨rfl, rfl, rfl, Nat.le_refl _, fun _ _ => rfl⟩
        have hd5 : Below w1.heap.size w1 W5.drew := hR.out.2.trans (hb5'.mono (Nat.le_of_lt hrl))
        have HKE := Lib.hid (fun (u v : World) (hu : wr.heap.size < u.heap.size) (hG : Wd.Only u v (some ⟨w1.heap.size, 0, none⟩)) (k : Nat) => World.cell?_of_block (a := ⟨wr.heap.size, k, none⟩) (hG.block wr.heap.size hu (by simp; omega)))
        have hu5 : wr.heap.size < W5.drew.heap.size := by show wr.heap.size < W5.heap.size; omega
        clear hb5 hb5' hx5 hR
        go_region_held3 (fun w' => w'.cell? ⟨wr.heap.size, 0, none⟩ = some (.int .i64 (F j)))
          (first
            | exact c0
            | exact (HKE.out _ w6 hu5 hG6 0).trans c0)
          (first
            | ((go_at_call 64; refine (Wd.put_any _ w1.heap.size (some ⟨w1.heap.size, 0, none⟩) 128 128 (pairsD F T (head gen n) j) _ _ _ (by exact HO5.out) (by omega)).mono ?_; rintro _ w6 ⟨rfl, hG6, hO6⟩)))
        have c1' : w6.cell? ⟨wr.heap.size, 1, none⟩ = some (.int .i64 (T j)) := (HKE.out _ w6 hu5 hG6 1).trans c1
        have hd6 : Below w1.heap.size w1 w6 := HO5.out.under hd5 hG6 (by show w1.heap.size ≤ W5.heap.size; omega)
        have hu6 : wr.heap.size < w6.drew.heap.size := Nat.lt_of_lt_of_le hu5 hG6.size
        have hd6' : Below w1.heap.size w1 w6.drew := hd6.trans ⟨rfl, rfl, rfl, Nat.le_refl _, fun _ _ => rfl⟩
        have HO6 := Lib.hid (hO6.same (w' := w6.drew) rfl)
        clear c0 c1 HO5 hG6 hd5 hO6
        go_wp2_with fail
        have hsum : IntKind.i64.wrap (10 + 4 * (j : Int) + 2) = 12 + 4 * j := by rw [IntWalk.i64_in _ (by omega)]; omega
        go_region_held3 (fun w' => w'.cell? ⟨wr.heap.size, 1, none⟩ = some (.int .i64 (T j)))
          (first
            | exact c1'
            | exact (HKE.out _ w7 hu6 hG7 1).trans c1')
          (first
            | ((go_at_call 64; refine (Wd.put_any _ w1.heap.size (some ⟨w1.heap.size, 0, none⟩) 128 128 (Wd.putF 128 (10 + 4 * (j : Int)) 2 (F j) (pairsD F T (head gen n) j)) _ _ _ (by exact HO6.out) (by omega)).mono ?_; rintro _ w7 ⟨rfl, hG7, hO7⟩)))
        have hd7 : Below w1.heap.size w1 w7 := HO6.out.under hd6' hG7 (by have := hd6'.size; omega)
        have HN : Hid (Row w7 w1.heap.size 0 128 (pairsD F T (head gen n) (j + 1)) ∧ Below w1.heap.size w1 w7) := Lib.hid ⟨own_row hO7, hd7⟩
        clear hd7 hO7 hG7 HO6 c1' hd6 hd6' hsum
        go_wp2_with fail
        go_roundw
        case rel => exact ⟨j + 1, by omega, by go_num, HN⟩
        case measure => simp [intOf]; omega
      · obtain rfl : j = n := by omega
        have hD : tabD gen j F T = pairsD F T (head gen j) j := rfl
        have hby := tab_bytes gen F T hn20
        obtain ⟨hR5, hd5⟩ := hR.out
        rw [← hD] at hR5
        have HS : Hid (sealD (tabD gen j F T) = mix (tabD gen j F T) 96 32 (Sha.sumB (Sha.sumS (tab 96 (tabD gen j F T))))) := Lib.hid rfl
        generalize tabD gen j F T = D at hR5 hby HS HV2
        have hKw := HK.out.below hBw
        have HSUM := Lib.hid (Sha.sum_any 96 (some ⟨w1.heap.size, 0, none⟩) 128 (tab 96 D) wr (by simp) (sha_lies hR5 hrl) (byte_tab fun i hi => hby i (by omega)) (by omega) hKw.1 hKw.2)
        clear hD hby hR hKw
        generalize Sha.sumB (Sha.sumS (tab 96 D)) = q at HS HSUM
        go_wp2_with fail
        refine HSUM.out.mono ?_
        rintro _ w8 ⟨rfl, hb8⟩
        clear HSUM
        have hR8 := hR5.block (hb8.block _ hrl)
        have hd8 : Below w1.heap.size w1 w8 := hd5.trans (hb8.mono (Nat.le_of_lt hrl))
        have hl8 : w1.heap.size < w8.heap.size := Nat.lt_of_lt_of_le hrl hb8.size
        clear hR5 hd5 hb8
        dsimp only
        go_wp2_with (refine wpList_store_row rfl 63 (.tmp 10) (.tmp 50) rfl w8.heap.size (Sha.arr 32 (Sha.vu8 q)) rfl rfl 63 _ (heap_alloc_new _ _) Sha.info32 (by rw [Sha.arr_size]; rfl) (Sha.arr_one8 _ _) ?_; rw [World.setRow_alloc_new]; simp only [Act.put])
        generalize hW9 : w8.alloc (.cells (Sha.arr 32 (Sha.vu8 q)) 63) = W9
        have hx9 : W9.heap[w8.heap.size]? = some (.cells (Sha.arr 32 (Sha.vu8 q)) 63 (0, 0)) := by rw [← hW9]; exact heap_alloc_new _ _
        have hb9 : Below w8.heap.size w8 W9 := by rw [← hW9]; exact (Below.refl _ _).alloc (Nat.le_refl _) _
        clear hW9
        obtain ⟨cur, ⟨ty, hc⟩, hz⟩ := (hR8.block (hb9.block _ hl8)).cur
        have hd9 : Below w1.heap.size w1 W9.drew := (hd8.trans (hb9.mono (Nat.le_of_lt hl8))).trans ⟨rfl, rfl, rfl, Nat.le_refl _, fun _ _ => rfl⟩
        have hlen : 128 ≤ cur.size := by
          have := (Array.getElem?_eq_some_iff.1 (hz 127 (by omega))).1
          omega
        have HSRC := Lib.hid (fun j v (hv : ((List.range 32).map fun j => Value.int .u8 (q j))[j]? = some v) => show W9.drew.cell? ((⟨w8.heap.size, 0, none⟩ : Addr).add j) = some v from by
          have hj : j < 32 := by
            have := (List.getElem?_eq_some_iff.1 hv).1
            simpa using this
          rw [Addr.add_mid, Nat.zero_add, cell_of_row _ _ _ _ _ _ (show W9.drew.heap[w8.heap.size]? = _ from hx9), Sha.arr_get _ hj]
          simpa [hj, Sha.vu8] using hv)
        have HCU : Hid (W9.drew.heap[w1.heap.size]? = some (.cells cur.toList.toArray ty (0, 0))) := Lib.hid (by show W9.heap[w1.heap.size]? = _; simpa using hc)
        have HZ := Lib.hid hz
        have HLN : Hid (96 + ((List.range 32).map fun j => Value.int .u8 (q j)).length ≤ cur.toList.length) := Lib.hid (by simp; omega)
        clear hR8 hx9 hc hz hb9 hlen
        go_region_law
          ((refine step_copy_splice rfl (.tmp 51) (.tmp 52) 61 61 (by rfl) 5 bytes_slice u8_size (some ⟨w1.heap.size, 96, none⟩) (some ⟨w8.heap.size, 0, none⟩) 32 32 32 32 (by rfl) (by rfl) w1.heap.size 96 cur.toList ty (by exact HCU.out) ((List.range 32).map fun j => Value.int .u8 (q j)) (by simp) (fun _ => ⟨rfl, _, rfl, HSRC.out⟩) HLN.out (bs_one q) w1.heap.size w1 (by exact hd9) (Nat.le_refl _) ?_; intro w9 HG9 hB9))
        all_goals
          have hRn : Row w9 w1.heap.size 0 128 (mix D 96 32 q) := row_splice HZ.out HG9.out
          have hrg := row_range hRn
          have hr9 := (hB9.block (w.heap.size + 1) (by omega)).trans hr1
          have hBn : Below w.heap.size w w9 := hB.trans (hB9.mono (by omega))
          generalize mix D 96 32 q = Z at HS hRn hrg
          clear HG9 hRn HZ HCU HLN HSRC
          go_wp2_with (first
            | (refine wpList_load_mid rfl 22 (.tmp 6) rfl w1.heap.size 0 rfl (bl Z) _ (by exact hrg) und29 rfl (size_bl _) ?_; simp only [Act.put, List.setIfInBounds_toArray, List.set_cons_succ, List.set_cons_zero])
            | (refine wpList_store_row rfl 22 (.tmp 4) (.tmp 54) rfl (w.heap.size + 1) (bl Z).toArray rfl rfl 22 _ hr9 (size_bl' _) rfl (bl_all _) ?_; simp only [Act.put]))
          have hr10 := setRow_heap w9 (w.heap.size + 1) _ (bl Z).toArray 22 (0, 0) hr9
          refine bodyPost_ret (results_pt rfl rfl rfl hr10) rfl ?_
          exact ⟨by rw [HV2.out, HE2.out, HS.out], hBn.trans ⟨rfl, rfl, rfl, by simp, fun k hk => setRow_other w9 _ k _ (by omega)⟩⟩
end Rm
end Go.Proofs.YtllejfnmbpjhaaaDoor
