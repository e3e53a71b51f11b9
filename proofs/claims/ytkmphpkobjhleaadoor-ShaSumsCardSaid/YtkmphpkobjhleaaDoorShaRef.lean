import Derived.Test.YtkmphpkobjhleaaDoorShaRoots
import Derived.Deep.WholeRow
namespace Go.Proofs.YtkmphpkobjhleaaDoor
namespace Sha
open Go.RowKit

/-- the world of the reference's step: the numbers f so far -/
structure RefW (s : S8) (x : Nat → Int) (w : World) (f : Nat → Int) (wr : World) : Prop where
  hbox : wr.heap[w.heap.size]? = some (.cells (arr 8 (vu32 s.at)) 28 (0, 0))
  bbox : wr.heap[w.heap.size + 1]? = some (.cells (arr 64 (vu8 x)) 29 (0, 0))
  res : wr.heap[w.heap.size + 1 + 1]? = some (.cells (arr 8 (vu32 fun _ => 0)) 28 (0, 0))
  ww : wr.heap[w.heap.size + 1 + 1 + 1]? = some (.cells (arr 64 (vu32 f)) 38 (0, 0))
  below : Below w.heap.size w wr
  lt : w.heap.size + 1 + 1 + 1 < wr.heap.size

theorem RefW.byte {s : S8} {x : Nat → Int} {w : World} {f : Nat → Int} {wr : World} (h : RefW s x w f wr) {j : Nat} (hj : j < 64) : wr.cell? ⟨w.heap.size + 1, j, none⟩ = some (.int .u8 (x j)) := by
  rw [cell_of_row wr _ j _ _ _ h.bbox, arr_get _ hj]; rfl
theorem RefW.word {s : S8} {x : Nat → Int} {w : World} {f : Nat → Int} {wr : World} (h : RefW s x w f wr) {j : Nat} (hj : j < 64) : wr.cell? ⟨w.heap.size + 1 + 1 + 1, j, none⟩ = some (.int .u32 (f j)) := by
  rw [cell_of_row wr _ j _ _ _ h.ww, arr_get _ hj]; rfl
theorem RefW.free {s : S8} {x : Nat → Int} {w : World} {f : Nat → Int} {wr : World} (h : RefW s x w f wr) (j : Nat) : wr.frozen? ⟨w.heap.size + 1 + 1 + 1, j, none⟩ = false := frozen_of_row wr _ j _ _ h.ww
theorem RefW.more {s : S8} {x : Nat → Int} {w : World} {f : Nat → Int} {wr : World} (h : RefW s x w f wr) (n : Nat) : RefW s x w f (wr.drewN n) := ⟨h.hbox, h.bbox, h.res, h.ww, below_drewN h.below n, h.lt⟩
theorem RefW.store {s : S8} {x : Nat → Int} {w : World} {f g : Nat → Int} {wr : World} (h : RefW s x w f wr) (j : Nat) (v : Int) (hg : ∀ i, i < 64 → g i = if i = j then v else f i) : RefW s x w g (wr.setCell ⟨w.heap.size + 1 + 1 + 1, j, none⟩ (.int .u32 v)) := by
  refine ⟨?_, ?_, ?_, ?_, h.below.setCell (by simp only []; omega) _, by simpa using h.lt⟩
  · rw [heap_setCell_other _ _ _ _ (by simp only []; omega)]; exact h.hbox
  · rw [heap_setCell_other _ _ _ _ (by simp only []; omega)]; exact h.bbox
  · rw [heap_setCell_other _ _ _ _ (by simp only []; omega)]; exact h.res
  · have e := heap_setCell_same wr (w.heap.size + 1 + 1 + 1) j (arr 64 (vu32 f)) 38 (.int .u32 v) h.ww
    rw [arr_set] at e
    have e2 : arr 64 (vu32 g) = arr 64 (fun i => if i = j then Value.int .u32 v else vu32 f i) := arr_congr fun i hi => by
      simp only [vu32, hg i hi]
      split <;> rfl
    rw [e2]
    exact e

theorem info8n : (Tryd.prog.info? 28).map (·.size) = some 8 := by kernel_rfl
theorem signed32 : IntKind.u32.signed = false := rfl
theorem vals_of {t : S8} {a b c d e f g h : Int} (ha : a = t.a) (hb : b = t.b) (hc : c = t.c) (hd : d = t.d) (he : e = t.e) (hf : f = t.f) (hg : g = t.g) (hh : h = t.h) :
    (#[.int .u32 a, .int .u32 b, .int .u32 c, .int .u32 d, .int .u32 e, .int .u32 f, .int .u32 g, .int .u32 h] : Array Value) = t.vals := by
  rw [ha, hb, hc, hd, he, hf, hg, hh]; rfl
theorem vals_one (a b c d e f g h : Int) : (#[.int .u32 a, .int .u32 b, .int .u32 c, .int .u32 d, .int .u32 e, .int .u32 f, .int .u32 g, .int .u32 h] : Array Value).all (·.oneCell') = true := by
  simp [Value.oneCell']
theorem word_shift (x0 x1 x2 x3 : Int) (hx : (0 ≤ x0 ∧ x0 < 256) ∧ (0 ≤ x1 ∧ x1 < 256) ∧ (0 ≤ x2 ∧ x2 < 256) ∧ (0 ≤ x3 ∧ x3 < 256)) :
    bits .or .u32 (bits .or .u32 (bits .or .u32 (x0 % 4294967296 * 16777216 % 4294967296) (x1 % 4294967296 * 65536 % 4294967296)) (x2 % 4294967296 * 256 % 4294967296)) (x3 % 4294967296) = Sha.word x0 x1 x2 x3 := by
  obtain ⟨⟨a0, b0⟩, ⟨a1, b1⟩, ⟨a2, b2⟩, ⟨a3, b3⟩⟩ := hx
  rw [Int.emod_eq_of_lt (a := x0) a0 (by omega), Int.emod_eq_of_lt (a := x1) a1 (by omega), Int.emod_eq_of_lt (a := x2) a2 (by omega), Int.emod_eq_of_lt (a := x3) a3 (by omega)]
  rw [Int.emod_eq_of_lt (a := x0 * 16777216) (by omega) (by omega), Int.emod_eq_of_lt (a := x1 * 65536) (by omega) (by omega), Int.emod_eq_of_lt (a := x2 * 256) (by omega) (by omega)]
  have e1 := or_step x0 (x1 * 65536) 24 a0 (by omega) (by omega) (by omega) (by omega)
  have e2 := or_step (x0 * 256 + x1) (x2 * 256) 16 (by omega) (by omega) (by omega) (by omega) (by omega)
  have e3 := or_step ((x0 * 256 + x1) * 256 + x2) x3 8 (by omega) a3 (by omega) (by omega) (by omega)
  simp only [Int.reducePow] at e1 e2 e3
  rw [e1, show x0 * 16777216 + x1 * 65536 = (x0 * 256 + x1) * 65536 by omega, e2, show (x0 * 256 + x1) * 65536 + x2 * 256 = ((x0 * 256 + x1) * 256 + x2) * 256 by omega, e3]
  rfl

theorem RefW.later {s : S8} {x : Nat → Int} {w : World} {f : Nat → Int} {wr w1 : World} (h : RefW s x w f wr) (b : Below wr.heap.size wr w1) : RefW s x w f w1 := by
  have hl := h.lt
  have hs := b.size
  have hb := h.below.size
  exact ⟨(b.block _ (by omega)).trans h.hbox, (b.block _ (by omega)).trans h.bbox, (b.block _ (by omega)).trans h.res, (b.block _ (by omega)).trans h.ww, h.below.trans (b.mono hb), by omega⟩

/-- .. with the constants in block gk, the eight numbers in block gv -/
structure RefV (s : S8) (x : Nat → Int) (w : World) (f : Nat → Int) (gk gv : Nat) (v : Nat → Int) (wr : World) : Prop where
  base : RefW s x w f wr
  kk : wr.heap[gk]? = some (.cells (arr 64 (vu32 kT)) 38 (0, 0))
  vv : wr.heap[gv]? = some (.cells (arr 8 (vu32 v)) 28 (0, 0))
  fk : w.heap.size + 1 + 1 + 1 < gk
  fv : gk < gv

theorem RefV.start {s : S8} {x : Nat → Int} {w : World} {f : Nat → Int} {gk : Nat} {w2 : World} (R : RefW s x w f w2) (hk : w2.heap[gk]? = some (.cells (arr 64 (vu32 kT)) 38 (0, 0))) (hl : gk < w2.heap.size) (hf : w.heap.size + 1 + 1 + 1 < gk) :
    RefV s x w f gk w2.heap.size s.at (w2.alloc (.cells (arr 8 (vu32 s.at)) 28)) :=
  ⟨R.later ((Below.refl _ _).alloc (Nat.le_refl _) _), by rw [heap_alloc_old _ _ hl]; exact hk, heap_alloc_new _ _, hf, hl⟩

theorem RefV.more {s : S8} {x : Nat → Int} {w : World} {f : Nat → Int} {gk gv : Nat} {v : Nat → Int} {wr : World} (h : RefV s x w f gk gv v wr) (n : Nat) : RefV s x w f gk gv v (wr.drewN n) := ⟨h.base.more n, h.kk, h.vv, h.fk, h.fv⟩
theorem RefV.num {s : S8} {x : Nat → Int} {w : World} {f : Nat → Int} {gk gv : Nat} {v : Nat → Int} {wr : World} (h : RefV s x w f gk gv v wr) {j : Nat} (hj : j < 8) : wr.cell? ⟨gv, j, none⟩ = some (.int .u32 (v j)) := by
  rw [cell_of_row wr _ j _ _ _ h.vv, arr_get _ hj]; rfl
theorem RefV.key {s : S8} {x : Nat → Int} {w : World} {f : Nat → Int} {gk gv : Nat} {v : Nat → Int} {wr : World} (h : RefV s x w f gk gv v wr) {j : Nat} (hj : j < 64) : wr.cell? ⟨gk, j, none⟩ = some (.int .u32 (kT j)) := by
  rw [cell_of_row wr _ j _ _ _ h.kk, arr_get _ hj]; rfl
theorem RefV.old {s : S8} {x : Nat → Int} {w : World} {f : Nat → Int} {gk gv : Nat} {v : Nat → Int} {wr : World} (h : RefV s x w f gk gv v wr) {j : Nat} (hj : j < 8) : wr.cell? ⟨w.heap.size, j, none⟩ = some (.int .u32 (s.at j)) := by
  rw [cell_of_row wr _ j _ _ _ h.base.hbox, arr_get _ hj]; rfl
theorem RefV.row {s : S8} {x : Nat → Int} {w : World} {f : Nat → Int} {gk gv : Nat} {v u : Nat → Int} {wr : World} (h : RefV s x w f gk gv v wr) : RefV s x w f gk gv u (wr.setRow gv (arr 8 (vu32 u))) := by
  have hk := h.fk
  have hv := h.fv
  refine ⟨⟨?_, ?_, ?_, ?_, below_setRow h.base.below (by omega) _, by simpa using h.base.lt⟩, ?_, ?_, hk, hv⟩
  · rw [setRow_other _ _ _ _ (by omega)]; exact h.base.hbox
  · rw [setRow_other _ _ _ _ (by omega)]; exact h.base.bbox
  · rw [setRow_other _ _ _ _ (by omega)]; exact h.base.res
  · rw [setRow_other _ _ _ _ (by omega)]; exact h.base.ww
  · rw [setRow_other _ _ _ _ (by omega)]; exact h.kk
  · exact setRow_heap wr gv _ _ _ _ h.vv
theorem RefV.free {s : S8} {x : Nat → Int} {w : World} {f : Nat → Int} {gk gv : Nat} {v : Nat → Int} {wr : World} (h : RefV s x w f gk gv v wr) (j : Nat) : wr.frozen? ⟨gv, j, none⟩ = false := frozen_of_row wr gv j _ _ h.vv
theorem RefV.next {s z : S8} {x : Nat → Int} {w : World} {f : Nat → Int} {gk gv k : Nat} {wr : World} (h : RefV s x w f gk gv (addK z s k) wr) :
    RefV s x w f gk gv (addK z s (k + 1)) (wr.setCell ⟨gv, k, none⟩ (.int .u32 ((z.at k + s.at k) % 4294967296))) := by
  have e := heap_setCell_same wr gv k (arr 8 (vu32 (addK z s k))) 28 (.int .u32 ((z.at k + s.at k) % 4294967296)) h.vv
  rw [arr_set] at e
  have e2 : arr 8 (vu32 (addK z s (k + 1))) = arr 8 (fun i => if i = k then Value.int .u32 ((z.at k + s.at k) % 4294967296) else vu32 (addK z s k) i) := arr_congr fun i _ => by
    simp only [vu32, addK_next]
    split <;> rfl
  have hk := h.fk
  have hv := h.fv
  refine ⟨⟨?_, ?_, ?_, ?_, h.base.below.setCell (by simp only []; omega) _, by simpa using h.base.lt⟩, ?_, ?_, hk, hv⟩
  · rw [heap_setCell_other _ _ _ _ (by simp only []; omega)]; exact h.base.hbox
  · rw [heap_setCell_other _ _ _ _ (by simp only []; omega)]; exact h.base.bbox
  · rw [heap_setCell_other _ _ _ _ (by simp only []; omega)]; exact h.base.res
  · rw [heap_setCell_other _ _ _ _ (by simp only []; omega)]; exact h.base.ww
  · rw [heap_setCell_other _ _ _ _ (by simp only []; omega)]; exact h.kk
  · rw [e2]; exact e

/-- the boxes of a step's call -/
theorem boxes4 (w : World) (A B Z Y : Array Value) (ta tb tz ty : TypeId) : ∀ W, W = (((w.alloc (.cells A ta)).alloc (.cells B tb)).alloc (.cells Z tz)).alloc (.cells Y ty) →
    W.heap[w.heap.size]? = some (.cells A ta (0, 0)) ∧ W.heap[w.heap.size + 1]? = some (.cells B tb (0, 0)) ∧ W.heap[w.heap.size + 1 + 1]? = some (.cells Z tz (0, 0)) ∧ W.heap[w.heap.size + 1 + 1 + 1]? = some (.cells Y ty (0, 0)) ∧ Below w.heap.size w W ∧ w.heap.size + 1 + 1 + 1 < W.heap.size := by
  rintro W rfl
  obtain ⟨h0, h1, h2, hb, hl⟩ := boxes w A B Z ta tb tz _ rfl
  have hs : (((w.alloc (.cells A ta)).alloc (.cells B tb)).alloc (.cells Z tz)).heap.size = w.heap.size + 1 + 1 + 1 := by simp
  generalize ((w.alloc (.cells A ta)).alloc (.cells B tb)).alloc (.cells Z tz) = V at *
  refine ⟨?_, ?_, ?_, ?_, hb.alloc (by omega) _, by simp; omega⟩
  · rw [heap_alloc_old _ _ (by omega)]; exact h0
  · rw [heap_alloc_old _ _ (by omega)]; exact h1
  · rw [heap_alloc_old _ _ (by omega)]; exact h2
  · rw [← hs]; exact heap_alloc_new _ _

set_option maxRecDepth 100000 in
set_option maxHeartbeats 4000000 in
theorem ref_any (s : S8) (x : Nat → Int) (w : World) (hx : ∀ j, j < 64 → 0 ≤ x j ∧ x j < 256) :
    Calls Tryd.prog 13 #[.agg (arr 8 (vu32 s.at)), .agg (arr 64 (vu8 x))] w fun e w' => e = .returned (.agg (arr 8 (vu32 (stepS kT s x).at))) ∧ Below w.heap.size w w' := by
  have HX := Lib.hid hx
  clear hx
  obtain ⟨F, hF0⟩ : ∃ F, F = stepS kT s x := ⟨_, rfl⟩
  obtain ⟨z, hz0⟩ : ∃ z, z = stp s kT (ws x 48) 64 := ⟨_, rfl⟩
  rw [← hF0]
  have HF := Lib.hid hF0
  have HZ := Lib.hid hz0
  clear hF0 hz0
  go_enter Tryd.func13, Tryd.ntmps13
  go_wp2_with fail
  rw [← zeros64 x, zeros8]
  have hbx := boxes4 w (arr 8 (vu32 s.at)) (arr 64 (vu8 x)) (arr 8 (vu32 fun _ => 0)) (arr 64 (vu32 (ws0 x 0))) 28 29 28 38 _ rfl
  generalize (((w.alloc (.cells (arr 8 (vu32 s.at)) 28)).alloc (.cells (arr 64 (vu8 x)) 29)).alloc (.cells (arr 8 (vu32 fun _ => 0)) 28)).alloc (.cells (arr 64 (vu32 (ws0 x 0))) 38) = W at hbx ⊢
  obtain ⟨b0, b1, b2, b3, hb, hs⟩ := hbx
  have H0 : Hid (RefW s x w (ws0 x 0) W) := ⟨b0, b1, b2, b3, hb, hs⟩
  clear b0 b1 b2 b3 hb hs
  go_loopw [6] (fun i wr => ∃ k : Nat, k ≤ 16 ∧ i = .int .i64 k ∧ RefW s x w (ws0 x k) wr) (fun i _ => 16 - (intOf i).toNat)
  case atStart => exact ⟨0, by omega, rfl, H0.out⟩
  case round =>
    clear H0
    obtain ⟨k, hk, rfl, hA⟩ := hrel
    by_cases hlt : k < 16
    · have c0 := hA.byte (j := 4 * k) (by omega)
      have c1 := hA.byte (j := 4 * k + 1) (by omega)
      have c2 := hA.byte (j := 4 * k + 2) (by omega)
      have c3 := hA.byte (j := 4 * k + 3) (by omega)
      have HB : Hid _ := And.intro (HX.out (4 * k) (by omega)) (And.intro (HX.out (4 * k + 1) (by omega)) (And.intro (HX.out (4 * k + 2) (by omega)) (HX.out (4 * k + 3) (by omega))))
      have d := hA.word (j := k) (by omega)
      have df := hA.free k
      go_wp2_with fail
      refine QuietTail.region (n := 31) (C := fun w' => ∃ n, w' = wr.drewN n) (by kernel_rfl) (by decide) (by kernel_rfl) (by kernel_rfl) ⟨1, rfl⟩ ?_
      simp only [List.take_succ_cons, List.take_zero, List.drop_succ_cons, List.drop_zero]
      repeat (go_big_quiet_step (fail))
      refine wpQuiet_nil ?_
      rintro _ ⟨nq, rfl⟩
      go_wp2
      go_roundw
      case rel => exact ⟨k + 1, by omega, by go_num, (hA.more nq).store k _ (fun i hi => by rw [word_shift _ _ _ _ HB]; exact ws0_next x k i)⟩
      case measure => simp [intOf]; omega
    · obtain rfl : k = 16 := by omega
      rw [show ((16 : Nat) : Int) = 16 from rfl]
      go_wp2_with fail
      go_loopw [7] (fun i wr => ∃ k : Nat, 16 ≤ k ∧ k ≤ 64 ∧ i = .int .i64 k ∧ RefW s x w (ws x (k - 16)) wr) (fun i _ => 64 - (intOf i).toNat)
      case atStart => exact ⟨16, by omega, by omega, rfl, hA⟩
      case round =>
        clear hA hk hlt
        obtain ⟨k, hk0, hk, rfl, hA⟩ := hrel
        by_cases hlt : k < 64
        · have c2 := hA.word (j := k - 2) (by omega)
          have c7 := hA.word (j := k - 7) (by omega)
          have c15 := hA.word (j := k - 15) (by omega)
          have c16 := hA.word (j := k - 16) (by omega)
          have d := hA.word (j := k) (by omega)
          have df := hA.free k
          go_wp2_with fail
          go_quiet (fail)
          have hA2 := hA.more nq
          go_wp2_with fail
          generalize wr.drewN nq = wr2 at hA2 ⊢
          clear c2 c7 c15 c16 d df hA
          have c2 := hA2.word (j := k - 2) (by omega)
          have c7 := hA2.word (j := k - 7) (by omega)
          have c15 := hA2.word (j := k - 15) (by omega)
          have c16 := hA2.word (j := k - 16) (by omega)
          have d := hA2.word (j := k) (by omega)
          have df := hA2.free k
          refine QuietTail.region (n := 29) (C := fun w' => ∃ n, w' = wr2.drewN n) (by kernel_rfl) (by decide) (by kernel_rfl) (by kernel_rfl) ⟨1, rfl⟩ ?_
          simp only [List.take_succ_cons, List.take_zero, List.drop_succ_cons, List.drop_zero]
          repeat (go_big_quiet_step ((go_at_call 20; exact Calls.quiet_of (turn_any _ _ _ (by omega) (by omega)))))
          refine wpQuiet_nil ?_
          rintro _ ⟨nq2, rfl⟩
          go_wp2
          go_roundw
          case rel => exact ⟨k + 1, by omega, by omega, by go_num, (hA2.more nq2).store k _ (fun i hi => by rw [ws_next x k i hk0]; congr 1)⟩
          case measure => simp [intOf]; omega
        · obtain rfl : k = 64 := by omega
          rw [show ((64 : Nat) : Int) = 64 from rfl]
          rw [show 64 - 16 = 48 from rfl] at hA
          generalize hf : ws x 48 = f at hA
          have HG := Lib.hid hf
          clear hf hk0 hk hlt
          go_wp2_with fail
          refine (roots_any _).mono ?_
          rintro _ w1 ⟨rfl, hb1⟩
          dsimp only
          have R1 := hA.later hb1
          clear hA hb1
          iterate 8 (first
            | (refine wpList_store_row rfl 38 (.tmp 10) (.tmp 92) rfl w1.heap.size (arr 64 (vu32 kT)) rfl rfl 38 _ (heap_alloc_new _ _) info64 (by rw [arr_size]; rfl) (arr_one _ _) ?_; simp only [Act.put])
            | (try go_step))
          rw [World.setRow_alloc_new]
          have R2 : RefW s x w f (w1.alloc (.cells (arr 64 (vu32 kT)) 38)) := R1.later ((Below.refl _ _).alloc (Nat.le_refl _) _)
          have hkk : (w1.alloc (.cells (arr 64 (vu32 kT)) 38)).heap[w1.heap.size]? = some (.cells (arr 64 (vu32 kT)) 38 (0, 0)) := heap_alloc_new _ _
          have hks : w1.heap.size < (w1.alloc (.cells (arr 64 (vu32 kT)) 38)).heap.size := by simp
          have hkf := R1.lt
          clear R1
          generalize w1.alloc (.cells (arr 64 (vu32 kT)) 38) = w2 at R2 hkk hks ⊢
          generalize w1.heap.size = gk at hkk hks hkf ⊢
          have h0 := R2.hbox
          iterate 9 (first
            | (refine wpList_load_row rfl 28 (.tmp 2) rfl w.heap.size rfl 28 (arr 8 (vu32 s.at)) (0, 0) (.array 8 27) h0 (by kernel_rfl) rfl info8 ?_; simp only [Act.put, List.setIfInBounds_toArray, List.set_cons_succ, List.set_cons_zero])
            | (refine wpList_store_row rfl 28 (.tmp 11) (.tmp 93) rfl w2.heap.size (arr 8 (vu32 s.at)) rfl rfl 28 _ (heap_alloc_new _ _) info8 (by rw [arr_size]; rfl) (arr_one _ _) ?_; simp only [Act.put])
            | (try go_step))
          rw [World.setRow_alloc_new]
          have V0 : Hid (RefV s x w f gk w2.heap.size s.at (w2.alloc (.cells (arr 8 (vu32 s.at)) 28))) := RefV.start R2 hkk hks hkf
          clear R2 hkk hks hkf h0
          generalize w2.alloc (.cells (arr 8 (vu32 s.at)) 28) = w3 at V0 ⊢
          generalize w2.heap.size = gv at V0 ⊢
          go_wp2_with fail
          go_loopw [12] (fun i wr => ∃ k : Nat, k ≤ 64 ∧ i = .int .i64 k ∧ RefV s x w f gk gv (stp s kT f k).at wr) (fun i _ => 64 - (intOf i).toNat)
          case atStart => exact ⟨0, by omega, rfl, V0.out⟩
          case round =>
            clear V0
            obtain ⟨k, hk, rfl, hV⟩ := hrel
            by_cases hlt : k < 64
            · have c0 := hV.num (j := 0) (by omega)
              have c1 := hV.num (j := 1) (by omega)
              have c2 := hV.num (j := 2) (by omega)
              have c4 := hV.num (j := 4) (by omega)
              have c5 := hV.num (j := 5) (by omega)
              have c6 := hV.num (j := 6) (by omega)
              have c7 := hV.num (j := 7) (by omega)
              have ck := hV.key hlt
              have cw := hV.base.word hlt
              simp only [S8.at] at c0 c1 c2 c4 c5 c6 c7
              go_wp2_with fail
              go_quiet ((go_at_call 20; exact Calls.quiet_of (turn_any _ _ _ (by omega) (by omega))))
              have hV2 := hV.more nq
              go_wp2_with fail
              generalize wr.drewN nq = wr2 at hV2 ⊢
              clear c0 c1 c2 c4 c5 c6 c7 ck cw hV
              have c0 := hV2.num (j := 0) (by omega)
              have c1 := hV2.num (j := 1) (by omega)
              have c2 := hV2.num (j := 2) (by omega)
              simp only [S8.at] at c0 c1 c2
              go_quiet ((go_at_call 20; exact Calls.quiet_of (turn_any _ _ _ (by omega) (by omega))))
              have hV3 := hV2.more nq
              clear c0 c1 c2 hV2
              generalize wr2.drewN nq = wr3 at hV3 ⊢
              have c0 := hV3.num (j := 0) (by omega)
              have c1 := hV3.num (j := 1) (by omega)
              have c2 := hV3.num (j := 2) (by omega)
              have c3 := hV3.num (j := 3) (by omega)
              have c4 := hV3.num (j := 4) (by omega)
              have c5 := hV3.num (j := 5) (by omega)
              have c6 := hV3.num (j := 6) (by omega)
              simp only [S8.at] at c0 c1 c2 c3 c4 c5 c6
              have hvv := hV3.vv
              go_wp2_with (with_reducible refine wpList_store_row rfl 28 (.tmp 11) (.tmp 181) rfl gv _ rfl rfl 28 _ hvv ?c1 ?c2 ?c3 ?_)
              case c1 => exact info8n
              case c2 => rw [arr_size]; rfl
              case c3 => exact vals_one _ _ _ _ _ _ _ _
              go_roundw
              case rel =>
                refine ⟨k + 1, by omega, by go_num, ?_⟩
                have R := hV3.row (u := (stp s kT f (k + 1)).at)
                rw [← vals_arr] at R
                refine (congrArg (fun A => RefV s x w f gk gv (stp s kT f (k + 1)).at (wr3.setRow gv A)) (vals_of ?_ rfl rfl rfl ?_ rfl rfl rfl)).mpr R
                · simp only [stp, rnd, p1, p2, mixI, xo, an, no, signed32, Bool.false_eq_true, if_false]; omega
                · simp only [stp, rnd, p1, p2, mixI, xo, an, no, signed32, Bool.false_eq_true, if_false]; omega
              case measure => simp [intOf]; omega
            · obtain rfl : k = 64 := by omega
              have hz : stp s kT f 64 = z := by rw [← HG.out]; exact HZ.out.symm
              rw [hz, ← addK_zero z s] at hV
              rw [show ((64 : Nat) : Int) = 64 from rfl]
              clear hz HG hk hlt
              go_wp2_with fail
              go_loopw [15] (fun i wr => ∃ k : Nat, k ≤ 8 ∧ i = .int .i64 k ∧ RefV s x w f gk gv (addK z s k) wr) (fun i _ => 8 - (intOf i).toNat)
              case atStart => exact ⟨0, by omega, rfl, hV⟩
              case round =>
                clear hV
                obtain ⟨k, hk, rfl, hA⟩ := hrel
                by_cases hlt : k < 8
                · have c1 := hA.num hlt
                  rw [show addK z s k k = z.at k by simp [addK]] at c1
                  have c0 := hA.old hlt
                  have cf := hA.free k
                  go_wp2_with fail
                  refine QuietTail.region (n := 8) (C := fun w' => ∃ n, w' = wr.drewN n) (by kernel_rfl) (by decide) (by kernel_rfl) (by kernel_rfl) ⟨1, rfl⟩ ?_
                  simp only [List.take_succ_cons, List.take_zero, List.drop_succ_cons, List.drop_zero]
                  repeat (go_big_quiet_step (fail))
                  refine wpQuiet_nil ?_
                  rintro _ ⟨nq, rfl⟩
                  go_wp2
                  go_roundw
                  case rel => exact ⟨k + 1, by omega, by go_num, (hA.more nq).next⟩
                  case measure => simp [intOf]; omega
                · obtain rfl : k = 8 := by omega
                  have hg := hA.vv
                  have h2 := hA.base.res
                  have hb := hA.base.below
                  rw [addK_end, vals_arr, show addS z s = F by rw [HF.out, HZ.out]; rfl] at hg
                  clear hA hk hlt HF HZ HX
                  have hres : (wr.setRow (w.heap.size + 1 + 1) (arr 8 (vu32 F.at))).heap[w.heap.size + 1 + 1]? = some (.cells (arr 8 (vu32 F.at)) 28 (0, 0)) := setRow_heap wr _ _ _ _ _ h2
                  have hb2 := below_setRow hb (g := w.heap.size + 1 + 1) (by omega) (arr 8 (vu32 F.at))
                  repeat (first
                    | (refine wpList_load_row rfl 28 (.tmp 11) rfl gv rfl 28 (arr 8 (vu32 F.at)) (0, 0) (.array 8 27) hg (by kernel_rfl) rfl info8 ?_; simp only [Act.put, List.setIfInBounds_toArray, List.set_cons_succ, List.set_cons_zero])
                    | (refine wpList_store_row rfl 28 (.tmp 4) (.tmp 194) rfl (w.heap.size + 1 + 1) (arr 8 (vu32 F.at)) rfl rfl 28 _ h2 info8 (by rw [arr_size, arr_size]) (arr_one _ _) ?_; simp only [Act.put])
                    | go_step)
                  refine bodyPost_ret (results_cell_row rfl _ _ (w.heap.size + 1 + 1) 28 (arr 8 (vu32 F.at)) (0, 0) (.array 8 27) rfl hres (by kernel_rfl) rfl info8) rfl ⟨rfl, hb2⟩

end Sha
end Go.Proofs.YtkmphpkobjhleaaDoor
