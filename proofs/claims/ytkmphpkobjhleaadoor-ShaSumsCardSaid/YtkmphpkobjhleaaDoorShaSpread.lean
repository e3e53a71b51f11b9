import Derived.Test.YtkmphpkobjhleaaDoorShaLeaf
import Derived.Test.YtkmphpkobjhleaaDoorQuietTail
import Derived.Laws.CopyOwn
namespace Go.Proofs.YtkmphpkobjhleaaDoor
namespace Sha
open Go.RowKit

/-- the world of spread behind k stores -/
def spreadW (w : World) (Bv : Array Value) (f : Nat → Int) (wr : World) : Prop :=
  ∃ Z : Array Value, Z.size = 64 ∧ Dr (((w.alloc (.cells Bv 29)).alloc (.cells Z 38)).alloc (.cells (arr 64 (vu32 f)) 38)) wr

theorem spreadW.byte {w : World} {x : Nat → Int} {f : Nat → Int} {wr : World} (h : spreadW w (arr 64 (vu8 x)) f wr) {j : Nat} (hj : j < 64) : wr.cell? ⟨w.heap.size, j, none⟩ = some (.int .u8 (x j)) := by
  obtain ⟨Z, hz, hD⟩ := h
  rw [hD.cell]
  simp [go_sem, arr_get, hj, vu8]
theorem spreadW.word {w : World} {Bv : Array Value} {f : Nat → Int} {wr : World} (h : spreadW w Bv f wr) {j : Nat} (hj : j < 64) : wr.cell? ⟨w.heap.size + 1 + 1, j, none⟩ = some (.int .u32 (f j)) := by
  obtain ⟨Z, hz, hD⟩ := h
  rw [hD.cell]
  have e : w.heap.size + 1 + 1 = ((w.alloc (.cells Bv 29)).alloc (.cells Z 38)).heap.size := by simp
  rw [e, World.cell?_alloc_new, arr_get _ hj]
  rfl
theorem spreadW.free {w : World} {Bv : Array Value} {f : Nat → Int} {wr : World} (h : spreadW w Bv f wr) (j : Nat) : wr.frozen? ⟨w.heap.size + 1 + 1, j, none⟩ = false := by
  obtain ⟨Z, hz, n, rfl⟩ := h
  simp [go_sem]
theorem spreadW.store {w : World} {Bv : Array Value} {f g : Nat → Int} {wr : World} (h : spreadW w Bv f wr) (j : Nat) (v : Int) (hg : ∀ i, i < 64 → g i = if i = j then v else f i) : spreadW w Bv g (wr.setCell ⟨w.heap.size + 1 + 1, j, none⟩ (.int .u32 v)) := by
  obtain ⟨Z, hz, hD⟩ := h
  refine ⟨Z, hz, ?_⟩
  have h1 := hD.store j (.int .u32 v)
  have e : w.heap.size + 1 + 1 = ((w.alloc (.cells Bv 29)).alloc (.cells Z 38)).heap.size := by simp
  rw [e]
  rw [arr_set] at h1
  rw [show arr 64 (vu32 g) = arr 64 (fun i => if i = j then Value.int .u32 v else vu32 f i) from arr_congr fun i hi => by
    simp only [vu32, hg i hi]; split <;> rfl]
  exact h1
theorem spreadW.more {w : World} {Bv : Array Value} {f : Nat → Int} {wr : World} (h : spreadW w Bv f wr) (n : Nat) : spreadW w Bv f (wr.drewN n) := by
  obtain ⟨Z, hz, hD⟩ := h
  exact ⟨Z, hz, hD.more n⟩

theorem spreadW.ends {w : World} {Bv : Array Value} {f : Nat → Int} {wr : World} (h : spreadW w Bv f wr) : ∃ Z : Array Value, Z.size = 64 ∧ wr.heap[w.heap.size + 1 + 1]? = some (.cells (arr 64 (vu32 f)) 38 (0, 0)) ∧
    wr.heap[w.heap.size + 1]? = some (.cells Z 38 (0, 0)) ∧ Below w.heap.size w wr := by
  obtain ⟨Z, hz, n, rfl⟩ := h
  refine ⟨Z, hz, ?_, ?_, below_drewN ((((Below.refl _ _).alloc (Nat.le_refl _) _).alloc (by simp) _).alloc (by simp; omega) _) _⟩
  · have e : w.heap.size + 1 + 1 = ((w.alloc (.cells Bv 29)).alloc (.cells Z 38)).heap.size := by simp
    rw [World.heap_drewN, e]
    exact heap_alloc_new _ _
  · have e : w.heap.size + 1 = (w.alloc (.cells Bv 29)).heap.size := by simp
    rw [World.heap_drewN, heap_alloc_old _ _ (by simp), e]
    exact heap_alloc_new _ _

theorem zeros64 (x : Nat → Int) : arr 64 (vu32 (ws0 x 0)) = #[.int .u32 0, .int .u32 0, .int .u32 0, .int .u32 0, .int .u32 0, .int .u32 0, .int .u32 0, .int .u32 0, .int .u32 0, .int .u32 0, .int .u32 0, .int .u32 0, .int .u32 0, .int .u32 0, .int .u32 0, .int .u32 0,
  .int .u32 0, .int .u32 0, .int .u32 0, .int .u32 0, .int .u32 0, .int .u32 0, .int .u32 0, .int .u32 0, .int .u32 0, .int .u32 0, .int .u32 0, .int .u32 0, .int .u32 0, .int .u32 0, .int .u32 0, .int .u32 0,
  .int .u32 0, .int .u32 0, .int .u32 0, .int .u32 0, .int .u32 0, .int .u32 0, .int .u32 0, .int .u32 0, .int .u32 0, .int .u32 0, .int .u32 0, .int .u32 0, .int .u32 0, .int .u32 0, .int .u32 0, .int .u32 0,
  .int .u32 0, .int .u32 0, .int .u32 0, .int .u32 0, .int .u32 0, .int .u32 0, .int .u32 0, .int .u32 0, .int .u32 0, .int .u32 0, .int .u32 0, .int .u32 0, .int .u32 0, .int .u32 0, .int .u32 0, .int .u32 0] := by kernel_rfl

theorem info64 {f : Nat → Value} : (Tryd.prog.info? 38).map (·.size) = some (arr 64 f).size := by
  rw [arr_size]; kernel_rfl
theorem slice_block (b k : Nat) (hk : k < 16) (W : World) : (Instr.sliceAt 29 (.pointer (some ⟨b, 0, none⟩)) (some (.int .i64 (4 * (k : Int)))) none none).run Tryd.prog W = .ok (.slice (some ⟨b, 4 * k, none⟩) (64 - 4 * k) (64 - 4 * k)) W := by
  have hal : Tryd.prog.arrayLen 29 = 64 := by kernel_rfl
  have hsz : (sizeOf (Tryd.prog.elem 29)).run Tryd.prog W = .ok 1 W := by kernel_rfl
  rw [run_sliceAt_array_l W 29 ⟨b, 0, none⟩ (by kernel_rfl) .i64 (4 * (k : Int)) (by omega) (by rw [hal]; omega), hsz, hal]
  have e : (4 * (k : Int)).toNat = 4 * k := by omega
  simp only [Result.andThen, slicedAt, e, Nat.mul_one]
  rw [if_neg (by omega)]
  simp [Addr.add]
  omega

set_option maxHeartbeats 400000 in
theorem spread_any (x : Nat → Int) (w : World) (hx : ∀ j, j < 64 → 0 ≤ x j ∧ x j < 256) :
    Calls Tryd.prog 19 #[.agg (arr 64 (vu8 x))] w fun e w' => e = .returned (.agg (arr 64 (vu32 (ws x 48)))) ∧ Below w.heap.size w w' := by
  have HX := Lib.hid hx
  clear hx
  obtain ⟨F, hF0⟩ : ∃ F, F = ws x 48 := ⟨_, rfl⟩
  rw [← hF0]
  have HF := Lib.hid hF0
  clear hF0
  go_enter Tryd.func19, Tryd.ntmps19
  go_wp2
  go_loopw [6] (fun i wr => ∃ k : Nat, k ≤ 16 ∧ i = .int .i64 k ∧ spreadW w (arr 64 (vu8 x)) (ws0 x k) wr) (fun i _ => 16 - (intOf i).toNat)
  case atStart =>
    refine ⟨0, by omega, rfl, arr 64 (vu32 (ws0 x 0)), arr_size _ _, ?_⟩
    rw [zeros64]; exact Dr.refl _
  case round =>
    obtain ⟨k, hk, rfl, hS⟩ := hrel
    by_cases hlt : k < 16
    · have c0 := hS.byte (j := 4 * k) (by omega)
      have c1 := hS.byte (j := 4 * k + 1) (by omega)
      have c2 := hS.byte (j := 4 * k + 2) (by omega)
      have c3 := hS.byte (j := 4 * k + 3) (by omega)
      have hb := And.intro (HX.out (4 * k) (by omega)) (And.intro (HX.out (4 * k + 1) (by omega)) (And.intro (HX.out (4 * k + 2) (by omega)) (HX.out (4 * k + 3) (by omega))))
      have HT := Lib.hid (take_any w.heap.size (4 * k) (64 - 4 * k) (64 - 4 * k) _ _ _ _ wr (by omega) (by omega) c0 c1 c2 c3 hb)
      have d := hS.word (j := k) (by omega)
      have df := hS.free k
      have hsl := slice_block w.heap.size k hlt
      clear c0 c1 c2 c3 hb
      go_wp2_with ((go_at_call 28); (with_reducible refine HT.out.mono ?_); (rintro e w' ⟨rfl, rfl⟩))
      go_roundw
      case rel => exact ⟨k + 1, by omega, by go_num, hS.store k _ (fun i hi => ws0_next x k i)⟩
      case measure => simp [intOf]; omega
    · obtain rfl : k = 16 := by omega
      go_wp2
      go_loopw [5] (fun i wr => ∃ k : Nat, 16 ≤ k ∧ k ≤ 64 ∧ i = .int .i64 k ∧ spreadW w (arr 64 (vu8 x)) (ws x (k - 16)) wr) (fun i _ => 64 - (intOf i).toNat)
      case atStart => exact ⟨16, by omega, by omega, rfl, hS⟩
      case round =>
        clear hS hk hlt
        obtain ⟨k, hk0, hk, rfl, hS⟩ := hrel
        by_cases hlt : k < 64
        · have c2 := hS.word (j := k - 2) (by omega)
          have c7 := hS.word (j := k - 7) (by omega)
          have c15 := hS.word (j := k - 15) (by omega)
          have c16 := hS.word (j := k - 16) (by omega)
          have d := hS.word (j := k) (by omega)
          have df := hS.free k
          go_wp2_with fail
          refine QuietTail.region (n := 23) (C := fun w' => ∃ n, w' = wr.drewN n) (by kernel_rfl) (by decide) (by kernel_rfl) (by kernel_rfl) ⟨1, rfl⟩ ?_
          simp only [List.take_succ_cons, List.take_zero, List.drop_succ_cons, List.drop_zero]
          repeat (go_big_quiet_step ((go_at_call 29; exact Calls.quiet_of (mixs_any _ _ _ _ _ (by omega) (by omega) (by omega) (by omega) (by omega) (by omega)))))
          refine wpQuiet_nil ?_
          rintro _ ⟨nq, rfl⟩
          go_wp2
          go_roundw
          case rel => exact ⟨k + 1, by omega, by omega, by go_num, (hS.more nq).store k _ (fun i hi => by rw [ws_next x k i hk0]; congr 1)⟩
          case measure => simp [intOf]; omega
        · obtain rfl : k = 64 := by omega
          obtain ⟨Z, hZ, hr, hz, hb⟩ := hS.ends
          rw [show 64 - 16 = 48 from rfl, ← HF.out] at hr
          clear hS HF HX
          iterate 21 (try go_step)
          refine wpList_load_row rfl 38 (.tmp 3) rfl (w.heap.size + 1 + 1) rfl 38 (arr 64 (vu32 F)) (0, 0) (.array 64 27) hr (by kernel_rfl) rfl info64 ?_
          refine wpList_store_row rfl 38 (.tmp 2) (.tmp 43) rfl (w.heap.size + 1) (arr 64 (vu32 F)) rfl rfl 38 Z hz info64 (hZ.trans (arr_size _ _).symm) (arr_one _ _) ?_
          clear hr
          have hres : (wr.setRow (w.heap.size + 1) (arr 64 (vu32 F))).heap[w.heap.size + 1]? = some (.cells (arr 64 (vu32 F)) 38 (0, 0)) := setRow_heap wr _ _ _ _ _ hz
          have hb2 := below_setRow hb (g := w.heap.size + 1) (by omega) (arr 64 (vu32 F))
          generalize wr.setRow (w.heap.size + 1) (arr 64 (vu32 F)) = wf at hres hb2 ⊢
          clear hz hb
          iterate 4 (try go_step)
          refine bodyPost_ret (results_cell_row rfl _ _ (w.heap.size + 1) 38 (arr 64 (vu32 F)) (0, 0) (.array 64 27) rfl hres (by kernel_rfl) rfl info64) rfl ⟨rfl, hb2⟩
end Sha
end Go.Proofs.YtkmphpkobjhleaaDoor
