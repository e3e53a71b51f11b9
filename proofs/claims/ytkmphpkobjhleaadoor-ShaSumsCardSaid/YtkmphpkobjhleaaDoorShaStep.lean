import Derived.Test.YtkmphpkobjhleaaDoorShaSpread
import Derived.Lib.QuietBelow
namespace Go.Proofs.YtkmphpkobjhleaaDoor
namespace Sha
open Go.RowKit Go.Sort

/-- one whole array is read in every world of the class -/
theorem quiet_load_row {P : Program} {C : World → Prop} {o : Oper} {a : Act} {K : Act → Prop} (ty : TypeId) (x : Operand) (ho : o.op = .load ty x) (g : Nat) (hx : a.eval x = .pointer (some ⟨g, 0, none⟩)) (t : TypeId) (cs : Array Value) (fr : Nat × Nat) (d : TypeDesc)
    (hg : ∀ w, C w → w.heap[g]? = some (.cells cs t fr)) (hu : P.underlying ty = some d) (hd : (match d with | .struct _ | .array _ _ => true | _ => false) = true) (hi : (P.info? ty).map (·.size) = some cs.size) (h : K (a.put o.dst (.agg cs))) : o.quiet P a C K := by
  refine ⟨.agg cs, fun w hw => ?_, h⟩
  unfold Oper.quietAt execOp
  simp only [ho, hx, Instr.loadAt, Instr.sureAddr, Sem.run_bind, Sem.run_pure, Result.andThen_ok, run_loadVar_row w g t ty cs fr d (hg w hw) hu hd hi]
  exact ⟨rfl, rfl⟩

def S8.at (s : S8) : Nat → Int
  | 0 => s.a
  | 1 => s.b
  | 2 => s.c
  | 3 => s.d
  | 4 => s.e
  | 5 => s.f
  | 6 => s.g
  | _ => s.h
theorem vals_arr (s : S8) : s.vals = arr 8 (vu32 s.at) := by kernel_rfl
def addS (z s : S8) : S8 := ⟨(z.a + s.a) % 4294967296, (z.b + s.b) % 4294967296, (z.c + s.c) % 4294967296, (z.d + s.d) % 4294967296, (z.e + s.e) % 4294967296, (z.f + s.f) % 4294967296, (z.g + s.g) % 4294967296, (z.h + s.h) % 4294967296⟩
def addK (z s : S8) (k : Nat) : Nat → Int := fun i => if i < k then (z.at i + s.at i) % 4294967296 else z.at i
theorem addK_next (z s : S8) (k i : Nat) : addK z s (k + 1) i = if i = k then (z.at k + s.at k) % 4294967296 else addK z s k i := by
  unfold addK
  by_cases h : i = k
  · subst h; simp
  · have : i < k + 1 ↔ i < k := by omega
    simp [h, this]
theorem addK_zero (z s : S8) : addK z s 0 = z.at := by
  funext i; simp [addK]
theorem addK_end (z s : S8) : arr 8 (vu32 (addK z s 8)) = (addS z s).vals := by
  rw [vals_arr]
  refine arr_congr fun i hi => ?_
  simp only [vu32, addK, hi, if_true]
  match i, hi with
  | 0, _ => rfl
  | 1, _ => rfl
  | 2, _ => rfl
  | 3, _ => rfl
  | 4, _ => rfl
  | 5, _ => rfl
  | 6, _ => rfl
  | 7, _ => rfl
  | n + 8, h => omega
theorem churn_at (s : S8) (W : Array Value) (w : World) (K wt : Nat → Int)
    (hK : ∀ k, k < 64 → w.cell? ⟨0, k, none⟩ = some (.int .u32 (K k))) (hW : ∀ k, k < 64 → W[k]? = some (vu32 wt k)) (hz : 0 < w.heap.size) :
    Calls Tryd.prog 18 #[.agg (arr 8 (vu32 s.at)), .agg W] w fun e w' => e = .returned (.agg (arr 8 (vu32 (stp s K wt 64).at))) ∧ Below w.heap.size w w' := by
  rw [← vals_arr, ← vals_arr]
  exact churn_any s W w K wt hK hW hz
def stepS (K : Nat → Int) (s : S8) (x : Nat → Int) : S8 := addS (stp s K (ws x 48) 64) s

theorem zeros8 : (#[.int .u32 0, .int .u32 0, .int .u32 0, .int .u32 0, .int .u32 0, .int .u32 0, .int .u32 0, .int .u32 0] : Array Value) = arr 8 (vu32 fun _ => 0) := by kernel_rfl
theorem info8 {f : Nat → Value} : (Tryd.prog.info? 28).map (·.size) = some (arr 8 f).size := by
  rw [arr_size]; kernel_rfl
theorem infob {f : Nat → Value} : (Tryd.prog.info? 29).map (·.size) = some (arr 64 f).size := by
  rw [arr_size]; kernel_rfl

/-- the boxes of a step's call -/
theorem boxes (w : World) (A B Z : Array Value) (ta tb tz : TypeId) : ∀ W, W = ((w.alloc (.cells A ta)).alloc (.cells B tb)).alloc (.cells Z tz) →
    W.heap[w.heap.size]? = some (.cells A ta (0, 0)) ∧ W.heap[w.heap.size + 1]? = some (.cells B tb (0, 0)) ∧ W.heap[w.heap.size + 1 + 1]? = some (.cells Z tz (0, 0)) ∧ Below w.heap.size w W ∧ w.heap.size + 1 + 1 < W.heap.size := by
  rintro W rfl
  refine ⟨?_, ?_, ?_, (((Below.refl _ _).alloc (Nat.le_refl _) _).alloc (by simp) _).alloc (by simp; omega) _, by simp⟩
  · rw [heap_alloc_old _ _ (by simp; omega), heap_alloc_old _ _ (by simp)]; exact heap_alloc_new _ _
  · rw [heap_alloc_old _ _ (by simp)]
    have e : w.heap.size + 1 = (w.alloc (.cells A ta)).heap.size := by simp
    rw [e]; exact heap_alloc_new _ _
  · have e : w.heap.size + 1 + 1 = ((w.alloc (.cells A ta)).alloc (.cells B tb)).heap.size := by simp
    rw [e]; exact heap_alloc_new _ _

/-- the world of Step's loop behind k additions: the sums lie in block g -/
structure AddW (g : Nat) (s z : S8) (w : World) (k : Nat) (wr : World) : Prop where
  sums : wr.heap[g]? = some (.cells (arr 8 (vu32 (addK z s k))) 28 (0, 0))
  old : wr.heap[w.heap.size]? = some (.cells (arr 8 (vu32 s.at)) 28 (0, 0))
  res : wr.heap[w.heap.size + 1 + 1]? = some (.cells (arr 8 (vu32 fun _ => 0)) 28 (0, 0))
  below : Below w.heap.size w wr
  far : w.heap.size + 1 + 1 < g
  lt : g < wr.heap.size

theorem AddW.cell {g : Nat} {s z : S8} {w : World} {k : Nat} {wr : World} (h : AddW g s z w k wr) (hk : k < 8) : wr.cell? ⟨g, k, none⟩ = some (.int .u32 (z.at k)) := by
  rw [cell_of_row wr g k _ _ _ h.sums, arr_get _ hk]
  simp [vu32, addK]
theorem AddW.oldCell {g : Nat} {s z : S8} {w : World} {k : Nat} {wr : World} (h : AddW g s z w k wr) {j : Nat} (hj : j < 8) : wr.cell? ⟨w.heap.size, j, none⟩ = some (.int .u32 (s.at j)) := by
  rw [cell_of_row wr _ j _ _ _ h.old, arr_get _ hj]
  rfl
theorem AddW.free {g : Nat} {s z : S8} {w : World} {k : Nat} {wr : World} (h : AddW g s z w k wr) (j : Nat) : wr.frozen? ⟨g, j, none⟩ = false := frozen_of_row wr g j _ _ h.sums
theorem AddW.next {g : Nat} {s z : S8} {w : World} {k : Nat} {wr : World} (h : AddW g s z w k wr) (_hk : k < 8) (n : Nat) :
    AddW g s z w (k + 1) ((wr.drewN n).setCell ⟨g, k, none⟩ (.int .u32 ((z.at k + s.at k) % 4294967296))) := by
  have hf := h.far
  refine ⟨?_, ?_, ?_, (below_drewN h.below n).setCell (by simp only []; omega) _, h.far, by simpa using h.lt⟩
  · rw [heap_setCell_same (wr.drewN n) g k (arr 8 (vu32 (addK z s k))) _ _ h.sums, arr_set]
    congr 2
    refine arr_congr fun i _ => ?_
    simp only [vu32, addK_next]
    split <;> rfl
  · rw [heap_setCell_other _ _ _ _ (by simp only []; omega)]; exact h.old
  · rw [heap_setCell_other _ _ _ _ (by simp only []; omega)]; exact h.res

/-- what holds while the first statement of Step is carried out, in whatever order -/
def StepInv (s z : S8) (x : Nat → Int) (w W : World) (L : Nat → Bool) (a : Act) (w' : World) : Prop :=
  ∃ u5 u7 u8 u9 u10, a = { tmps := #[.agg (arr 8 (vu32 s.at)), .agg (arr 64 (vu8 x)), .pointer (some ⟨w.heap.size, 0, none⟩), .pointer (some ⟨w.heap.size + 1, 0, none⟩), .pointer (some ⟨w.heap.size + 1 + 1, 0, none⟩), u5, undef, u7, u8, u9, u10,
      undef, undef, undef, undef, undef, undef, undef, undef, undef, undef, undef, undef, undef], defers := [] } ∧ (L 0 = true → u7 = .agg (arr 8 (vu32 s.at))) ∧ (L 1 = true → u8 = .agg (arr 64 (vu8 x))) ∧ (L 2 = true → u9 = .agg (arr 64 (vu32 (ws x 48)))) ∧
      (L 3 = true → u10 = .agg (arr 8 (vu32 z.at))) ∧ (L 4 = true → ∃ g, u5 = .pointer (some ⟨g, 0, none⟩) ∧ W.heap.size ≤ g ∧ g < w'.heap.size ∧ w'.heap[g]? = some (.cells (arr 8 (vu32 fun _ => 0)) 28 (0, 0))) ∧ Below W.heap.size W w'

set_option maxHeartbeats 400000 in
theorem step_any (s : S8) (x : Nat → Int) (w : World) (K : Nat → Int) (hx : ∀ j, j < 64 → 0 ≤ x j ∧ x j < 256)
    (hK : ∀ k, k < 64 → w.cell? ⟨0, k, none⟩ = some (.int .u32 (K k))) (hz : 0 < w.heap.size) :
    Calls Tryd.prog 12 #[.agg (arr 8 (vu32 s.at)), .agg (arr 64 (vu8 x))] w fun e w' => e = .returned (.agg (arr 8 (vu32 (stepS K s x).at))) ∧ Below w.heap.size w w' := by
  have HX := Lib.hid hx
  have HK := Lib.hid hK
  clear hx hK
  obtain ⟨F, hF0⟩ : ∃ F, F = stepS K s x := ⟨_, rfl⟩
  obtain ⟨z, hz0⟩ : ∃ z, z = stp s K (ws x 48) 64 := ⟨_, rfl⟩
  rw [← hF0]
  have HF := Lib.hid hF0
  have HZ := Lib.hid hz0
  clear hF0 hz0
  go_enter Tryd.func12, Tryd.ntmps12
  go_wp2_with fail
  have hbx := boxes w (arr 8 (vu32 s.at)) (arr 64 (vu8 x)) #[.int .u32 0, .int .u32 0, .int .u32 0, .int .u32 0, .int .u32 0, .int .u32 0, .int .u32 0, .int .u32 0] 28 29 28 _ rfl
  generalize ((w.alloc (.cells (arr 8 (vu32 s.at)) 28)).alloc (.cells (arr 64 (vu8 x)) 29)).alloc (.cells #[.int .u32 0, .int .u32 0, .int .u32 0, .int .u32 0, .int .u32 0, .int .u32 0, .int .u32 0, .int .u32 0] 28) = W at hbx ⊢
  obtain ⟨b0, b1, b2, hb, hs⟩ := hbx
  have KW : ∀ w', Below W.heap.size W w' → ∀ k, k < 64 → w'.cell? ⟨0, k, none⟩ = some (.int .u32 (K k)) := fun w' hw k hk => by
    rw [hw.cell (show 0 < W.heap.size by omega), hb.cell (show 0 < w.heap.size from hz)]; exact HK.out k hk
  have HKW := Lib.hid KW
  have B0 := Lib.hid b0
  have B1 := Lib.hid b1
  have B2 := Lib.hid b2
  clear KW b0 b1 b2
  refine QuietTail.regionInv (n := 5) (Inv := StepInv s z x w W)
    (by kernel_rfl) (by decide) (by kernel_rfl) ⟨_, _, _, _, _, rfl, by simp, by simp, by simp, by simp, by simp, ⟨rfl, rfl, rfl, Nat.le_refl _, fun _ _ => rfl⟩⟩ ?step ?fin
  case step =>
    rintro i o hi ho L a w' ⟨u5, u7, u8, u9, u10, rfl, i0, i1, i2, i3, i4, iB⟩ hL hpre
    match i, hi with
    | 0, _ =>
      simp at ho
      subst ho
      refine wp_load_row 28 (.tmp 2) rfl w.heap.size rfl 28 (arr 8 (vu32 s.at)) (0, 0) (.array 8 27) ((iB.block _ (by omega)).trans B0.out) (by kernel_rfl) rfl info8 ?_
      exact ⟨u5, _, u8, u9, u10, rfl, fun _ => rfl, fun h => i1 (by simpa using h), fun h => i2 (by simpa using h), fun h => i3 (by simpa using h), fun h => i4 (by simpa using h), iB⟩
    | 1, _ =>
      simp at ho
      subst ho
      refine wp_load_row 29 (.tmp 3) rfl (w.heap.size + 1) rfl 29 (arr 64 (vu8 x)) (0, 0) (.array 64 5) ((iB.block _ (by omega)).trans B1.out) (by kernel_rfl) rfl infob ?_
      exact ⟨u5, u7, _, u9, u10, rfl, fun h => i0 (by simpa using h), fun _ => rfl, fun h => i2 (by simpa using h), fun h => i3 (by simpa using h), fun h => i4 (by simpa using h), iB⟩
    | 2, _ =>
      simp at ho
      subst ho
      obtain rfl := i1 (hpre 1 (by kernel_rfl))
      go_simp
      refine (spread_any x w' HX.out).mono ?_
      rintro _ w'' ⟨rfl, hb2⟩
      have hsz := iB.size
      refine ⟨u5, u7, _, _, u10, rfl, fun h => i0 (by simpa using h), fun _ => rfl, fun _ => rfl, fun h => i3 (by simpa using h), fun h => ?_, iB.trans (hb2.mono hsz)⟩
      obtain ⟨g, e, g1, g2, g3⟩ := i4 (by simpa using h)
      exact ⟨g, e, g1, Nat.lt_of_lt_of_le g2 hb2.size, (hb2.block g g2).trans g3⟩
    | 3, _ =>
      simp at ho
      subst ho
      obtain rfl := i0 (hpre 0 (by kernel_rfl))
      obtain rfl := i2 (hpre 2 (by kernel_rfl))
      have hsz := iB.size
      go_simp
      refine (churn_at s _ w' K (ws x 48) (HKW.out w' iB) (fun k hk => arr_get _ hk) (by omega)).mono ?_
      rw [← HZ.out]
      rintro _ w'' ⟨rfl, hb2⟩
      refine ⟨u5, _, u8, _, _, rfl, fun _ => rfl, fun h => i1 (by simpa using h), fun _ => rfl, fun _ => rfl, fun h => ?_, iB.trans (hb2.mono hsz)⟩
      obtain ⟨g, e, g1, g2, g3⟩ := i4 (by simpa using h)
      exact ⟨g, e, g1, Nat.lt_of_lt_of_le g2 hb2.size, (hb2.block g g2).trans g3⟩
    | 4, _ =>
      simp at ho
      subst ho
      have hsz := iB.size
      go_simp
      exact ⟨_, u7, u8, u9, u10, rfl, fun h => i0 (by simpa using h), fun h => i1 (by simpa using h), fun h => i2 (by simpa using h), fun h => i3 (by simpa using h),
        fun _ => ⟨w'.heap.size, rfl, hsz, by simp, by rw [zeros8]; exact heap_alloc_new _ _⟩, iB.alloc hsz _⟩
    | n + 5, h => omega
  case fin =>
    rintro L a w' hall ⟨u5, u7, u8, u9, u10, rfl, i0, i1, i2, i3, i4, iB⟩
    obtain rfl := i0 (hall 0 (by omega))
    obtain rfl := i1 (hall 1 (by omega))
    obtain rfl := i2 (hall 2 (by omega))
    obtain rfl := i3 (hall 3 (by omega))
    obtain ⟨g, rfl, g1, g2, g3⟩ := i4 (hall 4 (by omega))
    clear i0 i1 i2 i3 i4 hall
    simp only [List.drop_succ_cons, List.drop_zero]
    refine wpList_store_row rfl 28 (.tmp 5) (.tmp 10) rfl g (arr 8 (vu32 z.at)) rfl rfl 28 _ g3 info8 (by rw [arr_size, arr_size]) (arr_one _ _) ?_
    have hg : (w'.setRow g (arr 8 (vu32 z.at))).heap[g]? = some (.cells (arr 8 (vu32 z.at)) 28 (0, 0)) := setRow_heap w' _ _ _ _ _ g3
    have hbf := below_setRow iB (g := g) g1 (arr 8 (vu32 z.at))
    have hsz : (w'.setRow g (arr 8 (vu32 z.at))).heap.size = w'.heap.size := size_setRow _ _ _
    generalize w'.setRow g (arr 8 (vu32 z.at)) = wf at hg hbf hsz ⊢
    have hbw : Below w.heap.size w wf := hb.trans (hbf.mono (by omega))
    have h0 : wf.heap[w.heap.size]? = some (.cells (arr 8 (vu32 s.at)) 28 (0, 0)) := (hbf.block _ (by omega)).trans B0.out
    have h2 : wf.heap[w.heap.size + 1 + 1]? = some (.cells (arr 8 (vu32 fun _ => 0)) 28 (0, 0)) := by rw [hbf.block _ (by omega), B2.out, zeros8]
    have hgs : g < wf.heap.size := by omega
    clear hsz hbf g3 iB g2 HKW B0 B1 B2
    have H0 : Hid (AddW g s z w 0 wf) := ⟨by rw [addK_zero]; exact hg, h0, h2, hbw, by omega, hgs⟩
    clear hg h0 h2 hbw hgs hb
    simp only [Act.put]
    go_wp2_with fail
    go_loopw [11] (fun i wr => ∃ k : Nat, k ≤ 8 ∧ i = .int .i64 k ∧ AddW g s z w k wr) (fun i _ => 8 - (intOf i).toNat)
    case atStart => exact ⟨0, by omega, rfl, H0.out⟩
    case round =>
      clear H0
      obtain ⟨k, hk, rfl, hA⟩ := hrel
      by_cases hlt : k < 8
      · have c1 := hA.cell hlt
        have c0 := hA.oldCell hlt
        have cf := hA.free k
        go_wp2_with fail
        refine QuietTail.region (n := 8) (C := fun w' => ∃ n, w' = wr.drewN n) (by kernel_rfl) (by decide) (by kernel_rfl) (by kernel_rfl) ⟨1, rfl⟩ ?_
        simp only [List.take_succ_cons, List.take_zero, List.drop_succ_cons, List.drop_zero]
        repeat (go_big_quiet_step (fail))
        refine wpQuiet_nil ?_
        rintro _ ⟨nq, rfl⟩
        go_wp2
        go_roundw
        case rel => exact ⟨k + 1, by omega, by go_num, hA.next hlt nq⟩
        case measure => simp [intOf]; omega
      · obtain rfl : k = 8 := by omega
        have hg := hA.sums
        have h2 := hA.res
        have hb := hA.below
        rw [addK_end, vals_arr, show addS z s = F by rw [HF.out, HZ.out]; rfl] at hg
        clear hA hk hlt HF HZ HK HX
        have hres : (wr.setRow (w.heap.size + 1 + 1) (arr 8 (vu32 F.at))).heap[w.heap.size + 1 + 1]? = some (.cells (arr 8 (vu32 F.at)) 28 (0, 0)) := setRow_heap wr _ _ _ _ _ h2
        have hb2 := below_setRow hb (g := w.heap.size + 1 + 1) (by omega) (arr 8 (vu32 F.at))
        repeat (first
          | (refine wpList_load_row rfl 28 (.tmp 5) rfl g rfl 28 (arr 8 (vu32 F.at)) (0, 0) (.array 8 27) hg (by kernel_rfl) rfl info8 ?_)
          | (refine wpList_store_row rfl 28 (.tmp 4) (.tmp 23) rfl (w.heap.size + 1 + 1) (arr 8 (vu32 F.at)) rfl rfl 28 _ h2 info8 (by rw [arr_size, arr_size]) (arr_one _ _) ?_)
          | go_step)
        refine bodyPost_ret (results_cell_row rfl _ _ (w.heap.size + 1 + 1) 28 (arr 8 (vu32 F.at)) (0, 0) (.array 8 27) rfl hres (by kernel_rfl) rfl info8) rfl ⟨rfl, hb2⟩

end Sha
end Go.Proofs.YtkmphpkobjhleaaDoor
