/- disk: New, and the reference's. -/
import Derived.Test.YtllejfnmbpjhaaaDoorDkTwins
namespace Go.Proofs.YtllejfnmbpjhaaaDoor
set_option maxRecDepth 20000
namespace Dk
open Go.RowKit

def newOk (k : Int) : Bool := decide (1 ≤ k) && decide (k ≤ 4096)
/-- what a call of New comes to -/
def News (w : World) (k : Int) (e : Ending) (w' : World) : Prop :=
  Below w.heap.size w w' ∧ if newOk k = true then ∃ b, e = .returned (.tuple #[.agg #[.slice (some ⟨b, 0, none⟩) k.toNat k.toNat, .slice none 0 0, .int .i64 (-1), .bool false], .int .i64 0]) ∧ Lay w' w'.heap.size w'.heap.size (some ⟨b, 0, none⟩) k.toNat k.toNat 130 (fun _ => secV sec0)
    else e = .returned (.tuple #[.agg #[.slice none 0 0, .slice none 0 0, .int .i64 0, .bool false], .int .i64 1])

theorem made_flat (n : Nat) : (madeCells (Value.agg (secV sec0).toArray).cells (n * 130)).toList = flat (fun _ => secV sec0) n := by
  apply List.ext_getElem?
  intro j
  have hfl := flat_length (T := fun _ => secV sec0) (k := 130) (n := n) (fun _ _ => secV_length _)
  by_cases hj : j < n * 130
  · have hr : j % 130 < (secV sec0).length := by rw [secV_length]; omega
    have e := flat_get (T := fun _ => secV sec0) (k := 130) (n := n) (i := j / 130) (r := j % 130) (v := (secV sec0)[j % 130]) (fun _ _ => secV_length _) (by omega) (List.getElem?_eq_getElem hr)
    rw [show j / 130 * 130 + j % 130 = j by omega] at e
    rw [e]
    have hsz : (Value.agg (secV sec0).toArray).cells = (secV sec0).toArray := rfl
    rw [hsz]
    simp only [madeCells, Array.toList_map, List.getElem?_map, Array.toList_range, List.size_toArray, secV_length]
    rw [List.getElem?_range hj]
    simp [hr]
  · rw [List.getElem?_eq_none (by simp [madeCells]; omega), List.getElem?_eq_none (by omega)]
theorem results_dt {tmps : Array Value} {w : World} {A : Nat} {u : Array Value} {v : Value} {fn : Func} (hf : fn.results = #[.cell 2 35, .tmp 3]) (h2 : tmps.getD 2 undef = .pointer (some ⟨A, 0, none⟩)) (h3 : tmps.getD 3 undef = v)
    (hA : w.heap[A]? = some (.cells u 35 (0, 0))) (su : u.size = 4) : (results fn tmps).run Tryd.prog w = .ok (.tuple #[.agg u, v]) w := by
  have h2' : tmps[2]?.getD undef = .pointer (some ⟨A, 0, none⟩) := by simpa using h2
  have h3' : tmps[3]?.getD undef = v := by simpa using h3
  have k2 := run_loadVar_row (P := Tryd.prog) w A 35 35 u (0, 0) _ hA Tryd.underlying35 rfl (by rw [su]; kernel_rfl)
  simp [results, hf, h2', h3', asAddr, k2]

set_option maxRecDepth 100000 in
set_option maxHeartbeats 1000000 in
theorem new_any (k : Int) (w : World) : Calls Tryd.prog 44 #[.int .i64 k] w (News w k) := by
  have hlt : w.heap.size < (w.alloc (.cells #[.slice none 0 0, .slice none 0 0, .int .i64 0, .bool false] 35)).heap.size := by simp
  by_cases hok : newOk k = true
  · have h0 := hok
    simp only [newOk, Bool.and_eq_true, decide_eq_true_eq] at h0
    obtain ⟨h1, h2⟩ := h0
    obtain ⟨i0, hi, hz0, hz1, hz2⟩ := info_parts info_sec
    have HOK := Lib.hid hok
    clear hok
    obtain ⟨n, rfl⟩ : ∃ n : Nat, k = n := ⟨k.toNat, by omega⟩
    go_enter Tryd.func44, Tryd.ntmps44
    go_wp2_with (first
      | (at_make; refine wpList_make_full _ rfl (.tmp 11) (.tmp 11) 32 rfl w.heap.size 56 i0 _ 130 slice_sec hi hz0 hz1 .i64 .i64 n n n rfl rfl rfl rfl (by rw [hz2]; omega) (maxLen_ge (by omega)) (by simp) ?_; intro w1 hs1 hg1
         have hb1 : Below w.heap.size w w1 := ((Below.refl _ _).alloc (Nat.le_refl _) _).grown hg1 (by simp) (fun k hk => by cases hk)
         have hr1 : w1.heap[w.heap.size]? = some (.cells #[.slice none 0 0, .slice none 0 0, .int .i64 0, .bool false] 35 (0, 0)) := (hg1.block _ (by simp) (by simp)).trans (heap_alloc_new w _)
         have hs2 := hs1
         simp only [World.size_alloc] at hs2
         clear hs1 hg1)
      | (refine wpList_store_row rfl 35 (.tmp 2) (.tmp 13) rfl w.heap.size #[.slice (some ⟨w.heap.size + 1, 0, none⟩) n n, .slice none 0 0, .int .i64 (-1), .bool false] rfl rfl 35 _ hr1 (by kernel_rfl) rfl (disk_one _ _ _ _ _ _ _ _) ?_; simp only [Act.put]))
    have hrow := setRow_heap w1 w.heap.size _ #[.slice (some ⟨w.heap.size + 1, 0, none⟩) n n, .slice none 0 0, .int .i64 (-1), .bool false] 35 (0, 0) hr1
    refine bodyPost_ret (results_dt rfl rfl rfl hrow rfl) rfl ?_
    have hrg : w1.grownBy (w1.setRow w.heap.size #[.slice (some ⟨w.heap.size + 1, 0, none⟩) n n, .slice none 0 0, .int .i64 (-1), .bool false]) (some w.heap.size) := ⟨rfl, rfl, rfl, by simp, fun i _ hr => setRow_other _ _ _ _ (by simpa using hr)⟩
    have hown : (w1.setRow w.heap.size #[.slice (some ⟨w.heap.size + 1, 0, none⟩) n n, .slice none 0 0, .int .i64 (-1), .bool false]).ownsRow w.heap.size 56 130 (.slice (some ⟨w.heap.size + 1, 0, none⟩) n n) n (flat (fun _ => secV sec0) n) := by
      rw [← made_flat]
      exact hs2.kept hrg (.inr (by simp [Value.ownBlock]))
    refine ⟨hb1.grown hrg hb1.size (fun k hk => by injection hk with hk; omega), ?_⟩
    rw [if_pos HOK.out, Int.toNat_natCast]
    exact ⟨w.heap.size + 1, rfl, lay_own (fun _ _ => secV_length _) hown (.inr (Nat.le_refl _))⟩
  · have hno : newOk k = false := by simpa using hok
    have hc : k < 1 ∨ (¬ k < 1 ∧ 4096 < k) := by
      simp only [newOk, Bool.and_eq_false_iff, decide_eq_false_iff_not] at hno
      omega
    have HNO := Lib.hid hno
    clear hok hno
    rcases hc with h1 | ⟨h1, h2⟩
    all_goals
      go_enter Tryd.func44, Tryd.ntmps44
      go_wp2_with (refine wpList_store_row rfl 35 (.tmp 2) (.tmp 10) rfl w.heap.size #[.slice none 0 0, .slice none 0 0, .int .i64 0, .bool false] rfl rfl 35 _ (heap_alloc_new w _) (by kernel_rfl) rfl (disk_one _ _ _ _ _ _ _ _) ?_; rw [World.setRow_alloc_new]; simp only [Act.put])
      refine bodyPost_ret (results_dt rfl rfl rfl (heap_alloc_new w _) rfl) rfl ?_
      refine ⟨(Below.refl _ _).alloc (Nat.le_refl _) _, ?_⟩
      rw [if_neg (by rw [HNO.out]; simp)]
      all_goals rfl

end Dk
end Go.Proofs.YtllejfnmbpjhaaaDoor
