/- geom: ForQuota, ForSectors and the reference's. -/
import Derived.Test.YtaocglbibnjjoaaGmMath
namespace Go.Proofs.Ytaocglbibnjjoaa
set_option maxRecDepth 20000
namespace Gm
open Go.RowKit

/-- a layout's cells -/
def gA (g : Gg) : Array Value := #[.int .i64 g.S, .int .i64 g.H, .int .i64 g.R, .int .i64 g.L, .int .i64 g.J, .int .i64 g.Z]

theorem undG : Try.prog.underlying 24 = some (.struct (Try.prog.fieldsOf 24)) := by kernel_rfl
theorem sizeG (g : Gg) : (Try.prog.info? 24).map (·.size) = some (gA g).size := by show _ = some 6; kernel_rfl
theorem results_2g {tmps : Array Value} {w : World} {B : Nat} {g : Gg} {e : Int} {fn : Func} {s r : Nat} (hf : fn.results = #[.cell s 24, .tmp r]) (h4 : tmps.getD s undef = .pointer (some ⟨B, 0, none⟩)) (h5 : tmps.getD r undef = .int .i64 e)
    (kV : w.heap[B]? = some (.cells (gA g) 24 (0, 0))) : (results fn tmps).run Try.prog w = .ok (.tuple #[.agg (gA g), .int .i64 e]) w := by
  have h4' : tmps[s]?.getD undef = .pointer (some ⟨B, 0, none⟩) := by simpa using h4
  have h5' : tmps[r]?.getD undef = .int .i64 e := by simpa using h5
  have hv := run_loadVar_row (P := Try.prog) w B 24 24 (gA g) (0, 0) _ kV undG rfl (sizeG g)
  simp [results, hf, h4', h5', asAddr, hv]

theorem allG (g : Gg) : (gA g).all (·.oneCell') = true := by simp [gA, Value.oneCell']
theorem w64_in (n : Int) (h : -9223372036854775808 ≤ n ∧ n ≤ 9223372036854775807) : wrap64 n = n := by unfold wrap64; omega
theorem below_row {K g : Nat} {w w' : World} (h : Below K w w') (hg : K ≤ g) (cs : Array Value) : Below K w (w'.setRow g cs) := h.trans ⟨rfl, rfl, rfl, by simp, fun k hk => setRow_other w' _ k _ (by omega)⟩
/-- a result's box, when a call has come back -/
theorem box_back {w w1 : World} {cs : Array Value} (hb : Below (w.alloc (.cells cs 24)).heap.size (w.alloc (.cells cs 24)) w1) : w1.heap[w.heap.size]? = some (.cells cs 24 (0, 0)) ∧ w.heap.size < w1.heap.size ∧ Below w.heap.size w w1 := by
  have hs := hb.size
  have e : (w.alloc (.cells cs 24)).heap.size = w.heap.size + 1 := by simp
  rw [e] at hb hs
  exact ⟨(hb.block _ (by omega)).trans (heap_alloc_new _ _), by omega, ((Below.refl _ _).alloc (Nat.le_refl _) _).trans (hb.mono (by omega))⟩

set_option maxHeartbeats 1000000 in
theorem forq_any (q : Int) (w : World) : Calls Try.prog 8 #[.int .i64 q] w fun e w' => e = .returned (.tuple #[.agg (gA (geo q)), .int .i64 (er q)]) ∧ Below w.heap.size w w' := by
  by_cases h1 : q < 4
  · have hn : ¬ inQ q := by unfold inQ; omega
    rw [geo_out hn, er_out hn]
    go_enter Try.func8, Try.ntmps8
    go_wp2_with fail
    refine bodyPost_ret (results_2g (g := zG) rfl rfl rfl (heap_alloc_new w _)) rfl ?_
    exact ⟨rfl, (Below.refl _ _).alloc (Nat.le_refl _) _⟩
  by_cases h2 : 900 < q
  · have hn : ¬ inQ q := by unfold inQ; omega
    rw [geo_out hn, er_out hn]
    go_enter Try.func8, Try.ntmps8
    go_wp2_with fail
    refine bodyPost_ret (results_2g (g := zG) rfl rfl rfl (heap_alloc_new w _)) rfl ?_
    exact ⟨rfl, (Below.refl _ _).alloc (Nat.le_refl _) _⟩
  · have hn : inQ q := by unfold inQ; omega
    rw [geo_in hn, er_in hn]
    clear hn
    go_enter Try.func8, Try.ntmps8
    go_wp2_with fail
    refine bodyPost_ret (results_2g (g := lay q) rfl rfl rfl (by rw [heap_alloc_new]; simp [gA, lay]; omega)) rfl ?_
    exact ⟨rfl, (Below.refl _ _).alloc (Nat.le_refl _) _⟩
set_option maxHeartbeats 1000000 in
theorem refforq_any (q : Int) (w : World) : Calls Try.prog 9 #[.int .i64 q] w fun e w' => e = .returned (.tuple #[.agg (gA (geo q)), .int .i64 (er q)]) ∧ Below w.heap.size w w' := by
  by_cases h1 : q < 4
  · have hn : ¬ inQ q := by unfold inQ; omega
    rw [geo_out hn, er_out hn]
    go_enter Try.func9, Try.ntmps9
    go_wp2_with fail
    refine bodyPost_ret (results_2g (g := zG) rfl rfl rfl (heap_alloc_new w _)) rfl ?_
    exact ⟨rfl, (Below.refl _ _).alloc (Nat.le_refl _) _⟩
  by_cases h2 : 900 < q
  · have hn : ¬ inQ q := by unfold inQ; omega
    rw [geo_out hn, er_out hn]
    go_enter Try.func9, Try.ntmps9
    go_wp2_with fail
    refine bodyPost_ret (results_2g (g := zG) rfl rfl rfl (heap_alloc_new w _)) rfl ?_
    exact ⟨rfl, (Below.refl _ _).alloc (Nat.le_refl _) _⟩
  · have hn : inQ q := by unfold inQ; omega
    rw [geo_in hn, er_in hn]
    clear hn
    go_enter Try.func9, Try.ntmps9
    go_wp2_with fail
    refine bodyPost_ret (results_2g (B := w.heap.size) (g := lay q) rfl rfl rfl ((((Below.refl (w.heap.size + 1) _).alloc (by simp) _).block w.heap.size (by omega)).trans (by rw [heap_alloc_new]; simp [gA, lay]; omega))) rfl ?_
    exact ⟨rfl, ((Below.refl _ _).alloc (Nat.le_refl _) _).alloc (by simp) _⟩
end Gm
end Go.Proofs.Ytaocglbibnjjoaa
