/- remap: Read. -/
import Derived.Test.YtllejfnmbpjhaaaDoorRmHome
namespace Go.Proofs.YtllejfnmbpjhaaaDoor
set_option maxRecDepth 20000
namespace Rm
open Go.RowKit Dk Byt

attribute [local go_sem] zv29
attribute [local go_sem] zc29
def rV (n : Nat) (X : Dst) (gen : Int) (k : Nat) (F T : Nat → Int) (x : Int) : Nat → Int := if homeB n X gen k F T x then rdV n X.m X.S X.C X.d (atT F T k x) else fun _ => 0
def rE (n : Nat) (X : Dst) (gen : Int) (k : Nat) (F T : Nat → Int) (x : Int) : Int := if homeB n X gen k F T x then rdE n X.m X.S X.C X.d (atT F T k x) else 1

theorem results_rm {tmps : Array Value} {w : World} {B : Nat} {D : Nat → Int} {e : Int} {fn : Func} (hf : fn.results = #[.cell 6 22, .tmp 7]) (h4 : tmps.getD 6 undef = .pointer (some ⟨B, 0, none⟩)) (h5 : tmps.getD 7 undef = .int .i64 e)
    (kV : w.heap[B]? = some (.cells (bl D).toArray 22 (0, 0))) : (results fn tmps).run Tryd.prog w = .ok (.tuple #[.agg (bl D).toArray, .int .i64 e]) w := by
  have h4' : tmps[6]?.getD undef = .pointer (some ⟨B, 0, none⟩) := by simpa using h4
  have h5' : tmps[7]?.getD undef = .int .i64 e := by simpa using h5
  have hv := run_loadVar_row (P := Tryd.prog) w B 22 22 (bl D).toArray (0, 0) _ kV und29 rfl (size_bl' D)
  simp [results, hf, h4', h5', asAddr, hv]

set_option maxRecDepth 100000 in
set_option maxHeartbeats 2000000 in
theorem read_d {w : World} {g n : Nat} {X : Dst} (h : HasD w g n X) (gen : Int) (k : Nat) (F T : Nat → Int) (pa : Option Addr) (cap q : Nat) (x : Int) (hl : Lay w w.heap.size q pa k cap 2 (prV F T)) (hk : k ≤ 140737488355328) (hF : ∀ i, i < k → i64 (F i) ∧ i64 (T i)) :
    Calls Tryd.prog 17 #[.pointer (some ⟨g, 0, none⟩), .agg #[.int .i64 gen, .slice pa k cap], .int .i64 x] w fun e w' => e = .returned (.tuple #[.agg (bl (rV n X gen k F T x)).toArray, .int .i64 (rE n X gen k F T x)]) ∧ Below w.heap.size w w' := by
  have HL := Lib.hid hl
  have HD := Lib.hid h
  have hgl := h.lt
  have HVV : Hid (rV n X gen k F T x = if homeB n X gen k F T x then rdV n X.m X.S X.C X.d (atT F T k x) else fun _ => 0) := Lib.hid rfl
  have HEE : Hid (rE n X gen k F T x = if homeB n X gen k F T x then rdE n X.m X.S X.C X.d (atT F T k x) else 1) := Lib.hid rfl
  have HHM := Lib.hid (fun W (h : HasD W g n X) hl => home_d h gen k F T pa cap q x hl hk hF)
  clear hl h
  generalize rV n X gen k F T x = V at HVV ⊢
  generalize rE n X gen k F T x = E at HEE ⊢
  generalize homeB n X gen k F T x = b at HVV HEE HHM
  go_enter Tryd.func17, Tryd.ntmps17
  go_wp2_with fail
  generalize hW : (w.alloc (.cells #[.int .i64 gen, .slice pa k cap] 26)).alloc (.cells (bl fun _ => 0).toArray 22) = W
  have hB0 : Below w.heap.size w W := by rw [← hW]; exact ((Below.refl _ _).alloc (Nat.le_refl _) _).alloc (by simp) _
  have hx0 : W.heap[w.heap.size]? = some (.cells #[.int .i64 gen, .slice pa k cap] 26 (0, 0)) := by rw [← hW]; exact (Below.heap_alloc _ _ _ (by simp)).trans (heap_alloc_new w _)
  have hr0 : W.heap[w.heap.size + 1]? = some (.cells (bl fun _ => 0).toArray 22 (0, 0)) := by
    rw [← hW]
    have := heap_alloc_new (w.alloc (.cells #[.int .i64 gen, .slice pa k cap] 26)) (.cells (bl fun _ => 0).toArray 22)
    rwa [World.size_alloc] at this
  have hs0 : W.heap.size = w.heap.size + 2 := by rw [← hW]; simp
  clear hW
  refine (HHM.out W (HD.out.below hB0) ((HL.out.below hB0).more (by omega))).mono ?_
  rintro _ w1 ⟨rfl, hb1⟩
  have hx1 := (hb1.block w.heap.size (by omega)).trans hx0
  have hr1 := (hb1.block (w.heap.size + 1) (by omega)).trans hr0
  have hB : Below w.heap.size w w1 := hB0.trans (hb1.mono (by omega))
  have hs1 := hb1.size
  clear hB0 hb1 hx0 hr0 HHM
  dsimp only
  cases b with
  | false =>
    go_wp2_with (first
      | (refine wpList_buildTo rfl 22 #[] rfl _ rfl (bl fun _ => 0).toArray built29 ?_; simp only [Act.put, List.setIfInBounds_toArray, List.set_cons_succ, List.set_cons_zero])
      | (refine wpList_store_row rfl 22 (.tmp 6) (.tmp 13) rfl (w.heap.size + 1) (bl fun _ => 0).toArray rfl rfl 22 _ hr1 (size_bl' _) rfl (bl_all _) ?_; simp only [Act.put]))
    have hr2 := setRow_heap w1 (w.heap.size + 1) _ (bl fun _ => 0).toArray 22 (0, 0) hr1
    refine bodyPost_ret (results_rm rfl rfl rfl hr2) rfl ?_
    exact ⟨by rw [HVV.out, HEE.out]; rfl, hB.trans ⟨rfl, rfl, rfl, by simp, fun k hk => setRow_other w1 _ k _ (by omega)⟩⟩
  | true =>
    have c0 : w1.cell? ⟨w.heap.size, 0, none⟩ = some (.int .i64 gen) := by rw [cell_of_row _ _ _ _ _ _ hx1]; rfl
    have c1 : w1.cell? ⟨w.heap.size, 1, none⟩ = some (.slice pa k cap) := by rw [cell_of_row _ _ _ _ _ _ hx1]; rfl
    clear hx1
    go_wp2_with fail
    refine (at_any gen k F T pa cap q x w1 ((HL.out.below hB).more hB.size) hk).mono ?_
    rintro _ w2 ⟨rfl, hb2⟩
    have hB2 := hB.trans (hb2.mono hB.size)
    have hr2 := (hb2.block (w.heap.size + 1) (by omega)).trans hr1
    have hs2 := hb2.size
    clear c0 c1 hr1 hb2
    obtain ⟨sa, sc, ca, cc, hH2⟩ := HD.out.below hB2
    dsimp only
    go_wp2_with fail
    refine (read_any g sa ca n sc X.m cc X.S X.C X.f X.d (atT F T k x) w2 hH2).mono ?_
    rintro _ w3 ⟨rfl, hb3⟩
    have HV1 : Hid (V = rdV n X.m X.S X.C X.d (atT F T k x)) := Lib.hid (by rw [HVV.out]; rfl)
    have HE1 : Hid (E = rdE n X.m X.S X.C X.d (atT F T k x)) := Lib.hid (by rw [HEE.out]; rfl)
    clear HVV HEE
    generalize rdV n X.m X.S X.C X.d (atT F T k x) = V' at HV1
    generalize rdE n X.m X.S X.C X.d (atT F T k x) = E' at HE1
    have hB3 := hB2.trans (hb3.mono hB2.size)
    have hr3 := (hb3.block (w.heap.size + 1) (by omega)).trans hr2
    clear hr2 hb3 hH2
    dsimp only
    go_wp2_with (refine wpList_store_row rfl 22 (.tmp 6) (.tmp 19) rfl (w.heap.size + 1) (bl V').toArray rfl rfl 22 _ hr3 (size_bl' _) rfl (bl_all _) ?_; simp only [Act.put])
    have hr4 := setRow_heap w3 (w.heap.size + 1) _ (bl V').toArray 22 (0, 0) hr3
    refine bodyPost_ret (results_rm rfl rfl rfl hr4) rfl ?_
    exact ⟨by rw [HV1.out, HE1.out], hB3.trans ⟨rfl, rfl, rfl, by simp, fun k hk => setRow_other w3 _ k _ (by omega)⟩⟩
end Rm
end Go.Proofs.YtllejfnmbpjhaaaDoor
