/- remap: home, Read. -/
import Derived.Test.YtllejfnmbpjhaaaDoorRmDisk
import Derived.Test.YtllejfnmbpjhaaaDoorDkSame
namespace Go.Proofs.YtllejfnmbpjhaaaDoor
set_option maxRecDepth 20000
namespace Rm
open Go.RowKit Dk Byt

def homeB (n : Nat) (X : Dst) (gen : Int) (k : Nat) (F T : Nat → Int) (x : Int) : Bool := decide (hfN n X ≠ 0) && rightB n gen k F T && lentB (hfN n X) x

set_option maxRecDepth 100000 in
set_option maxHeartbeats 2000000 in
theorem home_d {w : World} {g n : Nat} {X : Dst} (h : HasD w g n X) (gen : Int) (k : Nat) (F T : Nat → Int) (pa : Option Addr) (cap q : Nat) (x : Int) (hl : Lay w w.heap.size q pa k cap 2 (prV F T)) (hk : k ≤ 140737488355328) (hF : ∀ i, i < k → i64 (F i) ∧ i64 (T i)) :
    Calls Tryd.prog 50 #[.pointer (some ⟨g, 0, none⟩), .agg #[.int .i64 gen, .slice pa k cap], .int .i64 x] w fun e w' => e = .returned (.bool (homeB n X gen k F T x)) ∧ Below w.heap.size w w' := by
  have HL := Lib.hid hl
  have HD := Lib.hid h
  have hgl := h.lt
  have h47 := h.n47
  have hb0 : Below w.heap.size w (w.alloc (.cells #[.int .i64 gen, .slice pa k cap] 26)) := (Below.refl _ _).alloc (Nat.le_refl _) _
  have hx0 : (w.alloc (.cells #[.int .i64 gen, .slice pa k cap] 26)).heap[w.heap.size]? = some (.cells #[.int .i64 gen, .slice pa k cap] 26 (0, 0)) := heap_alloc_new _ _
  have hs0 : (w.alloc (.cells #[.int .i64 gen, .slice pa k cap] 26)).heap.size = w.heap.size + 1 := by simp
  have HV : Hid (homeB n X gen k F T x = (decide (hfN n X ≠ 0) && rightB n gen k F T && lentB (hfN n X) x)) := Lib.hid rfl
  have hbd := hfN_bd n X
  have HRI := Lib.hid (fun W hl => right_any n gen k F T pa cap q W hl hk hF)
  have HHA := Lib.hid (fun W h => half_d (w := W) (g := g) (n := n) (X := X) h)
  clear hl h
  generalize homeB n X gen k F T x = V at HV ⊢
  generalize hfN n X = hh at HV hbd HHA
  generalize rightB n gen k F T = R at HV HRI
  go_enter Tryd.func50, Tryd.ntmps50
  go_wp2_with fail
  generalize w.alloc (.cells #[.int .i64 gen, .slice pa k cap] 26) = W at hb0 hx0 hs0 ⊢
  refine (HHA.out W (HD.out.below hb0)).mono ?_
  rintro _ w1 ⟨rfl, hb1⟩
  have hx1 := (hb1.block w.heap.size (by omega)).trans hx0
  have hB : Below w.heap.size w w1 := hb0.trans (hb1.mono (by omega))
  have hl1 : w.heap.size < w1.heap.size := by have := hb1.size; omega
  obtain ⟨sa, sc, ca, cc, hH1⟩ := HD.out.below hB
  have c0 := hH1.bx.c0
  have hg1 := hH1.bx.lt
  have HC0 := Lib.hid (fun w' (hw' : Below w1.heap.size w1 w') => (hw'.cell (p := ⟨g, 0, none⟩) hg1).trans c0)
  have HM0 := Lib.hid (fun w' (hw' : Below w1.heap.size w1 w') => show w'.cell? ⟨w.heap.size, 0, none⟩ = some (.int .i64 gen) from (hw'.cell (p := ⟨w.heap.size, 0, none⟩) hl1).trans (by rw [cell_of_row _ _ _ _ _ _ hx1]; rfl))
  have HM1 := Lib.hid (fun w' (hw' : Below w1.heap.size w1 w') => show w'.cell? ⟨w.heap.size, 1, none⟩ = some (.slice pa k cap) from (hw'.cell (p := ⟨w.heap.size, 1, none⟩) hl1).trans (by rw [cell_of_row _ _ _ _ _ _ hx1]; rfl))
  have HLY := Lib.hid (fun w' (hw' : Below w1.heap.size w1 w') => (((HL.out.below hB).more hB.size).below hw').more hw'.size)
  clear hb0 hb1 hx0 hx1 hs0 hH1 HHA c0
  dsimp only
  go_wp2_with fail
  refine wp_region_quiet (C := fun w' => Below w1.heap.size w1 w') (by kernel_rfl) (by kernel_rfl) ⟨rfl, rfl, rfl, Nat.le_refl _, fun _ _ => rfl⟩ ?_
  refine q_move _ rfl rfl ?_
  simp only [Act.put, List.setIfInBounds_toArray, List.set_cons_succ, List.set_cons_zero]
  by_cases e0 : hh = 0
  · subst e0
    refine q_val (.bool false) rfl (fun w' hw' => by go_simp) ?_
    simp only [Act.put, List.setIfInBounds_toArray, List.set_cons_succ, List.set_cons_zero]
    refine q_move _ rfl rfl ?_
    simp only [Act.put, List.setIfInBounds_toArray, List.set_cons_succ, List.set_cons_zero]
    iterate 7
      refine BigFrame.wpQuiet_skip rfl ?_
      simp only [Act.put, List.setIfInBounds_toArray, List.set_cons_succ, List.set_cons_zero]
    refine q_val (.bool false) rfl (fun w' hw' => by go_simp) ?_
    simp only [Act.put, List.setIfInBounds_toArray, List.set_cons_succ, List.set_cons_zero]
    refine q_move _ rfl rfl ?_
    simp only [Act.put, List.setIfInBounds_toArray, List.set_cons_succ, List.set_cons_zero]
    iterate 3
      refine BigFrame.wpQuiet_skip rfl ?_
      simp only [Act.put, List.setIfInBounds_toArray, List.set_cons_succ, List.set_cons_zero]
    refine q_val (.bool false) rfl (fun w' hw' => by go_simp) ?_
    simp only [Act.put, List.setIfInBounds_toArray, List.set_cons_succ, List.set_cons_zero]
    refine q_val (.bool false) rfl (fun w' hw' => by go_simp) ?_
    simp only [Act.put, List.setIfInBounds_toArray, List.set_cons_succ, List.set_cons_zero]
    refine wpQuiet_nil ?_
    intro w' hw'
    go_wp2_with fail
    go_ret
    exact ⟨by rw [HV.out]; rfl, hB.trans (hw'.mono hB.size)⟩
  · have e1 : (hh != 0) = true := by simpa using e0
    have HV1 : Hid (V = (R && lentB hh x)) := Lib.hid (by rw [HV.out, decide_eq_true e0]; simp)
    refine q_val (.bool true) rfl (fun w' hw' => by go_simp) ?_
    simp only [Act.put, List.setIfInBounds_toArray, List.set_cons_succ, List.set_cons_zero]
    refine q_move _ rfl rfl ?_
    simp only [Act.put, List.setIfInBounds_toArray, List.set_cons_succ, List.set_cons_zero]
    refine q_val (.agg #[.int .i64 gen, .slice pa k cap]) rfl (fun w' hw' => by have k0 := HM0.out w' hw'; have k1 := HM1.out w' hw'; go_simp) ?_
    simp only [Act.put, List.setIfInBounds_toArray, List.set_cons_succ, List.set_cons_zero]
    refine q_move _ rfl rfl ?_
    simp only [Act.put, List.setIfInBounds_toArray, List.set_cons_succ, List.set_cons_zero]
    refine q_val (.pointer (some ⟨g, 0, none⟩)) rfl (fun w' hw' => by go_simp) ?_
    simp only [Act.put, List.setIfInBounds_toArray, List.set_cons_succ, List.set_cons_zero]
    refine q_val (.pointer (some ⟨g, 0, none⟩)) rfl (fun w' hw' => by go_simp) ?_
    simp only [Act.put, List.setIfInBounds_toArray, List.set_cons_succ, List.set_cons_zero]
    refine q_val (.slice sa n sc) rfl (fun w' hw' => by have k0 := HC0.out w' hw'; go_simp) ?_
    simp only [Act.put, List.setIfInBounds_toArray, List.set_cons_succ, List.set_cons_zero]
    refine q_val (.int .i64 n) rfl (fun w' hw' => by go_simp) ?_
    simp only [Act.put, List.setIfInBounds_toArray, List.set_cons_succ, List.set_cons_zero]
    refine q_call 63 _ (.bool R) rfl (fun w' => by go_simp) (fun w' hw' => (HRI.out w' (HLY.out w' hw')).mono fun e w'' ⟨he, hb⟩ => ⟨he, hw'.trans (hb.mono hw'.size)⟩) ?_
    simp only [Act.put, List.setIfInBounds_toArray, List.set_cons_succ, List.set_cons_zero]
    cases R with
    | false =>
      refine q_val (.bool false) rfl (fun w' hw' => by go_simp) ?_
      simp only [Act.put, List.setIfInBounds_toArray, List.set_cons_succ, List.set_cons_zero]
      refine q_move _ rfl rfl ?_
      simp only [Act.put, List.setIfInBounds_toArray, List.set_cons_succ, List.set_cons_zero]
      iterate 3
        refine BigFrame.wpQuiet_skip rfl ?_
        simp only [Act.put, List.setIfInBounds_toArray, List.set_cons_succ, List.set_cons_zero]
      refine q_val (.bool false) rfl (fun w' hw' => by go_simp) ?_
      simp only [Act.put, List.setIfInBounds_toArray, List.set_cons_succ, List.set_cons_zero]
      refine q_val (.bool false) rfl (fun w' hw' => by go_simp) ?_
      simp only [Act.put, List.setIfInBounds_toArray, List.set_cons_succ, List.set_cons_zero]
      refine wpQuiet_nil ?_
      intro w' hw'
      go_wp2_with fail
      go_ret
      exact ⟨by rw [HV1.out]; rfl, hB.trans (hw'.mono hB.size)⟩
    | true =>
      refine q_val (.bool true) rfl (fun w' hw' => by go_simp) ?_
      simp only [Act.put, List.setIfInBounds_toArray, List.set_cons_succ, List.set_cons_zero]
      refine q_move _ rfl rfl ?_
      simp only [Act.put, List.setIfInBounds_toArray, List.set_cons_succ, List.set_cons_zero]
      refine q_move _ rfl rfl ?_
      simp only [Act.put, List.setIfInBounds_toArray, List.set_cons_succ, List.set_cons_zero]
      refine q_move _ rfl rfl ?_
      simp only [Act.put, List.setIfInBounds_toArray, List.set_cons_succ, List.set_cons_zero]
      refine q_call 98 _ (.bool (lentB hh x)) rfl (fun w' => by go_simp) (fun w' hw' => (lent_any hh x w' hbd.1 (by omega)).mono fun e w'' ⟨he, hb⟩ => ⟨he, hw'.trans (hb.mono hw'.size)⟩) ?_
      simp only [Act.put, List.setIfInBounds_toArray, List.set_cons_succ, List.set_cons_zero]
      refine q_val (.bool (lentB hh x)) rfl (fun w' hw' => by go_simp) ?_
      simp only [Act.put, List.setIfInBounds_toArray, List.set_cons_succ, List.set_cons_zero]
      refine q_val (.bool (lentB hh x)) rfl (fun w' hw' => by go_simp) ?_
      simp only [Act.put, List.setIfInBounds_toArray, List.set_cons_succ, List.set_cons_zero]
      refine wpQuiet_nil ?_
      intro w' hw'
      go_wp2_with fail
      go_ret
      exact ⟨by rw [HV1.out]; rfl, hB.trans (hw'.mono hB.size)⟩
end Rm
end Go.Proofs.YtllejfnmbpjhaaaDoor
