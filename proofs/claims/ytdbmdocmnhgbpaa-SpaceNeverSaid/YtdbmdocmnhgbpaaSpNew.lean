/- space: New, Copy, Same. -/
import Derived.Test.YtdbmdocmnhgbpaaSpRm
import Derived.Test.YtdbmdocmnhgbpaaJSh
namespace Go.Proofs.Ytdbmdocmnhgbpaa
set_option maxRecDepth 20000
namespace Sp
open Go.RowKit Dk Eqb Byt

section
variable {w w' : World} {g : Nat} {A B Z : Int} {ao : Option Addr} {n cap : Nat}
theorem Bs.s0 (h : Bs w g A B Z ao n cap) (x : Int) : Bs (w.setCell ⟨g, 0, none⟩ (.int .i64 x)) g x B Z ao n cap := by unfold Bs; rw [heap_setCell_same w g 0 _ _ _ h]; rfl
theorem Bs.s1 (h : Bs w g A B Z ao n cap) (x : Int) : Bs (w.setCell ⟨g, 1, none⟩ (.int .i64 x)) g A x Z ao n cap := by unfold Bs; rw [heap_setCell_same w g 1 _ _ _ h]; rfl
theorem Bs.s2 (h : Bs w g A B Z ao n cap) (x : Int) : Bs (w.setCell ⟨g, 2, none⟩ (.int .i64 x)) g A B x ao n cap := by unfold Bs; rw [heap_setCell_same w g 2 _ _ _ h]; rfl
theorem undS : Try.prog.underlying 26 = some (.struct (Try.prog.fieldsOf 26)) := by kernel_rfl
theorem Bs.results1 {tmps : Array Value} {fn : Func} {s : Nat} (hf : fn.results = #[.cell s 26]) (h2 : tmps.getD s undef = .pointer (some ⟨g, 0, none⟩)) (kV : Bs w g A B Z ao n cap) : (results fn tmps).run Try.prog w = .ok (.agg #[.int .i64 A, .int .i64 B, .int .i64 Z, .slice ao n cap]) w := by
  have h2' : tmps[s]?.getD undef = .pointer (some ⟨g, 0, none⟩) := by simpa using h2
  have hv := run_loadVar_row (P := Try.prog) w g 26 26 #[.int .i64 A, .int .i64 B, .int .i64 Z, .slice ao n cap] (0, 0) _ kV undS rfl (by kernel_rfl)
  simp [Go.results, hf, h2', asAddr, hv]
theorem Bs.results2 {tmps : Array Value} {fn : Func} {s r : Nat} {e : Int} (hf : fn.results = #[.cell s 26, .tmp r]) (h2 : tmps.getD s undef = .pointer (some ⟨g, 0, none⟩)) (h3 : tmps.getD r undef = .int .i64 e) (kV : Bs w g A B Z ao n cap) :
    (results fn tmps).run Try.prog w = .ok (.tuple #[.agg #[.int .i64 A, .int .i64 B, .int .i64 Z, .slice ao n cap], .int .i64 e]) w := by
  have h2' : tmps[s]?.getD undef = .pointer (some ⟨g, 0, none⟩) := by simpa using h2
  have h3' : tmps[r]?.getD undef = .int .i64 e := by simpa using h3
  have hv := run_loadVar_row (P := Try.prog) w g 26 26 #[.int .i64 A, .int .i64 B, .int .i64 Z, .slice ao n cap] (0, 0) _ kV undS rfl (by kernel_rfl)
  simp [Go.results, hf, h2', h3', asAddr, hv]
end
theorem zvSp (w : World) : (zeroValue 26).run Try.prog w = .ok (.agg #[.int .i64 0, .int .i64 0, .int .i64 0, .slice none 0 0]) w := (zero_of_info (P := Try.prog) (t := 26) (v := .agg #[.int .i64 0, .int .i64 0, .int .i64 0, .slice none 0 0]) (n := 4) (by kernel_rfl)).1 w
/-- a slice of so many states, of its own -/
def OwnS (w : World) (base : Nat) (ao : Option Addr) (n cap : Nat) (f : Nat → Int) : Prop := w.ownsRow base 5 1 (.slice ao n cap) n (bys (tab n f))
theorem OwnS.of_row {w : World} {b n base : Nat} {f : Nat → Int} (h : w.heap[b]? = some (.cells (Sha.arr n (Sha.vu8 f)) 5 (0, 0))) (hb : base ≤ b) (hn : n ≤ 140737488355328) : OwnS w base (some ⟨b, 0, none⟩) n n f :=
  ⟨by simp [bys, tab], .inr ⟨b, n, _, rfl, hb, h, Nat.le_refl _, by unfold maxLen; omega, by rw [Sha.arr_size, Nat.mul_one], by
    rw [Sha.arr_bys, List.take_of_length_le (by simp [Sha.bys])]; rfl⟩⟩
theorem OwnS.block {w w' : World} {base : Nat} {ao : Option Addr} {n cap : Nat} {f : Nat → Int} (h : OwnS w base ao n cap f) (hk : ∀ b off, ao = some ⟨b, off, none⟩ → w'.heap[b]? = w.heap[b]?) : OwnS w' base ao n cap f := by
  obtain ⟨h1, h2⟩ := h
  refine ⟨h1, ?_⟩
  rcases h2 with h2 | ⟨g, cap', cur, hv, hb, hg, h5, h6, h7, h8⟩
  · exact .inl h2
  · injection hv with e1 e2 e3
    subst e1
    exact .inr ⟨g, cap', cur, by rw [e3], hb, (hk g 0 rfl).trans hg, h5, h6, h7, h8⟩
theorem OwnS.lt {w : World} {base : Nat} {ao : Option Addr} {n cap : Nat} {f : Nat → Int} (h : OwnS w base ao n cap f) {b off : Nat} (e : ao = some ⟨b, off, none⟩) : base ≤ b ∧ b < w.heap.size := by
  subst e
  exact World.ownsRow.lt h b rfl
theorem OwnS.below {w w' : World} {base : Nat} {ao : Option Addr} {n cap : Nat} {f : Nat → Int} (h : OwnS w base ao n cap f) (hb : Below w.heap.size w w') : OwnS w' base ao n cap f := h.block fun b _off e => hb.block b (h.lt e).2
theorem OwnS.lies {w : World} {base : Nat} {ao : Option Addr} {n cap : Nat} {f : Nat → Int} (h : OwnS w base ao n cap f) : Lies w w.heap.size ao cap (tab n f) := by
  have e : (tab n f).length = n := by simp [tab]
  have := lies_own (xs := tab n f) (ao := ao) (cap := cap) (base := base) (w := w) (by rw [e]; exact h)
  exact this
theorem OwnS.st {w : World} {base : Nat} {ao : Option Addr} {n cap : Nat} {f : Nat → Int} (h : OwnS w base ao n cap f) (hf : ∀ i, i < n → 0 ≤ f i ∧ f i < 256) (hn : n ≤ 140737488355328) : St w w.heap.size ao n cap f := ⟨h.lies, hf, hn⟩

theorem set4 (w : World) (g k : Nat) (v0 v1 v2 v3 : Value) (h : k ≠ g) : ((((w.setCell ⟨g, 0, none⟩ v0).setCell ⟨g, 1, none⟩ v1).setCell ⟨g, 2, none⟩ v2).setCell ⟨g, 3, none⟩ v3).heap[k]? = w.heap[k]? := by
  rw [heap_setCell_other _ _ _ _ h, heap_setCell_other _ _ _ _ h, heap_setCell_other _ _ _ _ h, heap_setCell_other _ _ _ _ h]
/-- a new space, or none -/
def nwS (A B Z x : Int) : Int := if apartB A B Z then x else 0
def nwN (A B Z : Int) : Nat := if apartB A B Z then 2 * Z.toNat else 0
def nwE (A B Z : Int) : Int := if apartB A B Z then 0 else 1
section
attribute [local go_sem] zvSp
theorem nw_start (w : World) (A B Z : Int) : ∃ W, W = (w.alloc (.cells #[.int .i64 0, .int .i64 0, .int .i64 0, .slice none 0 0] 26)).alloc (.cells #[.int .i64 A, .int .i64 B, .int .i64 Z, .slice none 0 0] 26) ∧ Below w.heap.size w W ∧ Bs W w.heap.size 0 0 0 none 0 0 ∧ Bs W (w.heap.size + 1) A B Z none 0 0 ∧ W.heap.size = w.heap.size + 2 := by
  refine ⟨_, rfl, ((Below.refl _ _).alloc (Nat.le_refl _) _).alloc (by simp) _, ?_, ?_, by simp⟩
  · unfold Bs
    rw [Below.heap_alloc _ _ _ (by simp), heap_alloc_new]
  · unfold Bs
    have := heap_alloc_new (w.alloc (.cells #[.int .i64 0, .int .i64 0, .int .i64 0, .slice none 0 0] 26)) (.cells #[.int .i64 A, .int .i64 B, .int .i64 Z, .slice none 0 0] 26)
    rwa [World.size_alloc] at this

set_option maxHeartbeats 1000000 in
theorem New_any (A B Z : Int) (w : World) (hB : i64 B) :
    Calls Try.prog 10 #[.int .i64 A, .int .i64 B, .int .i64 Z] w fun e w' => ∃ ao cap, e = .returned (.tuple #[.agg #[.int .i64 (nwS A B Z A), .int .i64 (nwS A B Z B), .int .i64 (nwS A B Z Z), .slice ao (nwN A B Z) cap], .int .i64 (nwE A B Z)]) ∧ OwnS w' w.heap.size ao (nwN A B Z) cap (fun _ => 0) ∧ Below w.heap.size w w' := by
  obtain ⟨W, hW, hbW, hx6, hx8, hsW⟩ := nw_start w A B Z
  have HA := Lib.hid (apart_any A B Z none 0 0 W hB)
  unfold nwS nwN nwE
  cases hp : apartB A B Z with
  | false =>
    rw [hp] at HA
    clear hp
    go_enter Try.func10, Try.ntmps10
    go_wp2_with fail
    rw [← hW]
    clear hW
    refine HA.out.mono ?_
    rintro _ w1 ⟨rfl, hb1⟩
    dsimp only
    have y6 := hx6.below hb1 (by omega)
    have f0 := y6.fr 0
    have f1 := y6.fr 1
    have f2 := y6.fr 2
    have f3 := y6.fr 3
    have d0 := y6.c0
    have d1 := y6.c1
    have d2 := y6.c2
    have d3 := y6.c3
    go_wp2_with fail
    refine bodyPost_ret (Bs.results2 rfl rfl rfl ((((y6.s0 0).s1 0).s2 0).s3 none 0 0)) rfl ?_
    exact ⟨none, 0, rfl, ⟨rfl, .inl ⟨rfl, rfl⟩⟩, ((((hbW.trans (hb1.mono (by omega))).setCell (Nat.le_refl _) _).setCell (Nat.le_refl _) _).setCell (Nat.le_refl _) _).setCell (Nat.le_refl _) _⟩
  | true =>
    rw [hp] at HA
    obtain ⟨h1, h2, h3, h4, h5⟩ := apartB_iff.1 hp
    obtain ⟨z, rfl⟩ : ∃ z : Nat, Z = z := ⟨Z.toNat, by omega⟩
    have hmk := Sha.run_make_bytes (2 * z) (by omega)
    rw [show ((2 * z : Nat) : Int) = 2 * (z : Int) by omega] at hmk
    have hz2 : (z : Int) ≤ 2000 := by omega
    clear hp
    simp only [if_true, Int.toNat_natCast]
    go_enter Try.func10, Try.ntmps10
    go_wp2_with fail
    rw [← hW]
    clear hW
    refine HA.out.mono ?_
    rintro _ w1 ⟨rfl, hb1⟩
    dsimp only
    have HB := Lib.hid (hbW.trans (hb1.mono (by omega)))
    obtain ⟨w2, hw2⟩ : ∃ w2, w2 = w1.alloc (.cells (Sha.arr (2 * z) (Sha.vu8 fun _ => 0)) 5) := ⟨_, rfl⟩
    have hs1 := hb1.size
    have hk : ∀ k, k < w1.heap.size → w2.heap[k]? = w1.heap[k]? := fun k h => by rw [hw2]; exact Below.heap_alloc _ _ _ h
    have y6 : Bs w2 w.heap.size 0 0 0 none 0 0 := (hx6.below hb1 (by omega)).block (hk _ (by omega))
    have y8 : Bs w2 (w.heap.size + 1) A B z none 0 0 := (hx8.below hb1 (by omega)).block (hk _ (by omega))
    have hr2 : w2.heap[w1.heap.size]? = some (.cells (Sha.arr (2 * z) (Sha.vu8 fun _ => 0)) 5 (0, 0)) := by rw [hw2]; exact heap_alloc_new _ _
    have hb2 : Below w.heap.size w w2 := by rw [hw2]; exact HB.out.alloc (by omega) _
    have y8' := y8.s3 (some ⟨w1.heap.size, 0, none⟩) (2 * z) (2 * z)
    have y6' := y6.block (heap_setCell_other w2 ⟨w.heap.size + 1, 3, none⟩ w.heap.size (.slice (some ⟨w1.heap.size, 0, none⟩) (2 * z) (2 * z)) (show w.heap.size ≠ w.heap.size + 1 by omega))
    obtain ⟨w3, hw3⟩ : ∃ w3, w3 = w2.setCell ⟨w.heap.size + 1, 3, none⟩ (.slice (some ⟨w1.heap.size, 0, none⟩) (2 * z) (2 * z)) := ⟨_, rfl⟩
    have hr3 : w3.heap[w1.heap.size]? = some (.cells (Sha.arr (2 * z) (Sha.vu8 fun _ => 0)) 5 (0, 0)) := by rw [hw3]; exact (heap_setCell_other _ _ _ _ (show w1.heap.size ≠ w.heap.size + 1 by omega)).trans hr2
    have hb3 : Below w.heap.size w w3 := by rw [hw3]; exact hb2.setCell (show w.heap.size ≤ w.heap.size + 1 by omega) _
    rw [← hw3] at y8' y6'
    have c2 := (hx8.below hb1 (by omega)).c2
    have e3 := y8.c3
    have ef := y8.fr 3
    have d0 := y8'.c0
    have d1 := y8'.c1
    have d2 := y8'.c2
    have d3 := y8'.c3
    have g0 := y6'.c0
    have g1 := y6'.c1
    have g2 := y6'.c2
    have g3 := y6'.c3
    have f0 := y6'.fr 0
    have f1 := y6'.fr 1
    have f2 := y6'.fr 2
    have f3 := y6'.fr 3
    have HW2 := Lib.hid hw2
    have HW3 := Lib.hid hw3
    clear hw2 hw3 hk hr2 y8 y6 hb2 hx6 hx8
    go_wp2_with (first | rw [← HW2.out] | rw [← HW3.out])
    refine bodyPost_ret (Bs.results2 rfl rfl rfl ((((y6'.s0 A).s1 B).s2 z).s3 (some ⟨w1.heap.size, 0, none⟩) (2 * z) (2 * z))) rfl ?_
    exact ⟨some ⟨w1.heap.size, 0, none⟩, 2 * z, rfl, OwnS.of_row ((set4 w3 _ _ _ _ _ _ (show w1.heap.size ≠ w.heap.size by omega)).trans hr3) (by omega) (by omega), (((hb3.setCell (Nat.le_refl _) _).setCell (Nat.le_refl _) _).setCell (Nat.le_refl _) _).setCell (Nat.le_refl _) _⟩

set_option maxHeartbeats 1000000 in
theorem refNew_any (A B Z : Int) (w : World) :
    Calls Try.prog 11 #[.int .i64 A, .int .i64 B, .int .i64 Z] w fun e w' => ∃ ao cap, e = .returned (.tuple #[.agg #[.int .i64 (nwS A B Z A), .int .i64 (nwS A B Z B), .int .i64 (nwS A B Z Z), .slice ao (nwN A B Z) cap], .int .i64 (nwE A B Z)]) ∧ OwnS w' w.heap.size ao (nwN A B Z) cap (fun _ => 0) ∧ Below w.heap.size w w' := by
  have hb1 : Below w.heap.size w (w.alloc (.cells #[.int .i64 0, .int .i64 0, .int .i64 0, .slice none 0 0] 26)) := (Below.refl _ _).alloc (Nat.le_refl _) _
  have y6 : Bs (w.alloc (.cells #[.int .i64 0, .int .i64 0, .int .i64 0, .slice none 0 0] 26)) w.heap.size 0 0 0 none 0 0 := heap_alloc_new _ _
  by_cases hz : 1 ≤ Z ∧ Z ≤ 2000
  · obtain ⟨z, rfl⟩ : ∃ z : Nat, Z = z := ⟨Z.toNat, by omega⟩
    obtain ⟨hz1, hz2⟩ := hz
    obtain ⟨W, hW⟩ : ∃ W, W = ((w.alloc (.cells #[.int .i64 0, .int .i64 0, .int .i64 0, .slice none 0 0] 26)).alloc (.cells (Sha.arr (2 * z) (Sha.vu8 fun _ => 0)) 5)).alloc (.cells #[.int .i64 A, .int .i64 B, .int .i64 z, .slice (some ⟨w.heap.size + 1, 0, none⟩) (2 * z) (2 * z)] 26) := ⟨_, rfl⟩
    have hbW : Below w.heap.size w W := by rw [hW]; exact (hb1.alloc (by simp) _).alloc (by simp; omega) _
    have hsW : W.heap.size = w.heap.size + 3 := by rw [hW]; simp
    have x6 : Bs W w.heap.size 0 0 0 none 0 0 := y6.block (by rw [hW, Below.heap_alloc _ _ _ (by simp; omega), Below.heap_alloc _ _ _ (by simp)])
    have xr : W.heap[w.heap.size + 1]? = some (.cells (Sha.arr (2 * z) (Sha.vu8 fun _ => 0)) 5 (0, 0)) := by
      rw [hW, Below.heap_alloc _ _ _ (by simp), ← World.size_alloc w (.cells #[.int .i64 0, .int .i64 0, .int .i64 0, .slice none 0 0] 26), heap_alloc_new]
    have x8 : Bs W (w.heap.size + 1 + 1) A B z (some ⟨w.heap.size + 1, 0, none⟩) (2 * z) (2 * z) := by
      have := heap_alloc_new ((w.alloc (.cells #[.int .i64 0, .int .i64 0, .int .i64 0, .slice none 0 0] 26)).alloc (.cells (Sha.arr (2 * z) (Sha.vu8 fun _ => 0)) 5)) (.cells #[.int .i64 A, .int .i64 B, .int .i64 z, .slice (some ⟨w.heap.size + 1, 0, none⟩) (2 * z) (2 * z)] 26)
      rw [World.size_alloc, World.size_alloc] at this
      rw [hW]
      exact this
    have hO : OwnS W w.heap.size (some ⟨w.heap.size + 1, 0, none⟩) (2 * z) (2 * z) (fun _ => 0) := OwnS.of_row xr (by omega) (by omega)
    have HF := Lib.hid (refFormed_any A B z (some ⟨w.heap.size + 1, 0, none⟩) (2 * z) (2 * z) (fun _ => 0) W (by omega) hO.lies)
    have hmk := Sha.run_make_bytes (2 * z) (by omega)
    rw [show ((2 * z : Nat) : Int) = 2 * (z : Int) by omega] at hmk
    have hz2' : (z : Int) ≤ 2000 := by omega
    have HO := Lib.hid hO
    have HE : Hid (formB A B z (2 * z) (fun _ => 0) = apartB A B z) := Lib.hid (by
      cases e : apartB A B z with
      | false => exact formB_no fun h => by rw [apartB_yes h.1] at e; cases e
      | true => exact formB_iff.2 ⟨apartB_iff.1 e, by omega, fun _ _ => by omega⟩)
    rw [HE.out] at HF
    clear HE hO y6 hb1
    unfold nwS nwN nwE
    cases hp : apartB A B z with
    | false =>
      rw [hp] at HF
      clear hp
      go_enter Try.func11, Try.ntmps11
      go_wp2_with fail
      rw [← hW]
      clear hW
      refine HF.out.mono ?_
      rintro _ w1 ⟨rfl, hb1⟩
      dsimp only
      have y6 := x6.below hb1 (by omega)
      have f0 := y6.fr 0
      have f1 := y6.fr 1
      have f2 := y6.fr 2
      have f3 := y6.fr 3
      have d0 := y6.c0
      have d1 := y6.c1
      have d2 := y6.c2
      have d3 := y6.c3
      go_wp2_with fail
      refine bodyPost_ret (Bs.results2 rfl rfl rfl ((((y6.s0 0).s1 0).s2 0).s3 none 0 0)) rfl ?_
      exact ⟨none, 0, rfl, ⟨rfl, .inl ⟨rfl, rfl⟩⟩, ((((hbW.trans (hb1.mono (by omega))).setCell (Nat.le_refl _) _).setCell (Nat.le_refl _) _).setCell (Nat.le_refl _) _).setCell (Nat.le_refl _) _⟩
    | true =>
      rw [hp] at HF
      clear hp
      simp only [if_true, Int.toNat_natCast]
      go_enter Try.func11, Try.ntmps11
      go_wp2_with fail
      rw [← hW]
      clear hW
      refine HF.out.mono ?_
      rintro _ w1 ⟨rfl, hb1⟩
      dsimp only
      have y6 := x6.below hb1 (by omega)
      have y8 := x8.below hb1 (by omega)
      have f0 := y6.fr 0
      have f1 := y6.fr 1
      have f2 := y6.fr 2
      have f3 := y6.fr 3
      have d0 := y6.c0
      have d1 := y6.c1
      have d2 := y6.c2
      have d3 := y6.c3
      have g0 := y8.c0
      have g1 := y8.c1
      have g2 := y8.c2
      have g3 := y8.c3
      go_wp2_with fail
      refine bodyPost_ret (Bs.results2 rfl rfl rfl ((((y6.s0 A).s1 B).s2 z).s3 (some ⟨w.heap.size + 1, 0, none⟩) (2 * z) (2 * z))) rfl ?_
      exact ⟨some ⟨w.heap.size + 1, 0, none⟩, 2 * z, rfl, OwnS.of_row ((set4 w1 _ _ _ _ _ _ (show w.heap.size + 1 ≠ w.heap.size by omega)).trans ((hb1.block _ (by omega)).trans xr)) (by omega) (by omega), ((((hbW.trans (hb1.mono (by omega))).setCell (Nat.le_refl _) _).setCell (Nat.le_refl _) _).setCell (Nat.le_refl _) _).setCell (Nat.le_refl _) _⟩
  · unfold nwS nwN nwE
    rw [apartB_no (fun h => hz ⟨h.1, h.2.1⟩)]
    have f0 := y6.fr 0
    have f1 := y6.fr 1
    have f2 := y6.fr 2
    have f3 := y6.fr 3
    by_cases h1 : Z < 1
    · go_enter Try.func11, Try.ntmps11
      go_wp2_with fail
      refine bodyPost_ret (Bs.results2 rfl rfl rfl y6) rfl ?_
      exact ⟨none, 0, rfl, ⟨rfl, .inl ⟨rfl, rfl⟩⟩, hb1⟩
    · have h2 : 2000 < Z := by omega
      go_enter Try.func11, Try.ntmps11
      go_wp2_with fail
      refine bodyPost_ret (Bs.results2 rfl rfl rfl y6) rfl ?_
      exact ⟨none, 0, rfl, ⟨rfl, .inl ⟨rfl, rfl⟩⟩, hb1⟩
end
section
attribute [local go_sem] zvSp
theorem bys_own {w : World} {base n : Nat} {v : Value} {f : Nat → Int} (h : w.ownsRow base 5 1 v n (bys (tab n f))) : ∃ ao cap, v = .slice ao n cap := by
  rcases h.2 with ⟨hv, hn⟩ | ⟨g, cap, _, hv, _⟩
  · exact ⟨none, 0, by rw [hv, hn]⟩
  · exact ⟨_, cap, hv⟩
theorem cp_start (w : World) (A B Z : Int) (ao : Option Addr) (n cap : Nat) : ∃ W, W = (w.alloc (.cells #[.int .i64 A, .int .i64 B, .int .i64 Z, .slice ao n cap] 26)).alloc (.cells #[.int .i64 0, .int .i64 0, .int .i64 0, .slice none 0 0] 26) ∧ Below w.heap.size w W ∧ Bs W w.heap.size A B Z ao n cap ∧ Bs W (w.heap.size + 1) 0 0 0 none 0 0 ∧ W.heap.size = w.heap.size + 2 := by
  refine ⟨_, rfl, ((Below.refl _ _).alloc (Nat.le_refl _) _).alloc (by simp) _, ?_, ?_, by simp⟩
  · unfold Bs
    rw [Below.heap_alloc _ _ _ (by simp), heap_alloc_new]
  · unfold Bs
    have := heap_alloc_new (w.alloc (.cells #[.int .i64 A, .int .i64 B, .int .i64 Z, .slice ao n cap] 26)) (.cells #[.int .i64 0, .int .i64 0, .int .i64 0, .slice none 0 0] 26)
    rwa [World.size_alloc] at this
set_option maxHeartbeats 1000000 in
theorem Copy_any (A B Z : Int) (ao : Option Addr) (n cap : Nat) (f : Nat → Int) (w : World) (hs : St w w.heap.size ao n cap f) :
    Calls Try.prog 13 #[.agg #[.int .i64 A, .int .i64 B, .int .i64 Z, .slice ao n cap]] w fun e w' => ∃ ao' cap', e = .returned (.agg #[.int .i64 A, .int .i64 B, .int .i64 Z, .slice ao' n cap']) ∧ OwnS w' w.heap.size ao' n cap' f ∧ Below w.heap.size w w' := by
  obtain ⟨W, hW, hbW, hx1, hx2, hsW⟩ := cp_start w A B Z ao n cap
  have hn : (tab n f).length = n := by simp [tab]
  have HC := Lib.hid (copy_any ao cap (tab n f) W (hs.later hbW).lies (by rw [hn]; exact hs.room))
  rw [hn] at HC
  clear hn hs
  go_enter Try.func13, Try.ntmps13
  go_wp2_with fail
  rw [← hW]
  clear hW
  refine HC.out.mono ?_
  rintro _ w1 ⟨v, rfl, hown, hb1⟩
  obtain ⟨ao', cap', rfl⟩ := bys_own hown
  dsimp only
  have y1 := hx1.below hb1 (by omega)
  have y2 := hx2.below hb1 (by omega)
  have yf := y1.fr 3
  have y13 := y1.c3
  have z1 := y1.s3 ao' n cap'
  have z2 := y2.block (heap_setCell_other w1 ⟨w.heap.size, 3, none⟩ (w.heap.size + 1) (.slice ao' n cap') (show w.heap.size + 1 ≠ w.heap.size by omega))
  have HO : Hid (OwnS w1 w.heap.size ao' n cap' f) := Lib.hid ⟨hown.1, by
    rcases hown.2 with h | ⟨g, c, cur, h1, h2, h3⟩
    · exact .inl h
    · exact .inr ⟨g, c, cur, h1, by omega, h3⟩⟩
  have HG : Hid (∀ b off, ao' = some ⟨b, off, none⟩ → W.heap.size ≤ b) := Lib.hid fun b off e => by
    subst e
    exact (World.ownsRow.lt hown b rfl).1
  obtain ⟨w2, hw2⟩ : ∃ w2, w2 = w1.setCell ⟨w.heap.size, 3, none⟩ (.slice ao' n cap') := ⟨_, rfl⟩
  rw [← hw2] at z1 z2
  have HB : Hid (Below w.heap.size w w2) := Lib.hid (by rw [hw2]; exact (hbW.trans (hb1.mono (by omega))).setCell (Nat.le_refl _) _)
  have HO2 : Hid (OwnS w2 w.heap.size ao' n cap' f) := Lib.hid (HO.out.block fun b off e => by
    have := HG.out b off e
    rw [hw2]
    exact heap_setCell_other _ _ _ _ (show b ≠ w.heap.size by omega))
  have HW2 := Lib.hid hw2
  have d0 := z1.c0
  have d1 := z1.c1
  have d2 := z1.c2
  have d3 := z1.c3
  have g0 := z2.c0
  have g1 := z2.c1
  have g2 := z2.c2
  have g3 := z2.c3
  have f0 := z2.fr 0
  have f1 := z2.fr 1
  have f2 := z2.fr 2
  have f3 := z2.fr 3
  clear hw2 HO hown hx1 hx2 hb1
  go_wp2_with (rw [← HW2.out])
  refine bodyPost_ret (Bs.results1 rfl rfl ((((z2.s0 A).s1 B).s2 Z).s3 ao' n cap')) rfl ?_
  exact ⟨ao', cap', rfl, HO2.out.block fun b off e => set4 w2 _ _ _ _ _ _ (by have := HG.out b off e; show b ≠ w.heap.size + 1; omega), (((HB.out.setCell (show w.heap.size ≤ w.heap.size + 1 by omega) _).setCell (show w.heap.size ≤ w.heap.size + 1 by omega) _).setCell (show w.heap.size ≤ w.heap.size + 1 by omega) _).setCell (show w.heap.size ≤ w.heap.size + 1 by omega) _⟩
end

/-- the same arrays of two -/
theorem eq_two (x y : Int) (w : World) : (Op.equalIn 10000 23 (.agg #[.int .i64 x, .int .i64 y]) (.agg #[.int .i64 x, .int .i64 y])).run Try.prog w = .ok true w := by
  obtain ⟨i, hi⟩ : ∃ i, Try.prog.info? 3 = some i := ⟨_, rfl⟩
  rw [run_equalIn_array w 9999 (n := 2) (e := 3) _ _ (by kernel_rfl) hi, show Try.prog.cellsOf 3 = 1 by kernel_rfl]
  rw [eqItems_any (k := .i64) (by kernel_rfl) (by kernel_rfl) 9998 _ _ (fun i => if i = 0 then x else y) (fun i => if i = 0 then x else y) w _ fun i hi => by
    have hi' : i < 2 := by simpa using hi
    obtain rfl | rfl : i = 0 ∨ i = 1 := by omega
    · exact ⟨rfl, rfl⟩
    · exact ⟨rfl, rfl⟩]
  simp
theorem run_eql_two (x y : Int) (w : World) : (binOp .eql 23 (.agg #[.int .i64 x, .int .i64 y]) (.agg #[.int .i64 x, .int .i64 y])).run Try.prog w = .ok (.bool true) w := by
  rw [run_eql_struct, eq_two]; rfl

set_option maxHeartbeats 1000000 in
theorem Same_any (A B Z : Int) (ao ao' : Option Addr) (n cap cap' : Nat) (f f' : Nat → Int) (w : World) (hs : St w w.heap.size ao n cap f) (hs' : St w w.heap.size ao' n cap' f') (hf : ∀ i, i < n → f i = f' i) :
    Calls Try.prog 12 #[.agg #[.int .i64 A, .int .i64 B, .int .i64 Z, .slice ao n cap], .agg #[.int .i64 A, .int .i64 B, .int .i64 Z, .slice ao' n cap']] w fun e w' => e = .returned (.bool true) ∧ Below w.heap.size w w' := by
  obtain ⟨W, hW, hbW, hx1, hx2, hsW⟩ : ∃ W, W = (w.alloc (.cells #[.int .i64 A, .int .i64 B, .int .i64 Z, .slice ao n cap] 26)).alloc (.cells #[.int .i64 A, .int .i64 B, .int .i64 Z, .slice ao' n cap'] 26) ∧ Below w.heap.size w W ∧ Bs W w.heap.size A B Z ao n cap ∧ Bs W (w.heap.size + 1) A B Z ao' n cap' ∧ W.heap.size = w.heap.size + 2 := by
    refine ⟨_, rfl, ((Below.refl _ _).alloc (Nat.le_refl _) _).alloc (by simp) _, ?_, ?_, by simp⟩
    · unfold Bs
      rw [Below.heap_alloc _ _ _ (by simp), heap_alloc_new]
    · unfold Bs
      have := heap_alloc_new (w.alloc (.cells #[.int .i64 A, .int .i64 B, .int .i64 Z, .slice ao n cap] 26)) (.cells #[.int .i64 A, .int .i64 B, .int .i64 Z, .slice ao' n cap'] 26)
      rwa [World.size_alloc] at this
  have hE : tab n f = tab n f' := tab_congr hf
  have HS := Lib.hid (same_any ao ao' cap cap' _ _ n n (tab n f) (tab n f') W (by simp [tab]) (by simp [tab]) (hs.later hbW).lies (hs'.later hbW).lies (byte_tab hs.byte) (byte_tab hs'.byte))
  rw [decide_eq_true hE] at HS
  clear hs hs' hf hE
  have hq := run_eql_two A B
  go_enter Try.func12, Try.ntmps12
  go_wp2_with fail
  rw [← hW]
  clear hW
  refine HS.out.mono ?_
  rintro _ w1 ⟨rfl, rfl⟩
  dsimp only
  go_wp2_with fail
  go_ret
  exact ⟨rfl, hbW⟩
end Sp
end Go.Proofs.Ytdbmdocmnhgbpaa
