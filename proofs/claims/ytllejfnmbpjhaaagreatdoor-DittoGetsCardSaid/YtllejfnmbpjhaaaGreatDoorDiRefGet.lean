/- ditto: the reference's Get (made by tools/gen_drget.py). -/
import Derived.Test.YtllejfnmbpjhaaaGreatDoorJDr
import Derived.Test.YtllejfnmbpjhaaaGreatDoorDiGet
namespace Go.Proofs.YtllejfnmbpjhaaaGreatDoor
set_option maxRecDepth 20000
namespace Di
open Go.RowKit Dk Byt Eqb Rm

attribute [local irreducible] wpQuiet
attribute [local go_sem] zv29
attribute [local go_sem] Pt.zvP
attribute [local go_sem] zc29
/-- a drawn region that lays a block that a call answers -/
structure BlG (W0 : World) (V : Nat → Int) (la ls : Bool) (u : Value) (w' : World) : Prop where
  be : Below W0.heap.size W0 w'
  al : la = true → ∃ bk, u = .pointer (some ⟨bk, 0, none⟩) ∧ W0.heap.size ≤ bk ∧ w'.heap[bk]? = some (.cells (bl (if ls = true then V else fun _ => 0)).toArray 36 (0, 0))
  ord : ls = true → la = true
theorem BlG.call {W0 w' w'' : World} {V : Nat → Int} {la ls : Bool} {u : Value} (h : BlG W0 V la ls u w') (hb : Below w'.heap.size w' w'') : BlG W0 V la ls u w'' :=
  ⟨h.be.trans (hb.mono h.be.size), fun e => by obtain ⟨bk, e1, e2, e3⟩ := h.al e; exact ⟨bk, e1, e2, (hb.block bk (Array.getElem?_eq_some_iff.1 e3).1).trans e3⟩, h.ord⟩
theorem BlG.alloc {W0 w' : World} {V : Nat → Int} {la ls : Bool} {u : Value} (h : BlG W0 V la ls u w') (hl : la = false) : BlG W0 V true ls (.pointer (some ⟨w'.heap.size, 0, none⟩)) (w'.alloc (.cells (bl fun _ => 0).toArray 36)) :=
  ⟨h.be.alloc h.be.size _, fun _ => ⟨_, rfl, h.be.size, by
    have : ls = false := by cases e : ls with | false => rfl | true => rw [h.ord e] at hl; cases hl
    rw [this, if_neg (by decide)]
    exact heap_alloc_new _ _⟩, fun _ => rfl⟩
theorem BlG.put {W0 w' : World} {V : Nat → Int} {la ls : Bool} {bk : Nat} {c : Array Value} (h : BlG W0 V la ls (.pointer (some ⟨bk, 0, none⟩)) w') (_ : ls = false) (hl : la = true) (hb : w'.heap[bk]? = some (.cells c 36 (0, 0))) : BlG W0 V la true (.pointer (some ⟨bk, 0, none⟩)) (w'.setRow bk (bl V).toArray) := by
  obtain ⟨bk', e1, e2, _⟩ := h.al hl
  injection e1 with e1
  injection e1 with e1
  injection e1 with e1
  subst e1
  exact ⟨⟨h.be.os, h.be.tape, h.be.output, by simpa using h.be.size, fun k hk => (setRow_other w' bk k _ (by omega)).trans (h.be.block k hk)⟩, fun _ => ⟨bk, rfl, e2, by rw [if_pos rfl]; exact setRow_heap w' bk _ _ _ _ hb⟩, fun _ => hl⟩
theorem below_at' {w w' : World} {k : Nat} {o : Obj} (hb : Below w.heap.size w w') (h : w.heap[k]? = some o) : w'.heap[k]? = some o := (hb.block k (Array.getElem?_eq_some_iff.1 h).1).trans h
/-- the call's own blocks: the pointer, the block that is told, none -/
structure RgW (w : World) (p : Pt.Pn) (w' : World) : Prop where
  be : Below w.heap.size w w'
  p : w'.heap[w.heap.size]? = some (.cells (Pt.pV p).toArray 31 (0, 0))
  f : w'.heap[w.heap.size + 1]? = some (.cells (bl fun _ => 0).toArray 36 (0, 0))
  nn : w'.heap[w.heap.size + 2]? = some (.cells (bl fun _ => 0).toArray 36 (0, 0))
theorem RgW.below {w w' w'' : World} {p : Pt.Pn} (h : RgW w p w') (hb : Below w'.heap.size w' w'') : RgW w p w'' := ⟨h.be.trans (hb.mono h.be.size), below_at' hb h.p, below_at' hb h.f, below_at' hb h.nn⟩
theorem RgW.put0 {w w' : World} {p : Pt.Pn} (h : RgW w p w') : ∃ W, W = w'.setRow (w.heap.size + 2) (bl fun _ => 0).toArray ∧ RgW w p W :=
  ⟨_, rfl, below_only h.be (by omega) (grown_row (B := w.heap.size + 2) (bl fun _ => 0).toArray), (setRow_other _ _ _ _ (by omega)).trans h.p, (setRow_other _ _ _ _ (by omega)).trans h.f, setRow_heap _ _ _ _ _ _ h.nn⟩
theorem box_rg (w : World) (p : Pt.Pn) : ∃ W, W = ((w.alloc (.cells (Pt.pV p).toArray 31)).alloc (.cells (bl fun _ => 0).toArray 36)).alloc (.cells (bl fun _ => 0).toArray 36) ∧ RgW w p W := by
  refine ⟨_, rfl, (((Below.refl _ _).alloc (Nat.le_refl _) _).alloc (by simp) _).alloc (by simp; omega) _, (Below.heap_alloc _ _ _ (by simp; omega)).trans ((Below.heap_alloc _ _ _ (by simp)).trans (heap_alloc_new _ _)), (Below.heap_alloc _ _ _ (by simp)).trans ?_, ?_⟩
  · have := heap_alloc_new (w.alloc (.cells (Pt.pV p).toArray 31)) (.cells (bl fun _ => 0).toArray 36)
    rwa [World.size_alloc] at this
  · have := heap_alloc_new ((w.alloc (.cells (Pt.pV p).toArray 31)).alloc (.cells (bl fun _ => 0).toArray 36)) (.cells (bl fun _ => 0).toArray 36)
    rwa [World.size_alloc, World.size_alloc] at this

def RgA (x2 x3 x4 x6 x7 x8 x9 x12 x13 x14 x15 x16 x17 x18 x19 x20 x21 x22 x23 x24 x25 x26 x27 x28 x29 x30 x31 x32 x33 x34 x46 x47 x48 x49 x50 x51 x52 x53 x54 x55 x56 x57 x58 x59 x60 x61 x62 x63 x64 x65 x66 x67 x68 x69 x70 x71 x72 x73 x74 x75 x76 x77 x78 x79 x80 : Value) (W0 : World) (g b bp : Nat) (p : Pt.Pn) (gen : Int) (pa : Option Addr) (k cap : Nat) (V : Nat → Int) (ok : Bool) (L : Nat → Bool) (a' : Act) (w' : World) : Prop :=
  ∃ u0 u1 u2 u3 u4 u5 u6 u7 u8 u9 u10 u11 u13, a' = { tmps := #[.pointer (some ⟨g, 0, none⟩), .pointer (some ⟨b, 0, none⟩), x2, x3, x4, .pointer (some ⟨bp, 0, none⟩), x6, x7, x8, x9, u11, u13, x12, x13, x14, x15, x16, x17, x18, x19, x20, x21, x22, x23, x24, x25, x26, x27, x28, x29, x30, x31, x32, x33, x34, u8, u0, u1, u2, u3, u4, u5, u6, u7, u9, u10, x46, x47, x48, x49, x50, x51, x52, x53, x54, x55, x56, x57, x58, x59, x60, x61, x62, x63, x64, x65, x66, x67, x68, x69, x70, x71, x72, x73, x74, x75, x76, x77, x78, x79, x80], defers := [] } ∧ (L 0 = true → u0 = .pointer (some ⟨g, 0, none⟩)) ∧ (L 1 = true → u1 = .pointer (some ⟨b, 0, none⟩)) ∧ (L 2 = true → u2 = .pointer (some ⟨b, 0, none⟩)) ∧ (L 3 = true → u3 = .agg #[.int .i64 gen, .slice pa k cap]) ∧ (L 4 = true → u4 = .agg (Pt.pV p).toArray) ∧ (L 5 = true → u5 = .pointer (some ⟨bp, 0, none⟩)) ∧ (L 6 = true → u6 = .int .i64 p.A) ∧ (L 7 = true → u7 = .tuple #[.agg (bl V).toArray, .bool ok]) ∧ (L 8 = true → u8 = .tuple #[.agg (bl V).toArray, .bool ok]) ∧ (L 9 = true → u9 = .agg (bl V).toArray) ∧ (L 10 = true → u10 = .bool ok) ∧ (L 13 = true → u13 = .bool ok) ∧ BlG W0 V (L 11) (L 12) u11 w'
theorem RgA_kl {L : Nat → Bool} {i k : Nat} {Q : Prop} (h : L k = true → Q) (h1 : (k == i) = false) : (k == i || L k) = true → Q := by
  rw [h1, Bool.false_or]
  exact h

def RgB (x2 x3 x4 x6 x7 x8 x9 x10 x13 x14 x15 x16 x17 x18 x19 x20 x21 x22 x23 x24 x25 x26 x27 x28 x29 x30 x31 x32 x33 x34 x35 x36 x37 x38 x39 x40 x41 x42 x43 x44 x45 x46 x47 x48 x49 x50 x51 x63 x64 x65 x66 x67 x68 x69 x70 x71 x72 x73 x74 x75 x76 x77 x78 x79 x80 : Value) (W0 : World) (g b bp : Nat) (p : Pt.Pn) (gen : Int) (pa : Option Addr) (k cap : Nat) (V : Nat → Int) (ok : Bool) (L : Nat → Bool) (a' : Act) (w' : World) : Prop :=
  ∃ u0 u1 u2 u3 u4 u5 u6 u7 u8 u9 u10 u11 u13, a' = { tmps := #[.pointer (some ⟨g, 0, none⟩), .pointer (some ⟨b, 0, none⟩), x2, x3, x4, .pointer (some ⟨bp, 0, none⟩), x6, x7, x8, x9, x10, u13, u11, x13, x14, x15, x16, x17, x18, x19, x20, x21, x22, x23, x24, x25, x26, x27, x28, x29, x30, x31, x32, x33, x34, x35, x36, x37, x38, x39, x40, x41, x42, x43, x44, x45, x46, x47, x48, x49, x50, x51, u8, u0, u1, u2, u3, u4, u5, u6, u7, u9, u10, x63, x64, x65, x66, x67, x68, x69, x70, x71, x72, x73, x74, x75, x76, x77, x78, x79, x80], defers := [] } ∧ (L 0 = true → u0 = .pointer (some ⟨g, 0, none⟩)) ∧ (L 1 = true → u1 = .pointer (some ⟨b, 0, none⟩)) ∧ (L 2 = true → u2 = .pointer (some ⟨b, 0, none⟩)) ∧ (L 3 = true → u3 = .agg #[.int .i64 gen, .slice pa k cap]) ∧ (L 4 = true → u4 = .agg (Pt.pV p).toArray) ∧ (L 5 = true → u5 = .pointer (some ⟨bp, 1, none⟩)) ∧ (L 6 = true → u6 = .int .i64 p.B) ∧ (L 7 = true → u7 = .tuple #[.agg (bl V).toArray, .bool ok]) ∧ (L 8 = true → u8 = .tuple #[.agg (bl V).toArray, .bool ok]) ∧ (L 9 = true → u9 = .agg (bl V).toArray) ∧ (L 10 = true → u10 = .bool ok) ∧ (L 13 = true → u13 = .bool ok) ∧ BlG W0 V (L 11) (L 12) u11 w'
theorem RgB_kl {L : Nat → Bool} {i k : Nat} {Q : Prop} (h : L k = true → Q) (h1 : (k == i) = false) : (k == i || L k) = true → Q := by
  rw [h1, Bool.false_or]
  exact h

set_option maxRecDepth 100000 in
set_option maxHeartbeats 16000000 in
theorem refget_d {w : World} {g b n : Nat} {X : Dst} (h : HasD w g n X) (hkp : Rm.Kp w) (hok : Ok 23 X) (gen : Int) (k : Nat) (F T : Nat → Int) (hT : HasT w b g ⟨gen, k, F, T⟩) (hm : TabOk ⟨gen, k, F, T⟩) (hgb : g ≠ b) (p : Pt.Pn) (hyA : byt (tV n X ⟨gen, k, F, T⟩ p.A)) (hyB : byt (tV n X ⟨gen, k, F, T⟩ p.B)) :
    Calls Tryz.prog 10 #[.pointer (some ⟨g, 0, none⟩), .pointer (some ⟨b, 0, none⟩), .agg (Pt.pV p).toArray] w (Gots w g b n (gRes n X ⟨gen, k, F, T⟩ p)) := by
  unfold Gots
  have hgl := h.lt
  obtain ⟨pa, cap, hb, hl⟩ := id hT
  have hbl := (Array.getElem?_eq_some_iff.1 hb).1
  dsimp only at hb hl
  obtain ⟨sa, sc, ca, cc, hh⟩ := id h
  have h47 := hh.n47
  have HBX := Lib.hid (fun w' (hw : Below w.heap.size w w') => hh.below hw)
  have HD := Lib.hid (fun w' (hw : Below w.heap.size w w') => h.below hw)
  have HTT := Lib.hid (fun w' (hw : Below w.heap.size w w') => hasT_below hT hw)
  have HTB := Lib.hid (fun w' (hw : Below w.heap.size w w') => tab_cells ((hw.block b hbl).trans hb))
  have HHM := Lib.hid (fun w' (hw : Below w.heap.size w w') => refhome_v sa ca n sc cc g X gen k F T pa cap p w' h47.1 h47.2 (hh.below hw).cs ((hl.below hw).more hw.size) hm.1)
  have HRA := Lib.hid (fun w' (hw : Below w.heap.size w w') => refgood_d (h.below hw) (Nat.lt_of_lt_of_le hkp.2 hw.size) gen k F T pa cap g p p.A ((hl.below hw).more hw.size) hm.1 hyA)
  have HRB := Lib.hid (fun w' (hw : Below w.heap.size w w') => refgood_d (h.below hw) (Nat.lt_of_lt_of_le hkp.2 hw.size) gen k F T pa cap g p p.B ((hl.below hw).more hw.size) hm.1 hyB)
  have HHL := Lib.hid (fun w' (hw : Below w.heap.size w w') V => refheal_d (h.below hw) (hkp.below hw) hok gen k F T (hasT_below hT hw) hm hgb p.A V)
  have HHO := Lib.hid (@hom_parts n X ⟨gen, k, F, T⟩ p)
  have G1 := Lib.hid (@g_no n X ⟨gen, k, F, T⟩ p)
  have G2 := Lib.hid (@g_hole n X ⟨gen, k, F, T⟩ p)
  have G3 := Lib.hid (@g_down n X ⟨gen, k, F, T⟩ p)
  have G4 := Lib.hid (@g_one n X ⟨gen, k, F, T⟩ p)
  have G5 := Lib.hid (@g_bad n X ⟨gen, k, F, T⟩ p)
  have G6 := Lib.hid (@g_two n X ⟨gen, k, F, T⟩ p)
  have HWR := Lib.hid (fun x V hr => w_right (n := n) (X := X) (M := ⟨gen, k, F, T⟩) (x := x) (V := V) hr)
  clear h hkp hok hT hm hl hyA hyB hb hh h47
  generalize gRes n X ⟨gen, k, F, T⟩ p = R at G1 G2 G3 G4 G5 G6 ⊢
  generalize homB n X ⟨gen, k, F, T⟩ p = hm at HHM HHO G1 G2 G3 G4 G5 G6
  generalize tV n X ⟨gen, k, F, T⟩ p.A = TA at HRA G4
  generalize tV n X ⟨gen, k, F, T⟩ p.B = TB at HRB G6
  generalize gdB n X ⟨gen, k, F, T⟩ p p.A = ga at HRA G4 G5 G6
  generalize gdB n X ⟨gen, k, F, T⟩ p p.B = gb at HRB G5 G6
  obtain ⟨W0, hW, hG0⟩ := box_rg w p
  have HG0 := Lib.hid hG0
  clear hG0
  go_enter Tryz.func10, Tryz.ntmps10
  go_wp2_with (first
    | (refine wpList_buildTo rfl 36 #[] rfl _ rfl (bl fun _ => 0).toArray builtB ?_; simp only [Act.put, List.setIfInBounds_toArray, List.set_cons_succ, List.set_cons_zero])
    | (refine wpList_store_row rfl 36 (.tmp 9) (.tmp 15) rfl (w.heap.size + 2) (bl fun _ => 0).toArray rfl rfl 36 _ (by rw [← hW]; exact HG0.out.nn) (size_bl' _) rfl (bl_all _) ?_; simp only [Act.put]))
  rw [← hW]
  obtain ⟨W, hW', hG0'⟩ := HG0.out.put0
  rw [← hW']
  have hBW := hG0'.be
  have hpW := hG0'.p
  clear hW hW' HG0
  have HG0 := Lib.hid hG0'
  clear hG0'
  refine wp_region_quiet (C := fun w' => Below W.heap.size W w') (by kernel_rfl) (by kernel_rfl) ⟨rfl, rfl, rfl, Nat.le_refl _, fun _ _ => rfl⟩ ?_
  refine q_move _ rfl rfl ?_
  simp only [Act.put, List.setIfInBounds_toArray, List.set_cons_succ, List.set_cons_zero]
  refine q_val (.pointer (some ⟨g, 0, none⟩)) rfl (fun w' hw' => by go_simp) ?_
  simp only [Act.put, List.setIfInBounds_toArray, List.set_cons_succ, List.set_cons_zero]
  refine q_val (.agg #[.slice sa n sc, .slice ca X.m cc, .int .i64 X.f, .bool X.d]) rfl (fun w' hw' => by have hH := (HBX.out w' (hBW.trans (hw'.mono hBW.size))).bx; have k0 := hH.c0; have k1 := hH.c1; have k2 := hH.c2; have k3 := hH.c3; clear hH; go_simp) ?_
  simp only [Act.put, List.setIfInBounds_toArray, List.set_cons_succ, List.set_cons_zero]
  refine q_move _ rfl rfl ?_
  simp only [Act.put, List.setIfInBounds_toArray, List.set_cons_succ, List.set_cons_zero]
  refine q_val (.pointer (some ⟨b, 0, none⟩)) rfl (fun w' hw' => by go_simp) ?_
  simp only [Act.put, List.setIfInBounds_toArray, List.set_cons_succ, List.set_cons_zero]
  refine q_val (.agg #[.int .i64 gen, .slice pa k cap]) rfl (fun w' hw' => by obtain ⟨k0, k1⟩ := HTB.out w' (hBW.trans (hw'.mono hBW.size)); go_simp) ?_
  simp only [Act.put, List.setIfInBounds_toArray, List.set_cons_succ, List.set_cons_zero]
  refine q_loadB 31 (.tmp 5) rfl rfl w.heap.size 0 rfl (Pt.pV p) _ (fun w' hw' => Pt.row_pt (below_at' hw' hpW)) Pt.undP rfl (Pt.sizeP p) ?_
  simp only [Act.put, List.setIfInBounds_toArray, List.set_cons_succ, List.set_cons_zero]
  refine q_call 25 _ (.bool hm) rfl (fun w' => by go_simp) (fun w' hw' => (HHM.out w' (hBW.trans (hw'.mono hBW.size))).mono fun e w'' ⟨he, hb⟩ => ⟨he, hw'.trans (hb.mono hw'.size)⟩) ?_
  simp only [Act.put, List.setIfInBounds_toArray, List.set_cons_succ, List.set_cons_zero]
  refine q_val (.bool (!hm)) rfl (fun w' hw' => by go_simp) ?_
  simp only [Act.put, List.setIfInBounds_toArray, List.set_cons_succ, List.set_cons_zero]
  refine wpQuiet_nil ?_
  intro w1 hw1
  have HG1 := Lib.hid (HG0.out.below hw1)
  clear HHM HG0 hw1 hBW hpW HBX
  cases hm with
  | false =>
    have hR := Lib.hid (G1.out rfl)
    clear HHO G1 G2 G3 G4 G5 G6
    have hz := HG1.out.f
    have rz := row_all HG1.out.nn
    go_wp2_with (first
      | (refine @wpList_loadG _ _ _ _ _ _ _ (by kernel_rfl) 36 (.tmp 9) rfl (w.heap.size + 2) 0 rfl (bl fun _ => 0) _ rz undB rfl (size_bl _) ?_; simp only [Act.put, List.setIfInBounds_toArray, List.set_cons_succ, List.set_cons_zero])
      | (refine wpList_store_row rfl 36 (.tmp 6) (.tmp 25) rfl (w.heap.size + 1) (bl fun _ => 0).toArray rfl rfl 36 _ hz (size_bl' _) rfl (bl_all _) ?_; simp only [Act.put]))
    refine bodyPost_ret (results_gt rfl rfl rfl rfl (setRow_heap _ _ _ _ _ _ hz)) rfl ?_
    have hB := below_only HG1.out.be (Nat.le_succ _) (grown_row (B := w.heap.size + 1) (bl fun _ => 0).toArray)
    exact ⟨by rw [hR.out]; try rfl, two_of_below hB, by rw [hR.out]; exact HD.out _ hB, by rw [hR.out]; exact HTT.out _ hB⟩
  | true =>
    obtain ⟨_, hri, hpr, _, _⟩ := HHO.out rfl
    have HRI := Lib.hid hri
    replace G2 := Lib.hid (G2.out rfl)
    replace G3 := Lib.hid (G3.out rfl)
    replace G4 := Lib.hid (G4.out rfl)
    replace G5 := Lib.hid (G5.out rfl)
    replace G6 := Lib.hid (G6.out rfl)
    have cA := Pt.cA_pt HG1.out.p
    clear HHO G1 hri hpr
    by_cases eA : p.A = -1
    · have a' : (p.A == -1) = true := by simpa using eA
      have hR := Lib.hid (G2.out eA)
      clear eA G2 G3 G4 G5 G6
      have hz := HG1.out.f
      have rz := row_all HG1.out.nn
      go_wp2_with (first
        | (refine @wpList_loadG _ _ _ _ _ _ _ (by kernel_rfl) 36 (.tmp 9) rfl (w.heap.size + 2) 0 rfl (bl fun _ => 0) _ rz undB rfl (size_bl _) ?_; simp only [Act.put, List.setIfInBounds_toArray, List.set_cons_succ, List.set_cons_zero])
        | (refine wpList_store_row rfl 36 (.tmp 6) (.tmp 29) rfl (w.heap.size + 1) (bl fun _ => 0).toArray rfl rfl 36 _ hz (size_bl' _) rfl (bl_all _) ?_; simp only [Act.put]))
      refine bodyPost_ret (results_gt rfl rfl rfl rfl (setRow_heap _ _ _ _ _ _ hz)) rfl ?_
      have hB := below_only HG1.out.be (Nat.le_succ _) (grown_row (B := w.heap.size + 1) (bl fun _ => 0).toArray)
      exact ⟨by rw [hR.out]; try rfl, two_of_below hB, by rw [hR.out]; exact HD.out _ hB, by rw [hR.out]; exact HTT.out _ hB⟩
    · have a' : (p.A == -1) = false := by simpa using eA
      replace G3 := Lib.hid (G3.out eA)
      replace G4 := Lib.hid (G4.out eA)
      replace G5 := Lib.hid (G5.out eA)
      replace G6 := Lib.hid (G6.out eA)
      obtain ⟨sa1, sc1, ca1, cc1, hh1⟩ := HD.out w1 HG1.out.be
      have c3 := hh1.bx.c3
      clear eA G2 hh1
      cases hd : X.d with
      | true =>
        rw [hd] at c3
        have hR := Lib.hid (G3.out hd)
        clear hd G3 G4 G5 G6
        have hz := HG1.out.f
        have rz := row_all HG1.out.nn
        go_wp2_with (first
          | (refine @wpList_loadG _ _ _ _ _ _ _ (by kernel_rfl) 36 (.tmp 9) rfl (w.heap.size + 2) 0 rfl (bl fun _ => 0) _ rz undB rfl (size_bl _) ?_; simp only [Act.put, List.setIfInBounds_toArray, List.set_cons_succ, List.set_cons_zero])
          | (refine wpList_store_row rfl 36 (.tmp 6) (.tmp 34) rfl (w.heap.size + 1) (bl fun _ => 0).toArray rfl rfl 36 _ hz (size_bl' _) rfl (bl_all _) ?_; simp only [Act.put]))
        refine bodyPost_ret (results_gt rfl rfl rfl rfl (setRow_heap _ _ _ _ _ _ hz)) rfl ?_
        have hB := below_only HG1.out.be (Nat.le_succ _) (grown_row (B := w.heap.size + 1) (bl fun _ => 0).toArray)
        exact ⟨by rw [hR.out]; try rfl, two_of_below hB, by rw [hR.out]; exact HD.out _ hB, by rw [hR.out]; exact HTT.out _ hB⟩
      | false =>
        rw [hd] at c3
        replace G4 := Lib.hid (G4.out hd)
        replace G5 := Lib.hid (G5.out hd)
        replace G6 := Lib.hid (G6.out hd)
        have hAA : ∀ {w'}, Below w1.heap.size w1 w' → Below w.heap.size w w' := fun hw => HG1.out.be.trans (hw.mono HG1.out.be.size)
        have HPA := Lib.hid (fun w' (hw : Below w1.heap.size w1 w') => below_at' hw HG1.out.p)
        have HGI : Hid (∀ u, BlG w1 TA false false u { w1 with drawn := w1.drawn + 1 }) := Lib.hid fun _ => ⟨⟨rfl, rfl, rfl, Nat.le_refl _, fun _ _ => rfl⟩, (fun h => by cases h), (fun h => by cases h)⟩
        have HCR := HRA
        clear hd G3
        go_wp2_with fail
        refine QuietTail2.regionInv (n := 14) (Inv := RgA _ _ _ _ _ _ _ _ _ _ _ _ _ _ _ _ _ _ _ _ _ _ _ _ _ _ _ _ _ _ _ _ _ _ _ _ _ _ _ _ _ _ _ _ _ _ _ _ _ _ _ _ _ _ _ _ _ _ _ _ _ _ _ _ _ w1 g b w.heap.size p gen pa k cap TA ga) (by kernel_rfl) (by decide) (by kernel_rfl) ⟨_, _, _, _, _, _, _, _, _, _, _, _, _, rfl, by simp, by simp, by simp, by simp, by simp, by simp, by simp, by simp, by simp, by simp, by simp, by simp, HGI.out _⟩ ?stepA ?finA
        case stepA =>
          rintro i o hi ho L a' w' ⟨u0, u1, u2, u3, u4, u5, u6, u7, u8, u9, u10, u11, u13, rfl, i0, i1, i2, i3, i4, i5, i6, i7, i8, i9, i10, i13, iW⟩ hL hpre
          match i, hi with
          | 0, _ =>
            simp at ho
            subst ho
            go_simp
            exact ⟨_, u1, u2, u3, u4, u5, u6, u7, u8, u9, u10, u11, u13, rfl, fun _ => rfl, RgA_kl i1 rfl, RgA_kl i2 rfl, RgA_kl i3 rfl, RgA_kl i4 rfl, RgA_kl i5 rfl, RgA_kl i6 rfl, RgA_kl i7 rfl, RgA_kl i8 rfl, RgA_kl i9 rfl, RgA_kl i10 rfl, RgA_kl i13 rfl, iW⟩
          | 1, _ =>
            simp at ho
            subst ho
            go_simp
            exact ⟨u0, _, u2, u3, u4, u5, u6, u7, u8, u9, u10, u11, u13, rfl, RgA_kl i0 rfl, fun _ => rfl, RgA_kl i2 rfl, RgA_kl i3 rfl, RgA_kl i4 rfl, RgA_kl i5 rfl, RgA_kl i6 rfl, RgA_kl i7 rfl, RgA_kl i8 rfl, RgA_kl i9 rfl, RgA_kl i10 rfl, RgA_kl i13 rfl, iW⟩
          | 2, _ =>
            simp at ho
            subst ho
            obtain rfl := i1 (hpre 1 (by kernel_rfl))
            go_simp
            exact ⟨u0, _, _, u3, u4, u5, u6, u7, u8, u9, u10, u11, u13, rfl, RgA_kl i0 rfl, RgA_kl i1 rfl, fun _ => rfl, RgA_kl i3 rfl, RgA_kl i4 rfl, RgA_kl i5 rfl, RgA_kl i6 rfl, RgA_kl i7 rfl, RgA_kl i8 rfl, RgA_kl i9 rfl, RgA_kl i10 rfl, RgA_kl i13 rfl, iW⟩
          | 3, _ =>
            simp at ho
            subst ho
            obtain rfl := i2 (hpre 2 (by kernel_rfl))
            obtain ⟨k0, k1⟩ := HTB.out w' (hAA iW.be)
            go_simp
            exact ⟨u0, u1, _, _, u4, u5, u6, u7, u8, u9, u10, u11, u13, rfl, RgA_kl i0 rfl, RgA_kl i1 rfl, RgA_kl i2 rfl, fun _ => rfl, RgA_kl i4 rfl, RgA_kl i5 rfl, RgA_kl i6 rfl, RgA_kl i7 rfl, RgA_kl i8 rfl, RgA_kl i9 rfl, RgA_kl i10 rfl, RgA_kl i13 rfl, iW⟩
          | 4, _ =>
            simp at ho
            subst ho
            refine wp_load_mid 31 (.tmp 5) rfl w.heap.size 0 rfl (Pt.pV p) _ (Pt.row_pt (HPA.out w' iW.be)) Pt.undP rfl (Pt.sizeP p) ?_
            simp only [Act.put, List.setIfInBounds_toArray, List.set_cons_succ, List.set_cons_zero]
            exact ⟨u0, u1, u2, u3, _, u5, u6, u7, u8, u9, u10, u11, u13, rfl, RgA_kl i0 rfl, RgA_kl i1 rfl, RgA_kl i2 rfl, RgA_kl i3 rfl, fun _ => rfl, RgA_kl i5 rfl, RgA_kl i6 rfl, RgA_kl i7 rfl, RgA_kl i8 rfl, RgA_kl i9 rfl, RgA_kl i10 rfl, RgA_kl i13 rfl, iW⟩
          | 5, _ =>
            simp at ho
            subst ho
            go_simp
            exact ⟨u0, u1, u2, u3, u4, _, u6, u7, u8, u9, u10, u11, u13, rfl, RgA_kl i0 rfl, RgA_kl i1 rfl, RgA_kl i2 rfl, RgA_kl i3 rfl, RgA_kl i4 rfl, fun _ => rfl, RgA_kl i6 rfl, RgA_kl i7 rfl, RgA_kl i8 rfl, RgA_kl i9 rfl, RgA_kl i10 rfl, RgA_kl i13 rfl, iW⟩
          | 6, _ =>
            simp at ho
            subst ho
            obtain rfl := i5 (hpre 5 (by kernel_rfl))
            have k0 := Pt.cA_pt (HPA.out w' iW.be)
            go_simp
            exact ⟨u0, u1, u2, u3, u4, _, _, u7, u8, u9, u10, u11, u13, rfl, RgA_kl i0 rfl, RgA_kl i1 rfl, RgA_kl i2 rfl, RgA_kl i3 rfl, RgA_kl i4 rfl, RgA_kl i5 rfl, fun _ => rfl, RgA_kl i7 rfl, RgA_kl i8 rfl, RgA_kl i9 rfl, RgA_kl i10 rfl, RgA_kl i13 rfl, iW⟩
          | 7, _ =>
            simp at ho
            subst ho
            obtain rfl := i0 (hpre 0 (by kernel_rfl))
            obtain rfl := i3 (hpre 3 (by kernel_rfl))
            obtain rfl := i4 (hpre 4 (by kernel_rfl))
            obtain rfl := i6 (hpre 6 (by kernel_rfl))
            go_simp
            refine (HCR.out w' (hAA iW.be)).mono ?_
            rintro _ w'' ⟨rfl, hb⟩
            exact ⟨_, u1, u2, _, _, u5, _, _, u8, u9, u10, u11, u13, rfl, RgA_kl i0 rfl, RgA_kl i1 rfl, RgA_kl i2 rfl, RgA_kl i3 rfl, RgA_kl i4 rfl, RgA_kl i5 rfl, RgA_kl i6 rfl, fun _ => rfl, RgA_kl i8 rfl, RgA_kl i9 rfl, RgA_kl i10 rfl, RgA_kl i13 rfl, iW.call hb⟩
          | 8, _ =>
            simp at ho
            subst ho
            obtain rfl := i7 (hpre 7 (by kernel_rfl))
            go_simp
            exact ⟨u0, u1, u2, u3, u4, u5, u6, _, _, u9, u10, u11, u13, rfl, RgA_kl i0 rfl, RgA_kl i1 rfl, RgA_kl i2 rfl, RgA_kl i3 rfl, RgA_kl i4 rfl, RgA_kl i5 rfl, RgA_kl i6 rfl, RgA_kl i7 rfl, fun _ => rfl, RgA_kl i9 rfl, RgA_kl i10 rfl, RgA_kl i13 rfl, iW⟩
          | 9, _ =>
            simp at ho
            subst ho
            obtain rfl := i8 (hpre 8 (by kernel_rfl))
            go_simp
            exact ⟨u0, u1, u2, u3, u4, u5, u6, u7, _, _, u10, u11, u13, rfl, RgA_kl i0 rfl, RgA_kl i1 rfl, RgA_kl i2 rfl, RgA_kl i3 rfl, RgA_kl i4 rfl, RgA_kl i5 rfl, RgA_kl i6 rfl, RgA_kl i7 rfl, RgA_kl i8 rfl, fun _ => rfl, RgA_kl i10 rfl, RgA_kl i13 rfl, iW⟩
          | 10, _ =>
            simp at ho
            subst ho
            obtain rfl := i8 (hpre 8 (by kernel_rfl))
            go_simp
            exact ⟨u0, u1, u2, u3, u4, u5, u6, u7, _, u9, _, u11, u13, rfl, RgA_kl i0 rfl, RgA_kl i1 rfl, RgA_kl i2 rfl, RgA_kl i3 rfl, RgA_kl i4 rfl, RgA_kl i5 rfl, RgA_kl i6 rfl, RgA_kl i7 rfl, RgA_kl i8 rfl, RgA_kl i9 rfl, fun _ => rfl, RgA_kl i13 rfl, iW⟩
          | 11, _ =>
            simp at ho
            subst ho
            go_simp
            exact ⟨u0, u1, u2, u3, u4, u5, u6, u7, u8, u9, u10, _, u13, rfl, RgA_kl i0 rfl, RgA_kl i1 rfl, RgA_kl i2 rfl, RgA_kl i3 rfl, RgA_kl i4 rfl, RgA_kl i5 rfl, RgA_kl i6 rfl, RgA_kl i7 rfl, RgA_kl i8 rfl, RgA_kl i9 rfl, RgA_kl i10 rfl, RgA_kl i13 rfl, iW.alloc hL⟩
          | 12, _ =>
            simp at ho
            subst ho
            obtain rfl := i9 (hpre 9 (by kernel_rfl))
            obtain ⟨bk, e10, _, hbk⟩ := iW.al (hpre 11 (by kernel_rfl))
            rw [hL] at hbk
            subst e10
            refine wp_store_row 36 (.tmp 10) (.tmp 44) rfl bk (bl TA).toArray rfl rfl 36 _ hbk (size_bl' _) rfl (bl_all _) ?_
            exact ⟨u0, u1, u2, u3, u4, u5, u6, u7, u8, _, u10, _, u13, rfl, RgA_kl i0 rfl, RgA_kl i1 rfl, RgA_kl i2 rfl, RgA_kl i3 rfl, RgA_kl i4 rfl, RgA_kl i5 rfl, RgA_kl i6 rfl, RgA_kl i7 rfl, RgA_kl i8 rfl, RgA_kl i9 rfl, RgA_kl i10 rfl, RgA_kl i13 rfl, iW.put hL (hpre 11 (by kernel_rfl)) hbk⟩
          | 13, _ =>
            simp at ho
            subst ho
            obtain rfl := i10 (hpre 10 (by kernel_rfl))
            go_simp
            exact ⟨u0, u1, u2, u3, u4, u5, u6, u7, u8, u9, _, u11, _, rfl, RgA_kl i0 rfl, RgA_kl i1 rfl, RgA_kl i2 rfl, RgA_kl i3 rfl, RgA_kl i4 rfl, RgA_kl i5 rfl, RgA_kl i6 rfl, RgA_kl i7 rfl, RgA_kl i8 rfl, RgA_kl i9 rfl, RgA_kl i10 rfl, fun _ => rfl, iW⟩
          | i + 14, h => omega
        rintro L a' w5 hall ⟨u0, u1, u2, u3, u4, u5, u6, u7, u8, u9, u10, u11, u13, rfl, i0, i1, i2, i3, i4, i5, i6, i7, i8, i9, i10, i13, iW⟩
        obtain rfl := i0 (hall 0 (by omega))
        obtain rfl := i1 (hall 1 (by omega))
        obtain rfl := i2 (hall 2 (by omega))
        obtain rfl := i3 (hall 3 (by omega))
        obtain rfl := i4 (hall 4 (by omega))
        obtain rfl := i5 (hall 5 (by omega))
        obtain rfl := i6 (hall 6 (by omega))
        obtain rfl := i7 (hall 7 (by omega))
        obtain rfl := i8 (hall 8 (by omega))
        obtain rfl := i9 (hall 9 (by omega))
        obtain rfl := i10 (hall 10 (by omega))
        obtain rfl := i13 (hall 13 (by omega))
        obtain ⟨bk, eu, hbk0, hbk⟩ := iW.al (hall 11 (by omega))
        rw [hall 12 (by omega), if_pos rfl] at hbk
        have hb5 := iW.be
        clear iW
        subst eu
        clear i0 i1 i2 i3 i4 i5 i6 i7 i8 i9 i10 i13 hall
        simp only [List.drop_succ_cons, List.drop_zero]
        refine wpList_nil ?_
        have HG5 := Lib.hid (HG1.out.below hb5)
        have rA := row_all hbk
        have cB := Pt.cB_pt HG5.out.p
        have hlt5 := (Array.getElem?_eq_some_iff.1 hbk).1
        clear HGI HCR HRA HPA hb5 hAA HG1 cA c3 a'
        cases ga with
        | true =>
          have hR := Lib.hid (G4.out rfl)
          have hz := HG5.out.f
          clear G4 G5 G6
          go_wp2_with (first
            | (refine @wpList_loadG _ _ _ _ _ _ _ (by kernel_rfl) 36 (.tmp 10) rfl bk 0 rfl (bl TA) _ rA undB rfl (size_bl _) ?_; simp only [Act.put, List.setIfInBounds_toArray, List.set_cons_succ, List.set_cons_zero])
            | (refine wpList_store_row rfl 36 (.tmp 6) (.tmp 47) rfl (w.heap.size + 1) (bl TA).toArray rfl rfl 36 _ hz (size_bl' _) rfl (bl_all _) ?_; simp only [Act.put]))
          refine bodyPost_ret (results_gt rfl rfl rfl rfl (setRow_heap _ _ _ _ _ _ hz)) rfl ?_
          have hB := below_only HG5.out.be (Nat.le_succ _) (grown_row (B := w.heap.size + 1) (bl TA).toArray)
          exact ⟨by rw [hR.out]; try rfl, two_of_below hB, by rw [hR.out]; exact HD.out _ hB, by rw [hR.out]; exact HTT.out _ hB⟩
        | false =>
          replace G5 := Lib.hid (G5.out rfl)
          replace G6 := Lib.hid (G6.out rfl)
          clear G4 rA hbk hbk0 hlt5
          by_cases eB : p.B = -1
          · have b' : (p.B == -1) = true := by simpa using eB
            have hR := Lib.hid (G5.out (.inl eB))
            clear eB G5 G6
            have hz := HG5.out.f
            have rz := row_all HG5.out.nn
            go_wp2_with (first
              | (refine @wpList_loadG _ _ _ _ _ _ _ (by kernel_rfl) 36 (.tmp 9) rfl (w.heap.size + 2) 0 rfl (bl fun _ => 0) _ rz undB rfl (size_bl _) ?_; simp only [Act.put, List.setIfInBounds_toArray, List.set_cons_succ, List.set_cons_zero])
              | (refine wpList_store_row rfl 36 (.tmp 6) (.tmp 51) rfl (w.heap.size + 1) (bl fun _ => 0).toArray rfl rfl 36 _ hz (size_bl' _) rfl (bl_all _) ?_; simp only [Act.put]))
            refine bodyPost_ret (results_gt rfl rfl rfl rfl (setRow_heap _ _ _ _ _ _ hz)) rfl ?_
            have hB := below_only HG5.out.be (Nat.le_succ _) (grown_row (B := w.heap.size + 1) (bl fun _ => 0).toArray)
            exact ⟨by rw [hR.out]; try rfl, two_of_below hB, by rw [hR.out]; exact HD.out _ hB, by rw [hR.out]; exact HTT.out _ hB⟩
          · have b' : (p.B == -1) = false := by simpa using eB
            replace G6 := Lib.hid (G6.out eB)
            have hAA : ∀ {w'}, Below w5.heap.size w5 w' → Below w.heap.size w w' := fun hw => HG5.out.be.trans (hw.mono HG5.out.be.size)
            have HPA := Lib.hid (fun w' (hw : Below w5.heap.size w5 w') => below_at' hw HG5.out.p)
            have HGI : Hid (∀ u, BlG w5 TB false false u { w5 with drawn := w5.drawn + 1 }) := Lib.hid fun _ => ⟨⟨rfl, rfl, rfl, Nat.le_refl _, fun _ _ => rfl⟩, (fun h => by cases h), (fun h => by cases h)⟩
            have HCR := HRB
            clear eB
            go_wp2_with fail
            refine QuietTail2.regionInv (n := 14) (Inv := RgB _ _ _ _ _ _ _ _ _ _ _ _ _ _ _ _ _ _ _ _ _ _ _ _ _ _ _ _ _ _ _ _ _ _ _ _ _ _ _ _ _ _ _ _ _ _ _ _ _ _ _ _ _ _ _ _ _ _ _ _ _ _ _ _ _ w5 g b w.heap.size p gen pa k cap TB gb) (by kernel_rfl) (by decide) (by kernel_rfl) ⟨_, _, _, _, _, _, _, _, _, _, _, _, _, rfl, by simp, by simp, by simp, by simp, by simp, by simp, by simp, by simp, by simp, by simp, by simp, by simp, HGI.out _⟩ ?stepB ?finB
            case stepB =>
              rintro i o hi ho L a' w' ⟨u0, u1, u2, u3, u4, u5, u6, u7, u8, u9, u10, u11, u13, rfl, i0, i1, i2, i3, i4, i5, i6, i7, i8, i9, i10, i13, iW⟩ hL hpre
              match i, hi with
              | 0, _ =>
                simp at ho
                subst ho
                go_simp
                exact ⟨_, u1, u2, u3, u4, u5, u6, u7, u8, u9, u10, u11, u13, rfl, fun _ => rfl, RgB_kl i1 rfl, RgB_kl i2 rfl, RgB_kl i3 rfl, RgB_kl i4 rfl, RgB_kl i5 rfl, RgB_kl i6 rfl, RgB_kl i7 rfl, RgB_kl i8 rfl, RgB_kl i9 rfl, RgB_kl i10 rfl, RgB_kl i13 rfl, iW⟩
              | 1, _ =>
                simp at ho
                subst ho
                go_simp
                exact ⟨u0, _, u2, u3, u4, u5, u6, u7, u8, u9, u10, u11, u13, rfl, RgB_kl i0 rfl, fun _ => rfl, RgB_kl i2 rfl, RgB_kl i3 rfl, RgB_kl i4 rfl, RgB_kl i5 rfl, RgB_kl i6 rfl, RgB_kl i7 rfl, RgB_kl i8 rfl, RgB_kl i9 rfl, RgB_kl i10 rfl, RgB_kl i13 rfl, iW⟩
              | 2, _ =>
                simp at ho
                subst ho
                obtain rfl := i1 (hpre 1 (by kernel_rfl))
                go_simp
                exact ⟨u0, _, _, u3, u4, u5, u6, u7, u8, u9, u10, u11, u13, rfl, RgB_kl i0 rfl, RgB_kl i1 rfl, fun _ => rfl, RgB_kl i3 rfl, RgB_kl i4 rfl, RgB_kl i5 rfl, RgB_kl i6 rfl, RgB_kl i7 rfl, RgB_kl i8 rfl, RgB_kl i9 rfl, RgB_kl i10 rfl, RgB_kl i13 rfl, iW⟩
              | 3, _ =>
                simp at ho
                subst ho
                obtain rfl := i2 (hpre 2 (by kernel_rfl))
                obtain ⟨k0, k1⟩ := HTB.out w' (hAA iW.be)
                go_simp
                exact ⟨u0, u1, _, _, u4, u5, u6, u7, u8, u9, u10, u11, u13, rfl, RgB_kl i0 rfl, RgB_kl i1 rfl, RgB_kl i2 rfl, fun _ => rfl, RgB_kl i4 rfl, RgB_kl i5 rfl, RgB_kl i6 rfl, RgB_kl i7 rfl, RgB_kl i8 rfl, RgB_kl i9 rfl, RgB_kl i10 rfl, RgB_kl i13 rfl, iW⟩
              | 4, _ =>
                simp at ho
                subst ho
                refine wp_load_mid 31 (.tmp 5) rfl w.heap.size 0 rfl (Pt.pV p) _ (Pt.row_pt (HPA.out w' iW.be)) Pt.undP rfl (Pt.sizeP p) ?_
                simp only [Act.put, List.setIfInBounds_toArray, List.set_cons_succ, List.set_cons_zero]
                exact ⟨u0, u1, u2, u3, _, u5, u6, u7, u8, u9, u10, u11, u13, rfl, RgB_kl i0 rfl, RgB_kl i1 rfl, RgB_kl i2 rfl, RgB_kl i3 rfl, fun _ => rfl, RgB_kl i5 rfl, RgB_kl i6 rfl, RgB_kl i7 rfl, RgB_kl i8 rfl, RgB_kl i9 rfl, RgB_kl i10 rfl, RgB_kl i13 rfl, iW⟩
              | 5, _ =>
                simp at ho
                subst ho
                go_simp
                exact ⟨u0, u1, u2, u3, u4, _, u6, u7, u8, u9, u10, u11, u13, rfl, RgB_kl i0 rfl, RgB_kl i1 rfl, RgB_kl i2 rfl, RgB_kl i3 rfl, RgB_kl i4 rfl, fun _ => rfl, RgB_kl i6 rfl, RgB_kl i7 rfl, RgB_kl i8 rfl, RgB_kl i9 rfl, RgB_kl i10 rfl, RgB_kl i13 rfl, iW⟩
              | 6, _ =>
                simp at ho
                subst ho
                obtain rfl := i5 (hpre 5 (by kernel_rfl))
                have k0 := Pt.cB_pt (HPA.out w' iW.be)
                go_simp
                exact ⟨u0, u1, u2, u3, u4, _, _, u7, u8, u9, u10, u11, u13, rfl, RgB_kl i0 rfl, RgB_kl i1 rfl, RgB_kl i2 rfl, RgB_kl i3 rfl, RgB_kl i4 rfl, RgB_kl i5 rfl, fun _ => rfl, RgB_kl i7 rfl, RgB_kl i8 rfl, RgB_kl i9 rfl, RgB_kl i10 rfl, RgB_kl i13 rfl, iW⟩
              | 7, _ =>
                simp at ho
                subst ho
                obtain rfl := i0 (hpre 0 (by kernel_rfl))
                obtain rfl := i3 (hpre 3 (by kernel_rfl))
                obtain rfl := i4 (hpre 4 (by kernel_rfl))
                obtain rfl := i6 (hpre 6 (by kernel_rfl))
                go_simp
                refine (HCR.out w' (hAA iW.be)).mono ?_
                rintro _ w'' ⟨rfl, hb⟩
                exact ⟨_, u1, u2, _, _, u5, _, _, u8, u9, u10, u11, u13, rfl, RgB_kl i0 rfl, RgB_kl i1 rfl, RgB_kl i2 rfl, RgB_kl i3 rfl, RgB_kl i4 rfl, RgB_kl i5 rfl, RgB_kl i6 rfl, fun _ => rfl, RgB_kl i8 rfl, RgB_kl i9 rfl, RgB_kl i10 rfl, RgB_kl i13 rfl, iW.call hb⟩
              | 8, _ =>
                simp at ho
                subst ho
                obtain rfl := i7 (hpre 7 (by kernel_rfl))
                go_simp
                exact ⟨u0, u1, u2, u3, u4, u5, u6, _, _, u9, u10, u11, u13, rfl, RgB_kl i0 rfl, RgB_kl i1 rfl, RgB_kl i2 rfl, RgB_kl i3 rfl, RgB_kl i4 rfl, RgB_kl i5 rfl, RgB_kl i6 rfl, RgB_kl i7 rfl, fun _ => rfl, RgB_kl i9 rfl, RgB_kl i10 rfl, RgB_kl i13 rfl, iW⟩
              | 9, _ =>
                simp at ho
                subst ho
                obtain rfl := i8 (hpre 8 (by kernel_rfl))
                go_simp
                exact ⟨u0, u1, u2, u3, u4, u5, u6, u7, _, _, u10, u11, u13, rfl, RgB_kl i0 rfl, RgB_kl i1 rfl, RgB_kl i2 rfl, RgB_kl i3 rfl, RgB_kl i4 rfl, RgB_kl i5 rfl, RgB_kl i6 rfl, RgB_kl i7 rfl, RgB_kl i8 rfl, fun _ => rfl, RgB_kl i10 rfl, RgB_kl i13 rfl, iW⟩
              | 10, _ =>
                simp at ho
                subst ho
                obtain rfl := i8 (hpre 8 (by kernel_rfl))
                go_simp
                exact ⟨u0, u1, u2, u3, u4, u5, u6, u7, _, u9, _, u11, u13, rfl, RgB_kl i0 rfl, RgB_kl i1 rfl, RgB_kl i2 rfl, RgB_kl i3 rfl, RgB_kl i4 rfl, RgB_kl i5 rfl, RgB_kl i6 rfl, RgB_kl i7 rfl, RgB_kl i8 rfl, RgB_kl i9 rfl, fun _ => rfl, RgB_kl i13 rfl, iW⟩
              | 11, _ =>
                simp at ho
                subst ho
                go_simp
                exact ⟨u0, u1, u2, u3, u4, u5, u6, u7, u8, u9, u10, _, u13, rfl, RgB_kl i0 rfl, RgB_kl i1 rfl, RgB_kl i2 rfl, RgB_kl i3 rfl, RgB_kl i4 rfl, RgB_kl i5 rfl, RgB_kl i6 rfl, RgB_kl i7 rfl, RgB_kl i8 rfl, RgB_kl i9 rfl, RgB_kl i10 rfl, RgB_kl i13 rfl, iW.alloc hL⟩
              | 12, _ =>
                simp at ho
                subst ho
                obtain rfl := i9 (hpre 9 (by kernel_rfl))
                obtain ⟨bk, e10, _, hbk⟩ := iW.al (hpre 11 (by kernel_rfl))
                rw [hL] at hbk
                subst e10
                refine wp_store_row 36 (.tmp 12) (.tmp 61) rfl bk (bl TB).toArray rfl rfl 36 _ hbk (size_bl' _) rfl (bl_all _) ?_
                exact ⟨u0, u1, u2, u3, u4, u5, u6, u7, u8, _, u10, _, u13, rfl, RgB_kl i0 rfl, RgB_kl i1 rfl, RgB_kl i2 rfl, RgB_kl i3 rfl, RgB_kl i4 rfl, RgB_kl i5 rfl, RgB_kl i6 rfl, RgB_kl i7 rfl, RgB_kl i8 rfl, RgB_kl i9 rfl, RgB_kl i10 rfl, RgB_kl i13 rfl, iW.put hL (hpre 11 (by kernel_rfl)) hbk⟩
              | 13, _ =>
                simp at ho
                subst ho
                obtain rfl := i10 (hpre 10 (by kernel_rfl))
                go_simp
                exact ⟨u0, u1, u2, u3, u4, u5, u6, u7, u8, u9, _, u11, _, rfl, RgB_kl i0 rfl, RgB_kl i1 rfl, RgB_kl i2 rfl, RgB_kl i3 rfl, RgB_kl i4 rfl, RgB_kl i5 rfl, RgB_kl i6 rfl, RgB_kl i7 rfl, RgB_kl i8 rfl, RgB_kl i9 rfl, RgB_kl i10 rfl, fun _ => rfl, iW⟩
              | i + 14, h => omega
            rintro L a' w7 hall ⟨u0, u1, u2, u3, u4, u5, u6, u7, u8, u9, u10, u11, u13, rfl, i0, i1, i2, i3, i4, i5, i6, i7, i8, i9, i10, i13, iW⟩
            obtain rfl := i0 (hall 0 (by omega))
            obtain rfl := i1 (hall 1 (by omega))
            obtain rfl := i2 (hall 2 (by omega))
            obtain rfl := i3 (hall 3 (by omega))
            obtain rfl := i4 (hall 4 (by omega))
            obtain rfl := i5 (hall 5 (by omega))
            obtain rfl := i6 (hall 6 (by omega))
            obtain rfl := i7 (hall 7 (by omega))
            obtain rfl := i8 (hall 8 (by omega))
            obtain rfl := i9 (hall 9 (by omega))
            obtain rfl := i10 (hall 10 (by omega))
            obtain rfl := i13 (hall 13 (by omega))
            obtain ⟨bk, eu, hbk0, hbk⟩ := iW.al (hall 11 (by omega))
            rw [hall 12 (by omega), if_pos rfl] at hbk
            have hb7 := iW.be
            clear iW
            subst eu
            clear i0 i1 i2 i3 i4 i5 i6 i7 i8 i9 i10 i13 hall
            simp only [List.drop_succ_cons, List.drop_zero]
            refine wpList_nil ?_
            have HG7 := Lib.hid (HG5.out.below hb7)
            have rB := row_all hbk
            have cA7 := Pt.cA_pt HG7.out.p
            have HBK := Lib.hid hbk
            have hlt7 := (Array.getElem?_eq_some_iff.1 hbk).1
            have hs5 := HG5.out.be.size
            clear HGI HCR HRB HPA hb7 hAA HG5 cB b' HTB hbk
            cases gb with
            | false =>
              have hR := Lib.hid (G5.out (.inr rfl))
              clear G5 G6
              have hz := HG7.out.f
              have rz := row_all HG7.out.nn
              go_wp2_with (first
                | (refine @wpList_loadG _ _ _ _ _ _ _ (by kernel_rfl) 36 (.tmp 9) rfl (w.heap.size + 2) 0 rfl (bl fun _ => 0) _ rz undB rfl (size_bl _) ?_; simp only [Act.put, List.setIfInBounds_toArray, List.set_cons_succ, List.set_cons_zero])
                | (refine wpList_store_row rfl 36 (.tmp 6) (.tmp 65) rfl (w.heap.size + 1) (bl fun _ => 0).toArray rfl rfl 36 _ hz (size_bl' _) rfl (bl_all _) ?_; simp only [Act.put]))
              refine bodyPost_ret (results_gt rfl rfl rfl rfl (setRow_heap _ _ _ _ _ _ hz)) rfl ?_
              have hB := below_only HG7.out.be (Nat.le_succ _) (grown_row (B := w.heap.size + 1) (bl fun _ => 0).toArray)
              exact ⟨by rw [hR.out]; try rfl, two_of_below hB, by rw [hR.out]; exact HD.out _ hB, by rw [hR.out]; exact HTT.out _ hB⟩
            | true =>
              have hRR := Lib.hid (G6.out rfl)
              have HH := Lib.hid (HHL.out w7 HG7.out.be TB)
              have hw := HWR.out p.A TB HRI.out
              unfold Healed at HH
              generalize wRes n X ⟨gen, k, F, T⟩ p.A TB = Q at HH hRR hw
              obtain ⟨E, X', M'⟩ := Q
              dsimp only at HH hw
              have HW := Lib.hid hw
              clear hw HHL HWR G5 G6
              go_wp2_with (refine @wpList_loadG _ _ _ _ _ _ _ (by kernel_rfl) 36 (.tmp 12) rfl bk 0 rfl (bl TB) _ rB undB rfl (size_bl _) ?_; simp only [Act.put, List.setIfInBounds_toArray, List.set_cons_succ, List.set_cons_zero])
              refine HH.out.mono ?_
              rintro _ w8 ⟨rfl, hT8, hD8, hM8⟩
              have hz8 := (hT8.block (w.heap.size + 1) (Array.getElem?_eq_some_iff.1 HG7.out.f).1 (by omega) (by omega)).trans HG7.out.f
              have hn8 := (hT8.block (w.heap.size + 2) (Array.getElem?_eq_some_iff.1 HG7.out.nn).1 (by omega) (by omega)).trans HG7.out.nn
              have hk8 := (hT8.block bk hlt7 (by omega) (by omega)).trans HBK.out
              have hT8' := two_below' HG7.out.be hT8
              have rn := row_all hn8
              have rk := row_all hk8
              clear HH hT8 rB cA7 hn8 hk8 HBK HG7
              dsimp only
              by_cases e3 : E = 3
              · subst e3
                have hRR' : Hid (R = ⟨fun _ => 0, 0, 3, X', M'⟩) := Lib.hid (by rw [hRR.out]; rfl)
                have hh : hlE 3 = 3 := rfl
                clear hRR
                go_wp2_with (first
                  | (refine @wpList_loadG _ _ _ _ _ _ _ (by kernel_rfl) 36 (.tmp 9) rfl (w.heap.size + 2) 0 rfl (bl fun _ => 0) _ rn undB rfl (size_bl _) ?_; simp only [Act.put, List.setIfInBounds_toArray, List.set_cons_succ, List.set_cons_zero])
                  | (refine wpList_store_row rfl 36 (.tmp 6) (.tmp 77) rfl (w.heap.size + 1) (bl fun _ => 0).toArray rfl rfl 36 _ hz8 (size_bl' _) rfl (bl_all _) ?_; simp only [Act.put]))
                refine bodyPost_ret (results_gt rfl rfl rfl rfl (setRow_heap _ _ _ _ _ _ hz8)) rfl ?_
                exact ⟨by rw [hRR'.out]; try rfl, two_only hT8' (Nat.le_succ _) (grown_row _), by rw [hRR'.out]; exact hasD_only hD8 hz8 (bl_le _) (by omega) (grown_row _), by rw [hRR'.out]; exact hasT_only hM8 HW.out hz8 (bl_small _) (by omega) (grown_row _)⟩
              · have hRR' : Hid (R = ⟨TB, hlH E, 0, X', M'⟩) := Lib.hid (by rw [hRR.out]; exact if_neg e3)
                have hh : hlE E = 0 := if_neg e3
                clear hRR e3
                generalize hlH E = hE at hRR' ⊢
                generalize hlE E = eE at hh ⊢
                subst hh
                go_wp2_with (first
                  | (refine @wpList_loadG _ _ _ _ _ _ _ (by kernel_rfl) 36 (.tmp 12) rfl bk 0 rfl (bl TB) _ rk undB rfl (size_bl _) ?_; simp only [Act.put, List.setIfInBounds_toArray, List.set_cons_succ, List.set_cons_zero])
                  | (refine wpList_store_row rfl 36 (.tmp 6) (.tmp 79) rfl (w.heap.size + 1) (bl TB).toArray rfl rfl 36 _ hz8 (size_bl' _) rfl (bl_all _) ?_; simp only [Act.put]))
                refine bodyPost_ret (results_gt rfl rfl rfl rfl (setRow_heap _ _ _ _ _ _ hz8)) rfl ?_
                exact ⟨by rw [hRR'.out]; try rfl, two_only hT8' (Nat.le_succ _) (grown_row _), by rw [hRR'.out]; exact hasD_only hD8 hz8 (bl_le _) (by omega) (grown_row _), by rw [hRR'.out]; exact hasT_only hM8 HW.out hz8 (bl_small _) (by omega) (grown_row _)⟩
end Di
end Go.Proofs.YtllejfnmbpjhaaaGreatDoor
