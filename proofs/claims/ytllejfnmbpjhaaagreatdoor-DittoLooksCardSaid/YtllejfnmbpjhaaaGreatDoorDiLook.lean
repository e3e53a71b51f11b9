/- ditto: Look (made by tools/gen_dlook.py). -/
import Derived.Test.YtllejfnmbpjhaaaGreatDoorDiGet
namespace Go.Proofs.YtllejfnmbpjhaaaGreatDoor
set_option maxRecDepth 20000
namespace Di
open Go.RowKit Dk Byt Eqb Rm

attribute [local go_sem] zv29
attribute [local go_sem] Pt.zvP
attribute [local go_sem] zc29
/-- what Look comes to -/
def Saws (w : World) (g b n : Nat) (R : LR) (e : Ending) (w' : World) : Prop := e = .returned (.tuple #[.agg #[.int .i64 R.s, .int .i64 R.b, .int .i64 R.h, .slice none 0 0], .int .i64 R.e]) ∧ Two w w' g b ∧ HasD w' g n R.X ∧ HasT w' b g R.M
/-- a report in block b -/
def Rb (w : World) (b : Nat) (s d h : Int) : Prop := w.heap[b]? = some (.cells #[.int .i64 s, .int .i64 d, .int .i64 h, .slice none 0 0] 47 (0, 0))
theorem Rb.cs {w : World} {b : Nat} {s d h : Int} (r : Rb w b s d h) : w.cell? ⟨b, 0, none⟩ = some (.int .i64 s) ∧ w.cell? ⟨b, 1, none⟩ = some (.int .i64 d) ∧ w.cell? ⟨b, 2, none⟩ = some (.int .i64 h) ∧ w.cell? ⟨b, 3, none⟩ = some (.slice none 0 0) ∧ w.frozen? ⟨b, 0, none⟩ = false ∧ w.frozen? ⟨b, 1, none⟩ = false ∧ w.frozen? ⟨b, 2, none⟩ = false := by
  unfold Rb at r
  exact ⟨by rw [cell_of_row _ _ _ _ _ _ r]; rfl, by rw [cell_of_row _ _ _ _ _ _ r]; rfl, by rw [cell_of_row _ _ _ _ _ _ r]; rfl, by rw [cell_of_row _ _ _ _ _ _ r]; rfl, frozen_of_row w b 0 _ _ r, frozen_of_row w b 1 _ _ r, frozen_of_row w b 2 _ _ r⟩
theorem Rb.lt {w : World} {b : Nat} {s d h : Int} (r : Rb w b s d h) : b < w.heap.size := (Array.getElem?_eq_some_iff.1 r).1
theorem Rb.s0 {w : World} {b : Nat} {s d h : Int} (r : Rb w b s d h) (z : Int) : Rb (w.setCell ⟨b, 0, none⟩ (.int .i64 z)) b z d h := by unfold Rb at r ⊢; rw [heap_setCell_same w b 0 _ _ _ r]; rfl
theorem Rb.s1 {w : World} {b : Nat} {s d h : Int} (r : Rb w b s d h) (z : Int) : Rb (w.setCell ⟨b, 1, none⟩ (.int .i64 z)) b s z h := by unfold Rb at r ⊢; rw [heap_setCell_same w b 1 _ _ _ r]; rfl
theorem Rb.s2 {w : World} {b : Nat} {s d h : Int} (r : Rb w b s d h) (z : Int) : Rb (w.setCell ⟨b, 2, none⟩ (.int .i64 z)) b s d z := by unfold Rb at r ⊢; rw [heap_setCell_same w b 2 _ _ _ r]; rfl
theorem rb_one (s d h : Int) : (#[.int .i64 s, .int .i64 d, .int .i64 h, .slice none 0 0] : Array Value).all (·.oneCell') = true := by simp [Value.oneCell']
theorem rb_small {s d h : Int} (h0 : s < 8) (h1 : d < 8) (h2 : h < 8) (i : Nat) (z : Int) (e : (#[.int .i64 s, .int .i64 d, .int .i64 h, .slice none 0 0] : Array Value)[i]? = some (.int .i64 z)) : z < 8 := by
  match i with
  | 0 => simp at e; omega
  | 1 => simp at e; omega
  | 2 => simp at e; omega
  | 3 => simp at e
  | i + 4 => simp at e
theorem undR : Tryz.prog.underlying 47 = some (.struct (Tryz.prog.fieldsOf 47)) := by kernel_rfl
theorem results_lk {tmps : Array Value} {w : World} {B : Nat} {s d h e : Int} {fn : Func} (hf : fn.results = #[.cell 6 47, .tmp 7]) (h4 : tmps.getD 6 undef = .pointer (some ⟨B, 0, none⟩)) (h5 : tmps.getD 7 undef = .int .i64 e)
    (kV : w.heap[B]? = some (.cells #[.int .i64 s, .int .i64 d, .int .i64 h, .slice none 0 0] 47 (0, 0))) : (results fn tmps).run Tryz.prog w = .ok (.tuple #[.agg #[.int .i64 s, .int .i64 d, .int .i64 h, .slice none 0 0], .int .i64 e]) w := by
  have h4' : tmps[6]?.getD undef = .pointer (some ⟨B, 0, none⟩) := by simpa using h4
  have h5' : tmps[7]?.getD undef = .int .i64 e := by simpa using h5
  have hv := run_loadVar_row (P := Tryz.prog) w B 47 47 #[.int .i64 s, .int .i64 d, .int .i64 h, .slice none 0 0] (0, 0) _ kV undR rfl (by kernel_rfl)
  simp [results, hf, h4', h5', asAddr, hv]
theorem builtR : Tryz.prog.built 47 [] = some #[.int .i64 0, .int .i64 0, .int .i64 0, .slice none 0 0] := by kernel_rfl
/-- a drawn region that lays a block that a call answers -/
structure BlW (W0 : World) (V : Nat → Int) (la ls : Bool) (u : Value) (w' : World) : Prop where
  be : Below W0.heap.size W0 w'
  al : la = true → ∃ bk, u = .pointer (some ⟨bk, 0, none⟩) ∧ W0.heap.size ≤ bk ∧ w'.heap[bk]? = some (.cells (bl (if ls = true then V else fun _ => 0)).toArray 36 (0, 0))
  ord : ls = true → la = true
theorem BlW.call {W0 w' w'' : World} {V : Nat → Int} {la ls : Bool} {u : Value} (h : BlW W0 V la ls u w') (hb : Below w'.heap.size w' w'') : BlW W0 V la ls u w'' :=
  ⟨h.be.trans (hb.mono h.be.size), fun e => by obtain ⟨bk, e1, e2, e3⟩ := h.al e; exact ⟨bk, e1, e2, (hb.block bk (Array.getElem?_eq_some_iff.1 e3).1).trans e3⟩, h.ord⟩
theorem BlW.alloc {W0 w' : World} {V : Nat → Int} {la ls : Bool} {u : Value} (h : BlW W0 V la ls u w') (hl : la = false) : BlW W0 V true ls (.pointer (some ⟨w'.heap.size, 0, none⟩)) (w'.alloc (.cells (bl fun _ => 0).toArray 36)) :=
  ⟨h.be.alloc h.be.size _, fun _ => ⟨_, rfl, h.be.size, by
    have : ls = false := by cases e : ls with | false => rfl | true => rw [h.ord e] at hl; cases hl
    rw [this, if_neg (by decide)]
    exact heap_alloc_new _ _⟩, fun _ => rfl⟩
theorem BlW.put {W0 w' : World} {V : Nat → Int} {la ls : Bool} {bk : Nat} {c : Array Value} (h : BlW W0 V la ls (.pointer (some ⟨bk, 0, none⟩)) w') (_ : ls = false) (hl : la = true) (hb : w'.heap[bk]? = some (.cells c 36 (0, 0))) : BlW W0 V la true (.pointer (some ⟨bk, 0, none⟩)) (w'.setRow bk (bl V).toArray) := by
  obtain ⟨bk', e1, e2, _⟩ := h.al hl
  injection e1 with e1
  injection e1 with e1
  injection e1 with e1
  subst e1
  exact ⟨⟨h.be.os, h.be.tape, h.be.output, by simpa using h.be.size, fun k hk => (setRow_other w' bk k _ (by omega)).trans (h.be.block k hk)⟩, fun _ => ⟨bk, rfl, e2, by rw [if_pos rfl]; exact setRow_heap w' bk _ _ _ _ hb⟩, fun _ => hl⟩
/-- the call's own blocks: the pointer, the report that is told, the report, the good block -/
structure LkW (w : World) (p : Pt.Pn) (b8 : Nat) (s d : Int) (f : Nat → Int) (w' : World) : Prop where
  be : Below w.heap.size w w'
  p : w'.heap[w.heap.size]? = some (.cells (Pt.pV p).toArray 31 (0, 0))
  z : Rb w' (w.heap.size + 1) 0 0 0
  r : Rb w' b8 s d 0
  f : w'.heap[b8 + 1]? = some (.cells (bl f).toArray 36 (0, 0))
  far : w.heap.size + 1 < b8
section
variable {w w' w'' : World} {p : Pt.Pn} {b8 : Nat} {s d : Int} {f : Nat → Int}
theorem LkW.below (h : LkW w p b8 s d f w') (hb : Below w'.heap.size w' w'') : LkW w p b8 s d f w'' :=
  ⟨h.be.trans (hb.mono h.be.size), (hb.block _ (Array.getElem?_eq_some_iff.1 h.p).1).trans h.p, (hb.block _ h.z.lt).trans h.z, (hb.block _ h.r.lt).trans h.r, (hb.block _ (Array.getElem?_eq_some_iff.1 h.f).1).trans h.f, h.far⟩
theorem LkW.seen (h : LkW w p b8 s d f w') (z : Int) : LkW w p b8 z d f (w'.setCell ⟨b8, 0, none⟩ (.int .i64 z)) :=
  have hf := h.far
  ⟨below_only h.be (by omega) (only_put _ _ _ _), (Below.heap_setCell _ _ _ _ (by show _ ≠ b8; omega)).trans h.p, (Below.heap_setCell _ _ _ _ (by show _ ≠ b8; omega)).trans h.z, h.r.s0 z, (Below.heap_setCell _ _ _ _ (by show _ ≠ b8; omega)).trans h.f, h.far⟩
theorem LkW.bad (h : LkW w p b8 s d f w') (z : Int) : LkW w p b8 s z f (w'.setCell ⟨b8, 1, none⟩ (.int .i64 z)) :=
  have hf := h.far
  ⟨below_only h.be (by omega) (only_put _ _ _ _), (Below.heap_setCell _ _ _ _ (by show _ ≠ b8; omega)).trans h.p, (Below.heap_setCell _ _ _ _ (by show _ ≠ b8; omega)).trans h.z, h.r.s1 z, (Below.heap_setCell _ _ _ _ (by show _ ≠ b8; omega)).trans h.f, h.far⟩
theorem LkW.good (h : LkW w p b8 s d f w') (F : Nat → Int) : LkW w p b8 s d F (w'.setRow (b8 + 1) (bl F).toArray) :=
  have hf := h.far
  ⟨below_only h.be (by omega) (grown_row _), (setRow_other _ _ _ _ (by omega)).trans h.p, (setRow_other _ _ _ _ (by omega)).trans h.z, (setRow_other _ _ _ _ (by omega)).trans h.r, setRow_heap _ _ _ _ _ _ h.f, h.far⟩
end
theorem box_lk (w : World) (p : Pt.Pn) : ∃ W, W = (w.alloc (.cells (Pt.pV p).toArray 31)).alloc (.cells #[.int .i64 0, .int .i64 0, .int .i64 0, .slice none 0 0] 47) ∧ Below w.heap.size w W ∧ W.heap.size = w.heap.size + 2 ∧
    W.heap[w.heap.size]? = some (.cells (Pt.pV p).toArray 31 (0, 0)) ∧ Rb W (w.heap.size + 1) 0 0 0 := by
  refine ⟨_, rfl, ((Below.refl _ _).alloc (Nat.le_refl _) _).alloc (by simp) _, by simp, (Below.heap_alloc _ _ _ (by simp)).trans (heap_alloc_new w _), ?_⟩
  have := heap_alloc_new (w.alloc (.cells (Pt.pV p).toArray 31)) (.cells #[.int .i64 0, .int .i64 0, .int .i64 0, .slice none 0 0] 47)
  rwa [World.size_alloc] at this
theorem box_lk2 (w : World) : ∃ W, W = (w.alloc (.cells #[.int .i64 0, .int .i64 0, .int .i64 0, .slice none 0 0] 47)).alloc (.cells (bl fun _ => 0).toArray 36) ∧ Below w.heap.size w W ∧ W.heap.size = w.heap.size + 2 ∧
    Rb W w.heap.size 0 0 0 ∧ W.heap[w.heap.size + 1]? = some (.cells (bl fun _ => 0).toArray 36 (0, 0)) := by
  refine ⟨_, rfl, ((Below.refl _ _).alloc (Nat.le_refl _) _).alloc (by simp) _, by simp, (Below.heap_alloc _ _ _ (by simp)).trans (heap_alloc_new w _), ?_⟩
  have := heap_alloc_new (w.alloc (.cells #[.int .i64 0, .int .i64 0, .int .i64 0, .slice none 0 0] 47)) (.cells (bl fun _ => 0).toArray 36)
  rwa [World.size_alloc] at this

section
variable {n : Nat} {X : Dst} {M : Tab} {p : Pt.Pn}
theorem l_no (h : homB n X M p = false) : lRes n X M p = ⟨0, 0, 0, 1, X, M⟩ := by unfold lRes; rw [if_pos h]
theorem l_down (h : homB n X M p = true) (hA : p.A ≠ -1) (hd : X.d = true) : lRes n X M p = ⟨0, 0, 0, 3, X, M⟩ := by unfold lRes; rw [if_neg (by rw [h]; decide), if_neg hA, if_pos hd]
theorem l_hole (h : homB n X M p = true) (hA : p.A = -1) : lRes n X M p = ⟨0, 0, 0, 0, X, M⟩ := by unfold lRes; rw [if_neg (by rw [h]; decide), if_pos hA]
theorem l_up (h : homB n X M p = true) (hA : p.A ≠ -1) (hd : X.d = false) : lRes n X M p = (if p.B = -1 then if gdB n X M p p.A then ⟨1, 0, 0, 0, X, M⟩ else ⟨1, 1, 0, 2, X, M⟩
  else if gdB n X M p p.A then if gdB n X M p p.B then ⟨2, 0, 0, 0, X, M⟩ else lHeal (wRes n X M p.B (tV n X M p.A))
  else if gdB n X M p p.B then lHeal (wRes n X M p.A (tV n X M p.B)) else ⟨2, 2, 0, 2, X, M⟩) := by unfold lRes; rw [if_neg (by rw [h]; decide), if_neg hA, if_neg (by rw [hd]; decide)]
end

def LkI (x2 x3 x4 x6 x7 x8 x9 x10 x11 x15 x16 x17 x18 x19 x20 x21 x22 x23 x24 x25 x26 x27 x28 x29 x30 x31 x32 x33 x44 x45 x46 x47 x48 x49 x50 x51 x52 x53 x54 x55 x56 x57 x58 x59 x60 x61 x62 x63 x64 x65 x66 x67 x68 x69 x70 x71 x72 x73 x74 x75 x76 x77 x78 x79 x80 x81 x82 : Value) (W0 : World) (g b bp : Nat) (p : Pt.Pn) (x gen : Int) (pa : Option Addr) (k cap : Nat) (V : Nat → Int) (E : Int) (L : Nat → Bool) (a' : Act) (w' : World) : Prop :=
  ∃ u0 u1 u2 u3 u4 u5 u6 u7 u8 u9 u10 u12, a' = { tmps := #[.pointer (some ⟨g, 0, none⟩), .pointer (some ⟨b, 0, none⟩), x2, x3, x4, .pointer (some ⟨bp, 0, none⟩), x6, x7, x8, x9, x10, x11, .int .i64 x, u10, u12, x15, x16, x17, x18, x19, x20, x21, x22, x23, x24, x25, x26, x27, x28, x29, x30, x31, x32, x33, u7, u0, u1, u2, u3, u4, u5, u6, u8, u9, x44, x45, x46, x47, x48, x49, x50, x51, x52, x53, x54, x55, x56, x57, x58, x59, x60, x61, x62, x63, x64, x65, x66, x67, x68, x69, x70, x71, x72, x73, x74, x75, x76, x77, x78, x79, x80, x81, x82], defers := [] } ∧ (L 0 = true → u0 = .pointer (some ⟨g, 0, none⟩)) ∧ (L 1 = true → u1 = .pointer (some ⟨b, 0, none⟩)) ∧ (L 2 = true → u2 = .pointer (some ⟨b, 0, none⟩)) ∧ (L 3 = true → u3 = .agg #[.int .i64 gen, .slice pa k cap]) ∧ (L 4 = true → u4 = .agg (Pt.pV p).toArray) ∧ (L 5 = true → u5 = .int .i64 x) ∧ (L 6 = true → u6 = .tuple #[.agg (bl V).toArray, .int .i64 E]) ∧ (L 7 = true → u7 = .tuple #[.agg (bl V).toArray, .int .i64 E]) ∧ (L 8 = true → u8 = .agg (bl V).toArray) ∧ (L 9 = true → u9 = .int .i64 E) ∧ (L 12 = true → u12 = .int .i64 E) ∧ BlW W0 V (L 10) (L 11) u10 w'
theorem LkI_kl {L : Nat → Bool} {i k : Nat} {Q : Prop} (h : L k = true → Q) (h1 : (k == i) = false) : (k == i || L k) = true → Q := by
  rw [h1, Bool.false_or]
  exact h

set_option maxRecDepth 100000 in
set_option maxHeartbeats 16000000 in
theorem look_d {w : World} {g b n : Nat} {X : Dst} (h : HasD w g n X) (hkp : Rm.Kp w) (hok : Ok 23 X) (gen : Int) (k : Nat) (F T : Nat → Int) (hT : HasT w b g ⟨gen, k, F, T⟩) (hm : TabOk ⟨gen, k, F, T⟩) (hgb : g ≠ b) (p : Pt.Pn) (hyA : byt (tV n X ⟨gen, k, F, T⟩ p.A)) (hyB : byt (tV n X ⟨gen, k, F, T⟩ p.B)) :
    Calls Tryz.prog 13 #[.pointer (some ⟨g, 0, none⟩), .pointer (some ⟨b, 0, none⟩), .agg (Pt.pV p).toArray] w (Saws w g b n (lRes n X ⟨gen, k, F, T⟩ p)) := by
  unfold Saws
  have hgl := h.lt
  obtain ⟨pa, cap, hb, hl⟩ := id hT
  have hbl := (Array.getElem?_eq_some_iff.1 hb).1
  dsimp only at hb hl
  have HD := Lib.hid (fun w' (hw : Below w.heap.size w w') => h.below hw)
  have HTT := Lib.hid (fun w' (hw : Below w.heap.size w w') => hasT_below hT hw)
  have HTB := Lib.hid (fun w' (hw : Below w.heap.size w w') => tab_cells ((hw.block b hbl).trans hb))
  have HHM := Lib.hid (fun w' (hw : Below w.heap.size w w') => home_d (h.below hw) gen k F T (hasT_below hT hw) hm p)
  have HRA := Lib.hid (fun w' (hw : Below w.heap.size w w') => cread_d (h.below hw) (hkp.below hw) gen k F T pa cap g p p.A ((hl.below hw).more hw.size) hm.1 hm.2 hyA)
  have HRB := Lib.hid (fun w' (hw : Below w.heap.size w w') => cread_d (h.below hw) (hkp.below hw) gen k F T pa cap g p p.B ((hl.below hw).more hw.size) hm.1 hm.2 hyB)
  have HHL := Lib.hid (fun w' (hw : Below w.heap.size w w') x V => heal_d (h.below hw) (hkp.below hw) hok gen k F T (hasT_below hT hw) hm hgb x V)
  have HHO := Lib.hid (@hom_parts n X ⟨gen, k, F, T⟩ p)
  have HCA := Lib.hid (fun hf hr hl => c_cases (n := n) (X := X) (M := ⟨gen, k, F, T⟩) (p := p) (x := p.A) hf hr hl)
  have HCB := Lib.hid (fun hf hr hl => c_cases (n := n) (X := X) (M := ⟨gen, k, F, T⟩) (p := p) (x := p.B) hf hr hl)
  have G1 := Lib.hid (@l_no n X ⟨gen, k, F, T⟩ p)
  have G3 := Lib.hid (@l_down n X ⟨gen, k, F, T⟩ p)
  have GH := Lib.hid (@l_hole n X ⟨gen, k, F, T⟩ p)
  have G4 := Lib.hid (@l_up n X ⟨gen, k, F, T⟩ p)
  have HWR := Lib.hid (fun x V hr => w_right (n := n) (X := X) (M := ⟨gen, k, F, T⟩) (x := x) (V := V) hr)
  clear h hkp hok hT hm hl hyA hyB hb
  generalize lRes n X ⟨gen, k, F, T⟩ p = R at G1 GH G3 G4 ⊢
  generalize homB n X ⟨gen, k, F, T⟩ p = hm at HHM HHO G1 GH G3 G4
  obtain ⟨W, hW, hB0, hs0, hp0, hz0⟩ := box_lk w p
  have q0 := Pt.row_pt hp0
  go_enter Tryz.func13, Tryz.ntmps13
  rw [hW] at q0
  go_wp2_with (refine @wpList_loadG _ _ _ _ _ _ _ (by kernel_rfl) 31 (.tmp 5) rfl w.heap.size 0 rfl (Pt.pV p) _ q0 Pt.undP rfl (Pt.sizeP p) ?_; simp only [Act.put, List.setIfInBounds_toArray, List.set_cons_succ, List.set_cons_zero])
  rw [← hW]
  clear hW q0
  refine (HHM.out W hB0).mono ?_
  rintro _ w1 ⟨rfl, hb1⟩
  have hB1 := hB0.trans (hb1.mono hB0.size)
  have hp1 := (hb1.block w.heap.size (by omega)).trans hp0
  have hz1 : Rb w1 (w.heap.size + 1) 0 0 0 := (hb1.block (w.heap.size + 1) (by omega)).trans hz0
  have hs1 := hb1.size
  clear hb1 HHM hp0 hz0 hB0
  dsimp only
  cases hm with
  | false =>
    have hR := Lib.hid (G1.out rfl)
    have hz := hz1
    unfold Rb at hz
    clear HHO G1 G3 G4 GH
    go_wp2_with (first
      | (refine wpList_buildTo rfl 47 #[] rfl _ rfl #[.int .i64 0, .int .i64 0, .int .i64 0, .slice none 0 0] builtR ?_; simp only [Act.put, List.setIfInBounds_toArray, List.set_cons_succ, List.set_cons_zero])
      | (refine @wpList_store_row _ _ _ _ _ _ _ rfl 47 (.tmp 6) (.tmp 22) rfl (w.heap.size + 1) #[.int .i64 0, .int .i64 0, .int .i64 0, .slice none 0 0] rfl rfl 47 _ hz (by kernel_rfl) rfl (rb_one _ _ _) ?_; simp only [Act.put]))
    refine bodyPost_ret (results_lk rfl rfl rfl (setRow_heap _ _ _ _ _ _ hz)) rfl ?_
    have hB := below_only hB1 (Nat.le_succ _) (grown_row (B := w.heap.size + 1) #[.int .i64 0, .int .i64 0, .int .i64 0, .slice none 0 0])
    exact ⟨by rw [hR.out]; try rfl, two_of_below hB, by rw [hR.out]; exact HD.out _ hB, by rw [hR.out]; exact HTT.out _ hB⟩
  | true =>
    obtain ⟨hfo, hri, hpr, hoA, hoB⟩ := HHO.out rfl
    have HRI := Lib.hid hri
    replace HCA := Lib.hid (HCA.out hfo hri)
    replace HCB := Lib.hid (HCB.out hfo hri)
    have HOA := Lib.hid hoA
    have HOB := Lib.hid hoB
    replace GH := Lib.hid (GH.out rfl)
    replace G3 := Lib.hid (G3.out rfl)
    replace G4 := Lib.hid (G4.out rfl)
    have HHP := Lib.hid hpr
    obtain ⟨W2, hW2, hb2, hs2, hr2, hf2⟩ := box_lk2 w1
    have HG2 : Hid (LkW w p w1.heap.size 0 0 (fun _ => 0) W2) := Lib.hid ⟨hB1.trans (hb2.mono hB1.size), (hb2.block w.heap.size (by omega)).trans hp1, (hb2.block (w.heap.size + 1) (by omega)).trans hz1, hr2, hf2, by omega⟩
    have q1 := Pt.row_pt HG2.out.p
    rw [hW2] at q1
    clear HHO G1 hfo hri hpr hoA hoB hb2 hs2 hr2 hf2 hp1 hz1 hB1
    go_wp2_with (refine @wpList_loadG _ _ _ _ _ _ _ (by kernel_rfl) 31 (.tmp 5) rfl w.heap.size 0 rfl (Pt.pV p) _ q1 Pt.undP rfl (Pt.sizeP p) ?_; simp only [Act.put, List.setIfInBounds_toArray, List.set_cons_succ, List.set_cons_zero])
    rw [← hW2]
    clear hW2 q1
    generalize w1.heap.size = b8 at HG2 hs1 ⊢
    refine (sectors_any p W2).mono ?_
    rintro _ w3 ⟨rfl, hb3⟩
    have HG3 := Lib.hid (HG2.out.below hb3)
    clear hb3 HG2
    dsimp only
    generalize cE n X ⟨gen, k, F, T⟩ p p.A = EA at HRA HCA
    generalize hVA : cV n X ⟨gen, k, F, T⟩ p p.A = VA at HRA HCA
    generalize cE n X ⟨gen, k, F, T⟩ p p.B = EB at HRB HCB
    generalize hVB : cV n X ⟨gen, k, F, T⟩ p p.B = VB at HRB HCB
    generalize tV n X ⟨gen, k, F, T⟩ p.A = TA at HCA G4
    generalize tV n X ⟨gen, k, F, T⟩ p.B = TB at HCB G4
    clear hVA hVB
    generalize gdB n X ⟨gen, k, F, T⟩ p p.A = ga at HCA G4
    generalize gdB n X ⟨gen, k, F, T⟩ p p.B = gb at HCB G4
    have hAB : p.A = -1 → p.B = -1 := fun hA => by
      cases hh : Pt.isHole p with
      | true => exact (Pt.eqP_iff.1 hh).2.1
      | false => exact absurd hA (p_sides HHP.out hh).1
    have HAB := Lib.hid hAB
    clear hAB HHP
    go_wp2_with fail
    go_loopw [10, 25] (fun bd i wr => ∃ c : Nat, ∃ s d x : Int, ∃ f : Nat → Int, c ≤ 2 ∧ i = .int .i64 c ∧ bd = .int .i64 x ∧ Hid (LkW w p b8 s d f wr ∧ (c = 0 → s = 0 ∧ d = 0 ∧ x = -1) ∧ (c = 1 → (p.A = -1 ∧ s = 0 ∧ d = 0 ∧ x = -1) ∨ (p.A ≠ -1 ∧ X.d = false ∧ s = 1 ∧ ((ga = true ∧ d = 0 ∧ x = -1 ∧ f = TA) ∨ (ga = false ∧ d = 1 ∧ x = p.A)))) ∧ (c = 2 → 0 ≤ s ∧ s ≤ 2 ∧ 0 ≤ d ∧ d ≤ 2 ∧ ((d = 0 ∧ R = ⟨s, 0, 0, 0, X, ⟨gen, k, F, T⟩⟩) ∨ (d ≠ 0 ∧ d = s ∧ R = ⟨s, d, 0, 2, X, ⟨gen, k, F, T⟩⟩) ∨ (s = 2 ∧ d = 1 ∧ R = lHeal (wRes n X ⟨gen, k, F, T⟩ x f)))))) (fun _ i _ => 2 - (intOf i).toNat)
    case atStart => exact ⟨0, 0, 0, -1, _, by omega, rfl, rfl, Lib.hid ⟨HG3.out, fun _ => ⟨rfl, rfl, rfl⟩, fun h => by omega, fun h => by omega⟩⟩
    case round =>
      obtain ⟨c, s, d, x, f, hc, rfl, rfl, hR⟩ := hrel
      clear HG3
      match c, hc with
      | 0, _ =>
        have hix := run_index2A p.A p.B
        obtain ⟨rfl, rfl, rfl⟩ := hR.out.2.1 rfl
        have HG := Lib.hid hR.out.1
        clear hR
        by_cases eA : p.A = -1
        · have e' : (p.A == -1) = true := by simpa using eA
          have HEA := Lib.hid eA
          clear eA
          go_wp2_with fail
          go_roundw
          case rel => exact ⟨1, 0, 0, -1, f, by omega, rfl, rfl, Lib.hid ⟨HG.out, fun h => by omega, fun _ => .inl ⟨HEA.out, rfl, rfl, rfl⟩, fun h => by omega⟩⟩
          case measure => simp [intOf]
        · have e' : (p.A == -1) = false := by simpa using eA
          have HEA := Lib.hid eA
          replace HCA := Lib.hid (HCA.out (HOA.out.resolve_left eA))
          replace G3 := Lib.hid (G3.out eA)
          obtain ⟨r0, r1, r2, r3, y0, y1, y2⟩ := HG.out.r.cs
          obtain ⟨wA, hwA, hGA⟩ : ∃ wA, wA = wr.setCell ⟨b8, 0, none⟩ (.int .i64 1) ∧ LkW w p b8 1 0 f wA := ⟨_, rfl, HG.out.seen 1⟩
          have HGA := Lib.hid hGA
          have hAA : ∀ {w'}, Below wA.heap.size wA w' → Below w.heap.size w w' := fun hw => hGA.be.trans (hw.mono hGA.be.size)
          have HPA := Lib.hid (fun w' (hw : Below wA.heap.size wA w') => (hw.block w.heap.size (Array.getElem?_eq_some_iff.1 hGA.p).1).trans hGA.p)
          have HGI : Hid (∀ u, BlW wA VA false false u { wA with drawn := wA.drawn + 1 }) := Lib.hid fun _ => ⟨⟨rfl, rfl, rfl, Nat.le_refl _, fun _ _ => rfl⟩, (fun h => by cases h), (fun h => by cases h)⟩
          have HCR := HRA
          clear eA HG hGA
          go_wp2_with fail
          rw [← hwA]
          clear hwA
          refine QuietTail2.regionInv (n := 13) (Inv := LkI _ _ _ _ _ _ _ _ _ _ _ _ _ _ _ _ _ _ _ _ _ _ _ _ _ _ _ _ _ _ _ _ _ _ _ _ _ _ _ _ _ _ _ _ _ _ _ _ _ _ _ _ _ _ _ _ _ _ _ _ _ _ _ _ _ _ _ wA g b w.heap.size p p.A gen pa k cap VA EA) (by kernel_rfl) (by decide) (by kernel_rfl) ⟨_, _, _, _, _, _, _, _, _, _, _, _, rfl, by simp, by simp, by simp, by simp, by simp, by simp, by simp, by simp, by simp, by simp, by simp, HGI.out _⟩ ?stepR ?finR
          case stepR =>
            rintro i o hi ho L a' w' ⟨u0, u1, u2, u3, u4, u5, u6, u7, u8, u9, u10, u12, rfl, i0, i1, i2, i3, i4, i5, i6, i7, i8, i9, i12, iW⟩ hL hpre
            match i, hi with
            | 0, _ =>
              simp at ho
              subst ho
              go_simp
              exact ⟨_, u1, u2, u3, u4, u5, u6, u7, u8, u9, u10, u12, rfl, fun _ => rfl, LkI_kl i1 rfl, LkI_kl i2 rfl, LkI_kl i3 rfl, LkI_kl i4 rfl, LkI_kl i5 rfl, LkI_kl i6 rfl, LkI_kl i7 rfl, LkI_kl i8 rfl, LkI_kl i9 rfl, LkI_kl i12 rfl, iW⟩
            | 1, _ =>
              simp at ho
              subst ho
              go_simp
              exact ⟨u0, _, u2, u3, u4, u5, u6, u7, u8, u9, u10, u12, rfl, LkI_kl i0 rfl, fun _ => rfl, LkI_kl i2 rfl, LkI_kl i3 rfl, LkI_kl i4 rfl, LkI_kl i5 rfl, LkI_kl i6 rfl, LkI_kl i7 rfl, LkI_kl i8 rfl, LkI_kl i9 rfl, LkI_kl i12 rfl, iW⟩
            | 2, _ =>
              simp at ho
              subst ho
              obtain rfl := i1 (hpre 1 (by kernel_rfl))
              go_simp
              exact ⟨u0, _, _, u3, u4, u5, u6, u7, u8, u9, u10, u12, rfl, LkI_kl i0 rfl, LkI_kl i1 rfl, fun _ => rfl, LkI_kl i3 rfl, LkI_kl i4 rfl, LkI_kl i5 rfl, LkI_kl i6 rfl, LkI_kl i7 rfl, LkI_kl i8 rfl, LkI_kl i9 rfl, LkI_kl i12 rfl, iW⟩
            | 3, _ =>
              simp at ho
              subst ho
              obtain rfl := i2 (hpre 2 (by kernel_rfl))
              obtain ⟨k0, k1⟩ := HTB.out w' (hAA iW.be)
              go_simp
              exact ⟨u0, u1, _, _, u4, u5, u6, u7, u8, u9, u10, u12, rfl, LkI_kl i0 rfl, LkI_kl i1 rfl, LkI_kl i2 rfl, fun _ => rfl, LkI_kl i4 rfl, LkI_kl i5 rfl, LkI_kl i6 rfl, LkI_kl i7 rfl, LkI_kl i8 rfl, LkI_kl i9 rfl, LkI_kl i12 rfl, iW⟩
            | 4, _ =>
              simp at ho
              subst ho
              refine wp_load_mid 31 (.tmp 5) rfl w.heap.size 0 rfl (Pt.pV p) _ (Pt.row_pt (HPA.out w' iW.be)) Pt.undP rfl (Pt.sizeP p) ?_
              simp only [Act.put, List.setIfInBounds_toArray, List.set_cons_succ, List.set_cons_zero]
              exact ⟨u0, u1, u2, u3, _, u5, u6, u7, u8, u9, u10, u12, rfl, LkI_kl i0 rfl, LkI_kl i1 rfl, LkI_kl i2 rfl, LkI_kl i3 rfl, fun _ => rfl, LkI_kl i5 rfl, LkI_kl i6 rfl, LkI_kl i7 rfl, LkI_kl i8 rfl, LkI_kl i9 rfl, LkI_kl i12 rfl, iW⟩
            | 5, _ =>
              simp at ho
              subst ho
              go_simp
              exact ⟨u0, u1, u2, u3, u4, _, u6, u7, u8, u9, u10, u12, rfl, LkI_kl i0 rfl, LkI_kl i1 rfl, LkI_kl i2 rfl, LkI_kl i3 rfl, LkI_kl i4 rfl, fun _ => rfl, LkI_kl i6 rfl, LkI_kl i7 rfl, LkI_kl i8 rfl, LkI_kl i9 rfl, LkI_kl i12 rfl, iW⟩
            | 6, _ =>
              simp at ho
              subst ho
              obtain rfl := i0 (hpre 0 (by kernel_rfl))
              obtain rfl := i3 (hpre 3 (by kernel_rfl))
              obtain rfl := i4 (hpre 4 (by kernel_rfl))
              obtain rfl := i5 (hpre 5 (by kernel_rfl))
              go_simp
              refine (HCR.out w' (hAA iW.be)).mono ?_
              rintro _ w'' ⟨rfl, hb⟩
              exact ⟨_, u1, u2, _, _, _, _, u7, u8, u9, u10, u12, rfl, LkI_kl i0 rfl, LkI_kl i1 rfl, LkI_kl i2 rfl, LkI_kl i3 rfl, LkI_kl i4 rfl, LkI_kl i5 rfl, fun _ => rfl, LkI_kl i7 rfl, LkI_kl i8 rfl, LkI_kl i9 rfl, LkI_kl i12 rfl, iW.call hb⟩
            | 7, _ =>
              simp at ho
              subst ho
              obtain rfl := i6 (hpre 6 (by kernel_rfl))
              go_simp
              exact ⟨u0, u1, u2, u3, u4, u5, _, _, u8, u9, u10, u12, rfl, LkI_kl i0 rfl, LkI_kl i1 rfl, LkI_kl i2 rfl, LkI_kl i3 rfl, LkI_kl i4 rfl, LkI_kl i5 rfl, LkI_kl i6 rfl, fun _ => rfl, LkI_kl i8 rfl, LkI_kl i9 rfl, LkI_kl i12 rfl, iW⟩
            | 8, _ =>
              simp at ho
              subst ho
              obtain rfl := i7 (hpre 7 (by kernel_rfl))
              go_simp
              exact ⟨u0, u1, u2, u3, u4, u5, u6, _, _, u9, u10, u12, rfl, LkI_kl i0 rfl, LkI_kl i1 rfl, LkI_kl i2 rfl, LkI_kl i3 rfl, LkI_kl i4 rfl, LkI_kl i5 rfl, LkI_kl i6 rfl, LkI_kl i7 rfl, fun _ => rfl, LkI_kl i9 rfl, LkI_kl i12 rfl, iW⟩
            | 9, _ =>
              simp at ho
              subst ho
              obtain rfl := i7 (hpre 7 (by kernel_rfl))
              go_simp
              exact ⟨u0, u1, u2, u3, u4, u5, u6, _, u8, _, u10, u12, rfl, LkI_kl i0 rfl, LkI_kl i1 rfl, LkI_kl i2 rfl, LkI_kl i3 rfl, LkI_kl i4 rfl, LkI_kl i5 rfl, LkI_kl i6 rfl, LkI_kl i7 rfl, LkI_kl i8 rfl, fun _ => rfl, LkI_kl i12 rfl, iW⟩
            | 10, _ =>
              simp at ho
              subst ho
              go_simp
              exact ⟨u0, u1, u2, u3, u4, u5, u6, u7, u8, u9, _, u12, rfl, LkI_kl i0 rfl, LkI_kl i1 rfl, LkI_kl i2 rfl, LkI_kl i3 rfl, LkI_kl i4 rfl, LkI_kl i5 rfl, LkI_kl i6 rfl, LkI_kl i7 rfl, LkI_kl i8 rfl, LkI_kl i9 rfl, LkI_kl i12 rfl, iW.alloc hL⟩
            | 11, _ =>
              simp at ho
              subst ho
              obtain rfl := i8 (hpre 8 (by kernel_rfl))
              obtain ⟨bk, e10, _, hbk⟩ := iW.al (hpre 10 (by kernel_rfl))
              rw [hL] at hbk
              subst e10
              refine wp_store_row 36 (.tmp 13) (.tmp 42) rfl bk (bl VA).toArray rfl rfl 36 _ hbk (size_bl' _) rfl (bl_all _) ?_
              exact ⟨u0, u1, u2, u3, u4, u5, u6, u7, _, u9, _, u12, rfl, LkI_kl i0 rfl, LkI_kl i1 rfl, LkI_kl i2 rfl, LkI_kl i3 rfl, LkI_kl i4 rfl, LkI_kl i5 rfl, LkI_kl i6 rfl, LkI_kl i7 rfl, LkI_kl i8 rfl, LkI_kl i9 rfl, LkI_kl i12 rfl, iW.put hL (hpre 10 (by kernel_rfl)) hbk⟩
            | 12, _ =>
              simp at ho
              subst ho
              obtain rfl := i9 (hpre 9 (by kernel_rfl))
              go_simp
              exact ⟨u0, u1, u2, u3, u4, u5, u6, u7, u8, _, u10, _, rfl, LkI_kl i0 rfl, LkI_kl i1 rfl, LkI_kl i2 rfl, LkI_kl i3 rfl, LkI_kl i4 rfl, LkI_kl i5 rfl, LkI_kl i6 rfl, LkI_kl i7 rfl, LkI_kl i8 rfl, LkI_kl i9 rfl, fun _ => rfl, iW⟩
            | i + 13, h => omega
          rintro L a' w5 hall ⟨u0, u1, u2, u3, u4, u5, u6, u7, u8, u9, u10, u12, rfl, i0, i1, i2, i3, i4, i5, i6, i7, i8, i9, i12, iW⟩
          obtain rfl := i0 (hall 0 (by omega))
          obtain rfl := i1 (hall 1 (by omega))
          obtain rfl := i2 (hall 2 (by omega))
          obtain rfl := i3 (hall 3 (by omega))
          obtain rfl := i4 (hall 4 (by omega))
          obtain rfl := i5 (hall 5 (by omega))
          obtain rfl := i6 (hall 6 (by omega))
          obtain rfl := i7 (hall 7 (by omega))
          obtain rfl := i8 (hall 8 (by omega))
          obtain rfl := i9 (hall 9 (by omega))
          obtain rfl := i12 (hall 12 (by omega))
          obtain ⟨bk, eu, hbk0, hbk⟩ := iW.al (hall 10 (by omega))
          rw [hall 11 (by omega), if_pos rfl] at hbk
          have hb5 := iW.be
          clear iW
          subst eu
          clear i0 i1 i2 i3 i4 i5 i6 i7 i8 i9 i12 hall
          simp only [List.drop_succ_cons, List.drop_zero]
          refine wpList_nil ?_
          have HG5 := Lib.hid (HGA.out.below hb5)
          have r5 := row_all hbk
          clear HGI HCR HRA HRB HCB HTB hix HPA hbk0 hb5 hAA HGA
          rcases HCA.out with ⟨hd, e3⟩ | ⟨hd, hga, e0, ev⟩ | ⟨hd, hga, e2⟩
          · have hRR := Lib.hid (G3.out hd)
            have hz := HG5.out.z
            unfold Rb at hz
            clear hd
            subst e3
            go_wp2_with (first
              | (refine wpList_buildTo rfl 47 #[] rfl _ rfl #[.int .i64 0, .int .i64 0, .int .i64 0, .slice none 0 0] builtR ?_; simp only [Act.put, List.setIfInBounds_toArray, List.set_cons_succ, List.set_cons_zero])
              | (refine @wpList_store_row _ _ _ _ _ _ _ rfl 47 (.tmp 6) (.tmp 45) rfl (w.heap.size + 1) #[.int .i64 0, .int .i64 0, .int .i64 0, .slice none 0 0] rfl rfl 47 _ hz (by kernel_rfl) rfl (rb_one _ _ _) ?_; simp only [Act.put]))
            refine bodyPost_ret (results_lk rfl rfl rfl (setRow_heap _ _ _ _ _ _ hz)) rfl ?_
            have hB := below_only HG5.out.be (Nat.le_succ _) (grown_row (B := w.heap.size + 1) #[.int .i64 0, .int .i64 0, .int .i64 0, .slice none 0 0])
            exact ⟨by rw [hRR.out]; try rfl, two_of_below hB, by rw [hRR.out]; exact HD.out _ hB, by rw [hRR.out]; exact HTT.out _ hB⟩
          · have hf := HG5.out.f
            have HDx := Lib.hid hd
            have HGx := Lib.hid hga
            have HEV := Lib.hid ev
            clear hd hga ev
            subst e0
            go_wp2_with (first
              | (refine @wpList_loadG _ _ _ _ _ _ _ (by kernel_rfl) 36 (.tmp 13) rfl bk 0 rfl (bl VA) _ r5 undB rfl (size_bl VA) ?_; simp only [Act.put, List.setIfInBounds_toArray, List.set_cons_succ, List.set_cons_zero])
              | (refine wpList_store_row rfl 36 (.tmp 9) (.tmp 49) rfl (b8 + 1) (bl VA).toArray rfl rfl 36 _ hf (size_bl' _) rfl (bl_all _) ?_; simp only [Act.put]))
            go_roundw
            case rel => exact ⟨1, 1, 0, -1, VA, by omega, rfl, rfl, Lib.hid ⟨HG5.out.good VA, fun h => by omega, fun _ => .inr ⟨HEA.out, HDx.out, rfl, .inl ⟨HGx.out, rfl, rfl, HEV.out⟩⟩, fun h => by omega⟩⟩
            case measure => simp [intOf]
          · obtain ⟨r0, r1, r2, r3, y0, y1, y2⟩ := HG5.out.r.cs
            have HDx := Lib.hid hd
            have HGx := Lib.hid hga
            clear hd hga
            subst e2
            go_wp2_with fail
            go_roundw
            case rel => exact ⟨1, 1, 1, p.A, f, by omega, rfl, rfl, Lib.hid ⟨HG5.out.bad 1, fun h => by omega, fun _ => .inr ⟨HEA.out, HDx.out, rfl, .inr ⟨HGx.out, rfl, rfl⟩⟩, fun h => by omega⟩⟩
            case measure => simp [intOf]
      | 1, _ =>
        have hix := run_index2B p.A p.B
        have HG := Lib.hid hR.out.1
        have hcase := hR.out.2.2.1 rfl
        have HN2 := Lib.hid (fun w' s d x f (hw : LkW w p b8 s d f w') (hF : (0 ≤ s ∧ s ≤ 2 ∧ 0 ≤ d ∧ d ≤ 2 ∧ ((d = 0 ∧ R = ⟨s, 0, 0, 0, X, ⟨gen, k, F, T⟩⟩) ∨ (d ≠ 0 ∧ d = s ∧ R = ⟨s, d, 0, 2, X, ⟨gen, k, F, T⟩⟩) ∨ (s = 2 ∧ d = 1 ∧ R = lHeal (wRes n X ⟨gen, k, F, T⟩ x f))))) => (⟨2, s, d, x, f, by omega, rfl, rfl, Lib.hid ⟨hw, fun h => by omega, fun h => by omega, fun _ => hF⟩⟩ : ∃ c : Nat, ∃ s' d' x' : Int, ∃ f' : Nat → Int, c ≤ 2 ∧ Value.int .i64 2 = .int .i64 c ∧ Value.int .i64 x = .int .i64 x' ∧ Hid (LkW w p b8 s' d' f' w' ∧ (c = 0 → s' = 0 ∧ d' = 0 ∧ x' = -1) ∧ (c = 1 → (p.A = -1 ∧ s' = 0 ∧ d' = 0 ∧ x' = -1) ∨ (p.A ≠ -1 ∧ X.d = false ∧ s' = 1 ∧ ((ga = true ∧ d' = 0 ∧ x' = -1 ∧ f' = TA) ∨ (ga = false ∧ d' = 1 ∧ x' = p.A)))) ∧ (c = 2 → 0 ≤ s' ∧ s' ≤ 2 ∧ 0 ≤ d' ∧ d' ≤ 2 ∧ ((d' = 0 ∧ R = ⟨s', 0, 0, 0, X, ⟨gen, k, F, T⟩⟩) ∨ (d' ≠ 0 ∧ d' = s' ∧ R = ⟨s', d', 0, 2, X, ⟨gen, k, F, T⟩⟩) ∨ (s' = 2 ∧ d' = 1 ∧ R = lHeal (wRes n X ⟨gen, k, F, T⟩ x' f')))))))
        clear hR
        rcases hcase with ⟨eA, rfl, rfl, rfl⟩ | ⟨eA, hd, rfl, hcase⟩
        · have eB := HAB.out eA
          have e' : (p.B == -1) = true := by simpa using eB
          have hRR := GH.out eA
          have hN := Lib.hid (HN2.out wr 0 0 (-1) f HG.out ⟨by omega, by omega, by omega, by omega, .inl ⟨rfl, hRR⟩⟩)
          clear eA eB hRR
          go_wp2_with fail
          go_roundw
          case rel => exact hN.out
          case measure => simp [intOf]
        · have hR4 := G4.out eA hd
          have HDF := Lib.hid hd
          have HCASE := Lib.hid hcase
          clear eA hd hcase
          by_cases eB : p.B = -1
          · have e' : (p.B == -1) = true := by simpa using eB
            rw [if_pos eB] at hR4
            have hN : Hid (∃ c : Nat, ∃ s' d' x' : Int, ∃ f' : Nat → Int, c ≤ 2 ∧ Value.int .i64 2 = .int .i64 c ∧ Value.int .i64 x = .int .i64 x' ∧ Hid (LkW w p b8 s' d' f' wr ∧ (c = 0 → s' = 0 ∧ d' = 0 ∧ x' = -1) ∧ (c = 1 → (p.A = -1 ∧ s' = 0 ∧ d' = 0 ∧ x' = -1) ∨ (p.A ≠ -1 ∧ X.d = false ∧ s' = 1 ∧ ((ga = true ∧ d' = 0 ∧ x' = -1 ∧ f' = TA) ∨ (ga = false ∧ d' = 1 ∧ x' = p.A)))) ∧ (c = 2 → 0 ≤ s' ∧ s' ≤ 2 ∧ 0 ≤ d' ∧ d' ≤ 2 ∧ ((d' = 0 ∧ R = ⟨s', 0, 0, 0, X, ⟨gen, k, F, T⟩⟩) ∨ (d' ≠ 0 ∧ d' = s' ∧ R = ⟨s', d', 0, 2, X, ⟨gen, k, F, T⟩⟩) ∨ (s' = 2 ∧ d' = 1 ∧ R = lHeal (wRes n X ⟨gen, k, F, T⟩ x' f')))))) := Lib.hid (by
              rcases HCASE.out with ⟨hga, rfl, rfl, _⟩ | ⟨hga, rfl, rfl⟩
              · exact HN2.out wr 1 0 (-1) f HG.out ⟨by omega, by omega, by omega, by omega, .inl ⟨rfl, by rw [hR4, hga]; rfl⟩⟩
              · exact HN2.out wr 1 1 p.A f HG.out ⟨by omega, by omega, by omega, by omega, .inr (.inl ⟨by omega, rfl, by rw [hR4, hga]; rfl⟩)⟩)
            clear eB hR4
            go_wp2_with fail
            go_roundw
            case rel => exact hN.out
            case measure => simp [intOf]
          · have e' : (p.B == -1) = false := by simpa using eB
            rw [if_neg eB] at hR4
            have HR4 := Lib.hid hR4
            replace HCB := Lib.hid (HCB.out (HOB.out.resolve_left eB))
            have hd01 : d = 0 ∨ d = 1 := by rcases HCASE.out with ⟨_, h, _⟩ | ⟨_, h, _⟩ <;> omega
            obtain ⟨r0, r1, r2, r3, y0, y1, y2⟩ := HG.out.r.cs
            obtain ⟨wA, hwA, hGA⟩ : ∃ wA, wA = wr.setCell ⟨b8, 0, none⟩ (.int .i64 2) ∧ LkW w p b8 2 d f wA := ⟨_, rfl, HG.out.seen 2⟩
            have HGA := Lib.hid hGA
            have hAA : ∀ {w'}, Below wA.heap.size wA w' → Below w.heap.size w w' := fun hw => hGA.be.trans (hw.mono hGA.be.size)
            have HPA := Lib.hid (fun w' (hw : Below wA.heap.size wA w') => (hw.block w.heap.size (Array.getElem?_eq_some_iff.1 hGA.p).1).trans hGA.p)
            have HGI : Hid (∀ u, BlW wA VB false false u { wA with drawn := wA.drawn + 1 }) := Lib.hid fun _ => ⟨⟨rfl, rfl, rfl, Nat.le_refl _, fun _ _ => rfl⟩, (fun h => by cases h), (fun h => by cases h)⟩
            have HCR := HRB
            clear eB HG hGA hR4
            go_wp2_with fail
            rw [← hwA]
            clear hwA
            refine QuietTail2.regionInv (n := 13) (Inv := LkI _ _ _ _ _ _ _ _ _ _ _ _ _ _ _ _ _ _ _ _ _ _ _ _ _ _ _ _ _ _ _ _ _ _ _ _ _ _ _ _ _ _ _ _ _ _ _ _ _ _ _ _ _ _ _ _ _ _ _ _ _ _ _ _ _ _ _ wA g b w.heap.size p p.B gen pa k cap VB EB) (by kernel_rfl) (by decide) (by kernel_rfl) ⟨_, _, _, _, _, _, _, _, _, _, _, _, rfl, by simp, by simp, by simp, by simp, by simp, by simp, by simp, by simp, by simp, by simp, by simp, HGI.out _⟩ ?stepS ?finS
            case stepS =>
              rintro i o hi ho L a' w' ⟨u0, u1, u2, u3, u4, u5, u6, u7, u8, u9, u10, u12, rfl, i0, i1, i2, i3, i4, i5, i6, i7, i8, i9, i12, iW⟩ hL hpre
              match i, hi with
              | 0, _ =>
                simp at ho
                subst ho
                go_simp
                exact ⟨_, u1, u2, u3, u4, u5, u6, u7, u8, u9, u10, u12, rfl, fun _ => rfl, LkI_kl i1 rfl, LkI_kl i2 rfl, LkI_kl i3 rfl, LkI_kl i4 rfl, LkI_kl i5 rfl, LkI_kl i6 rfl, LkI_kl i7 rfl, LkI_kl i8 rfl, LkI_kl i9 rfl, LkI_kl i12 rfl, iW⟩
              | 1, _ =>
                simp at ho
                subst ho
                go_simp
                exact ⟨u0, _, u2, u3, u4, u5, u6, u7, u8, u9, u10, u12, rfl, LkI_kl i0 rfl, fun _ => rfl, LkI_kl i2 rfl, LkI_kl i3 rfl, LkI_kl i4 rfl, LkI_kl i5 rfl, LkI_kl i6 rfl, LkI_kl i7 rfl, LkI_kl i8 rfl, LkI_kl i9 rfl, LkI_kl i12 rfl, iW⟩
              | 2, _ =>
                simp at ho
                subst ho
                obtain rfl := i1 (hpre 1 (by kernel_rfl))
                go_simp
                exact ⟨u0, _, _, u3, u4, u5, u6, u7, u8, u9, u10, u12, rfl, LkI_kl i0 rfl, LkI_kl i1 rfl, fun _ => rfl, LkI_kl i3 rfl, LkI_kl i4 rfl, LkI_kl i5 rfl, LkI_kl i6 rfl, LkI_kl i7 rfl, LkI_kl i8 rfl, LkI_kl i9 rfl, LkI_kl i12 rfl, iW⟩
              | 3, _ =>
                simp at ho
                subst ho
                obtain rfl := i2 (hpre 2 (by kernel_rfl))
                obtain ⟨k0, k1⟩ := HTB.out w' (hAA iW.be)
                go_simp
                exact ⟨u0, u1, _, _, u4, u5, u6, u7, u8, u9, u10, u12, rfl, LkI_kl i0 rfl, LkI_kl i1 rfl, LkI_kl i2 rfl, fun _ => rfl, LkI_kl i4 rfl, LkI_kl i5 rfl, LkI_kl i6 rfl, LkI_kl i7 rfl, LkI_kl i8 rfl, LkI_kl i9 rfl, LkI_kl i12 rfl, iW⟩
              | 4, _ =>
                simp at ho
                subst ho
                refine wp_load_mid 31 (.tmp 5) rfl w.heap.size 0 rfl (Pt.pV p) _ (Pt.row_pt (HPA.out w' iW.be)) Pt.undP rfl (Pt.sizeP p) ?_
                simp only [Act.put, List.setIfInBounds_toArray, List.set_cons_succ, List.set_cons_zero]
                exact ⟨u0, u1, u2, u3, _, u5, u6, u7, u8, u9, u10, u12, rfl, LkI_kl i0 rfl, LkI_kl i1 rfl, LkI_kl i2 rfl, LkI_kl i3 rfl, fun _ => rfl, LkI_kl i5 rfl, LkI_kl i6 rfl, LkI_kl i7 rfl, LkI_kl i8 rfl, LkI_kl i9 rfl, LkI_kl i12 rfl, iW⟩
              | 5, _ =>
                simp at ho
                subst ho
                go_simp
                exact ⟨u0, u1, u2, u3, u4, _, u6, u7, u8, u9, u10, u12, rfl, LkI_kl i0 rfl, LkI_kl i1 rfl, LkI_kl i2 rfl, LkI_kl i3 rfl, LkI_kl i4 rfl, fun _ => rfl, LkI_kl i6 rfl, LkI_kl i7 rfl, LkI_kl i8 rfl, LkI_kl i9 rfl, LkI_kl i12 rfl, iW⟩
              | 6, _ =>
                simp at ho
                subst ho
                obtain rfl := i0 (hpre 0 (by kernel_rfl))
                obtain rfl := i3 (hpre 3 (by kernel_rfl))
                obtain rfl := i4 (hpre 4 (by kernel_rfl))
                obtain rfl := i5 (hpre 5 (by kernel_rfl))
                go_simp
                refine (HCR.out w' (hAA iW.be)).mono ?_
                rintro _ w'' ⟨rfl, hb⟩
                exact ⟨_, u1, u2, _, _, _, _, u7, u8, u9, u10, u12, rfl, LkI_kl i0 rfl, LkI_kl i1 rfl, LkI_kl i2 rfl, LkI_kl i3 rfl, LkI_kl i4 rfl, LkI_kl i5 rfl, fun _ => rfl, LkI_kl i7 rfl, LkI_kl i8 rfl, LkI_kl i9 rfl, LkI_kl i12 rfl, iW.call hb⟩
              | 7, _ =>
                simp at ho
                subst ho
                obtain rfl := i6 (hpre 6 (by kernel_rfl))
                go_simp
                exact ⟨u0, u1, u2, u3, u4, u5, _, _, u8, u9, u10, u12, rfl, LkI_kl i0 rfl, LkI_kl i1 rfl, LkI_kl i2 rfl, LkI_kl i3 rfl, LkI_kl i4 rfl, LkI_kl i5 rfl, LkI_kl i6 rfl, fun _ => rfl, LkI_kl i8 rfl, LkI_kl i9 rfl, LkI_kl i12 rfl, iW⟩
              | 8, _ =>
                simp at ho
                subst ho
                obtain rfl := i7 (hpre 7 (by kernel_rfl))
                go_simp
                exact ⟨u0, u1, u2, u3, u4, u5, u6, _, _, u9, u10, u12, rfl, LkI_kl i0 rfl, LkI_kl i1 rfl, LkI_kl i2 rfl, LkI_kl i3 rfl, LkI_kl i4 rfl, LkI_kl i5 rfl, LkI_kl i6 rfl, LkI_kl i7 rfl, fun _ => rfl, LkI_kl i9 rfl, LkI_kl i12 rfl, iW⟩
              | 9, _ =>
                simp at ho
                subst ho
                obtain rfl := i7 (hpre 7 (by kernel_rfl))
                go_simp
                exact ⟨u0, u1, u2, u3, u4, u5, u6, _, u8, _, u10, u12, rfl, LkI_kl i0 rfl, LkI_kl i1 rfl, LkI_kl i2 rfl, LkI_kl i3 rfl, LkI_kl i4 rfl, LkI_kl i5 rfl, LkI_kl i6 rfl, LkI_kl i7 rfl, LkI_kl i8 rfl, fun _ => rfl, LkI_kl i12 rfl, iW⟩
              | 10, _ =>
                simp at ho
                subst ho
                go_simp
                exact ⟨u0, u1, u2, u3, u4, u5, u6, u7, u8, u9, _, u12, rfl, LkI_kl i0 rfl, LkI_kl i1 rfl, LkI_kl i2 rfl, LkI_kl i3 rfl, LkI_kl i4 rfl, LkI_kl i5 rfl, LkI_kl i6 rfl, LkI_kl i7 rfl, LkI_kl i8 rfl, LkI_kl i9 rfl, LkI_kl i12 rfl, iW.alloc hL⟩
              | 11, _ =>
                simp at ho
                subst ho
                obtain rfl := i8 (hpre 8 (by kernel_rfl))
                obtain ⟨bk, e10, _, hbk⟩ := iW.al (hpre 10 (by kernel_rfl))
                rw [hL] at hbk
                subst e10
                refine wp_store_row 36 (.tmp 13) (.tmp 42) rfl bk (bl VB).toArray rfl rfl 36 _ hbk (size_bl' _) rfl (bl_all _) ?_
                exact ⟨u0, u1, u2, u3, u4, u5, u6, u7, _, u9, _, u12, rfl, LkI_kl i0 rfl, LkI_kl i1 rfl, LkI_kl i2 rfl, LkI_kl i3 rfl, LkI_kl i4 rfl, LkI_kl i5 rfl, LkI_kl i6 rfl, LkI_kl i7 rfl, LkI_kl i8 rfl, LkI_kl i9 rfl, LkI_kl i12 rfl, iW.put hL (hpre 10 (by kernel_rfl)) hbk⟩
              | 12, _ =>
                simp at ho
                subst ho
                obtain rfl := i9 (hpre 9 (by kernel_rfl))
                go_simp
                exact ⟨u0, u1, u2, u3, u4, u5, u6, u7, u8, _, u10, _, rfl, LkI_kl i0 rfl, LkI_kl i1 rfl, LkI_kl i2 rfl, LkI_kl i3 rfl, LkI_kl i4 rfl, LkI_kl i5 rfl, LkI_kl i6 rfl, LkI_kl i7 rfl, LkI_kl i8 rfl, LkI_kl i9 rfl, fun _ => rfl, iW⟩
              | i + 13, h => omega
            rintro L a' w5 hall ⟨u0, u1, u2, u3, u4, u5, u6, u7, u8, u9, u10, u12, rfl, i0, i1, i2, i3, i4, i5, i6, i7, i8, i9, i12, iW⟩
            obtain rfl := i0 (hall 0 (by omega))
            obtain rfl := i1 (hall 1 (by omega))
            obtain rfl := i2 (hall 2 (by omega))
            obtain rfl := i3 (hall 3 (by omega))
            obtain rfl := i4 (hall 4 (by omega))
            obtain rfl := i5 (hall 5 (by omega))
            obtain rfl := i6 (hall 6 (by omega))
            obtain rfl := i7 (hall 7 (by omega))
            obtain rfl := i8 (hall 8 (by omega))
            obtain rfl := i9 (hall 9 (by omega))
            obtain rfl := i12 (hall 12 (by omega))
            obtain ⟨bk, eu, hbk0, hbk⟩ := iW.al (hall 10 (by omega))
            rw [hall 11 (by omega), if_pos rfl] at hbk
            have hb5 := iW.be
            clear iW
            subst eu
            clear i0 i1 i2 i3 i4 i5 i6 i7 i8 i9 i12 hall
            simp only [List.drop_succ_cons, List.drop_zero]
            refine wpList_nil ?_
            have HG5 := Lib.hid (HGA.out.below hb5)
            have r5 := row_all hbk
            clear HGI HCR HRA HRB HCA HTB hix HPA hbk0 hb5 hAA HGA r0 r1 r2 r3 y0 y1 y2
            rcases HCB.out with ⟨hd, _⟩ | ⟨hd, hgb', e0, ev⟩ | ⟨hd, hgb', e2⟩
            · rw [HDF.out] at hd; cases hd
            · have hf := HG5.out.f
              have hN := Lib.hid (fun w' (hw : LkW w p b8 2 d VB w') => HN2.out w' 2 d x VB hw (by
                rcases HCASE.out with ⟨hga, rfl, rfl, _⟩ | ⟨hga, rfl, rfl⟩
                · exact ⟨by omega, by omega, by omega, by omega, .inl ⟨rfl, by rw [HR4.out, hga, hgb']; rfl⟩⟩
                · exact ⟨by omega, by omega, by omega, by omega, .inr (.inr ⟨rfl, rfl, by rw [HR4.out, hga, hgb', ev]; rfl⟩)⟩))
              clear hd hgb' ev hd01
              subst e0
              go_wp2_with (first
                | (refine @wpList_loadG _ _ _ _ _ _ _ (by kernel_rfl) 36 (.tmp 13) rfl bk 0 rfl (bl VB) _ r5 undB rfl (size_bl VB) ?_; simp only [Act.put, List.setIfInBounds_toArray, List.set_cons_succ, List.set_cons_zero])
                | (refine wpList_store_row rfl 36 (.tmp 9) (.tmp 49) rfl (b8 + 1) (bl VB).toArray rfl rfl 36 _ hf (size_bl' _) rfl (bl_all _) ?_; simp only [Act.put]))
              go_roundw
              case rel => exact hN.out _ (HG5.out.good VB)
              case measure => simp [intOf]
            · have hN0 := Lib.hid (fun (hd0 : d = 0) w' (hw : LkW w p b8 2 1 f w') => HN2.out w' 2 1 p.B f hw (by
                rcases HCASE.out with ⟨hga, _, _, ef⟩ | ⟨_, e, _⟩
                · exact ⟨by omega, by omega, by omega, by omega, .inr (.inr ⟨rfl, rfl, by rw [HR4.out, hga, hgb', ef]; rfl⟩)⟩
                · omega))
              have hN1 := Lib.hid (fun (hd0 : d = 1) w' (hw : LkW w p b8 2 2 f w') => HN2.out w' 2 2 p.B f hw (by
                rcases HCASE.out with ⟨_, e, _, _⟩ | ⟨hga, _, _⟩
                · omega
                · exact ⟨by omega, by omega, by omega, by omega, .inr (.inl ⟨by omega, rfl, by rw [HR4.out, hga, hgb']; rfl⟩)⟩))
              clear hd hgb'
              subst e2
              rcases hd01 with rfl | rfl
              · obtain ⟨r0, r1, r2, r3, y0, y1, y2⟩ := HG5.out.r.cs
                go_wp2_with fail
                go_roundw
                case rel => exact hN0.out rfl _ (HG5.out.bad 1)
                case measure => simp [intOf]
              · obtain ⟨r0, r1, r2, r3, y0, y1, y2⟩ := HG5.out.r.cs
                go_wp2_with fail
                go_roundw
                case rel => exact hN1.out rfl _ (HG5.out.bad 2)
                case measure => simp [intOf]
      | 2, _ =>
        obtain ⟨hs0', hs2', hd0', hd2', hcase⟩ := hR.out.2.2.2 rfl
        have HG := Lib.hid hR.out.1
        obtain ⟨r0, r1, r2, r3, y0, y1, y2⟩ := HG.out.r.cs
        have hz := HG.out.z
        unfold Rb at hz
        clear hR HRA HRB HCA HCB G3 G4 GH HTB
        rcases hcase with ⟨rfl, hRR⟩ | ⟨hdn, rfl, hRR⟩ | ⟨rfl, rfl, hRR⟩
        · have HRR := Lib.hid hRR
          clear hRR
          go_wp2_with (refine @wpList_store_row _ _ _ _ _ _ _ rfl 47 (.tmp 6) (.tmp 61) rfl (w.heap.size + 1) #[.int .i64 s, .int .i64 0, .int .i64 0, .slice none 0 0] rfl rfl 47 _ hz (by kernel_rfl) rfl (rb_one _ _ _) ?_; simp only [Act.put])
          refine bodyPost_ret (results_lk rfl rfl rfl (setRow_heap _ _ _ _ _ _ hz)) rfl ?_
          have hB := below_only HG.out.be (Nat.le_succ _) (grown_row (B := w.heap.size + 1) #[.int .i64 s, .int .i64 0, .int .i64 0, .slice none 0 0])
          exact ⟨by rw [HRR.out]; try rfl, two_of_below hB, by rw [HRR.out]; exact HD.out _ hB, by rw [HRR.out]; exact HTT.out _ hB⟩
        · have HRR := Lib.hid hRR
          have n0 : (d == 0) = false := by simpa using hdn
          clear hRR hdn
          go_wp2_with (refine @wpList_store_row _ _ _ _ _ _ _ rfl 47 (.tmp 6) (.tmp 67) rfl (w.heap.size + 1) #[.int .i64 d, .int .i64 d, .int .i64 0, .slice none 0 0] rfl rfl 47 _ hz (by kernel_rfl) rfl (rb_one _ _ _) ?_; simp only [Act.put])
          refine bodyPost_ret (results_lk rfl rfl rfl (setRow_heap _ _ _ _ _ _ hz)) rfl ?_
          have hB := below_only HG.out.be (Nat.le_succ _) (grown_row (B := w.heap.size + 1) #[.int .i64 d, .int .i64 d, .int .i64 0, .slice none 0 0])
          exact ⟨by rw [HRR.out]; try rfl, two_of_below hB, by rw [HRR.out]; exact HD.out _ hB, by rw [HRR.out]; exact HTT.out _ hB⟩
        · have HH := Lib.hid (HHL.out wr HG.out.be x f)
          have hw := HWR.out x f HRI.out
          unfold Healed at HH
          generalize wRes n X ⟨gen, k, F, T⟩ x f = Q at HH hRR hw
          obtain ⟨E, X', M'⟩ := Q
          dsimp only at HH hw
          have HW := Lib.hid hw
          have HRR := Lib.hid hRR
          have hf := row_all HG.out.f
          clear hw hRR HHL HWR hz
          go_wp2_with (refine @wpList_loadG _ _ _ _ _ _ _ (by kernel_rfl) 36 (.tmp 9) rfl (b8 + 1) 0 rfl (bl f) _ hf undB rfl (size_bl f) ?_; simp only [Act.put, List.setIfInBounds_toArray, List.set_cons_succ, List.set_cons_zero])
          refine HH.out.mono ?_
          rintro _ w6 ⟨rfl, hT6, hD6, hM6⟩
          have hfar := HG.out.far
          have hz6 : Rb w6 (w.heap.size + 1) 0 0 0 := (hT6.block (w.heap.size + 1) HG.out.z.lt (by omega) (by omega)).trans HG.out.z
          have hr6 : Rb w6 b8 2 1 0 := (hT6.block b8 HG.out.r.lt (by omega) (by omega)).trans HG.out.r
          have hT6' := two_below' HG.out.be hT6
          clear HH hT6 hf r0 r1 r2 r3 y0 y1 y2 HG
          dsimp only
          by_cases e3 : E = 3
          · subst e3
            have hRR' : Hid (R = ⟨0, 0, 0, 3, X', M'⟩) := Lib.hid (by rw [HRR.out]; rfl)
            have hh : hlE 3 = 3 := rfl
            unfold Rb at hz6
            clear HRR hr6
            go_wp2_with (first
              | (refine wpList_buildTo rfl 47 #[] rfl _ rfl #[.int .i64 0, .int .i64 0, .int .i64 0, .slice none 0 0] builtR ?_; simp only [Act.put, List.setIfInBounds_toArray, List.set_cons_succ, List.set_cons_zero])
              | (refine @wpList_store_row _ _ _ _ _ _ _ rfl 47 (.tmp 6) (.tmp 78) rfl (w.heap.size + 1) #[.int .i64 0, .int .i64 0, .int .i64 0, .slice none 0 0] rfl rfl 47 _ hz6 (by kernel_rfl) rfl (rb_one _ _ _) ?_; simp only [Act.put]))
            refine bodyPost_ret (results_lk rfl rfl rfl (setRow_heap _ _ _ _ _ _ hz6)) rfl ?_
            exact ⟨by rw [hRR'.out]; try rfl, two_only hT6' (Nat.le_succ _) (grown_row _), by rw [hRR'.out]; exact hasD_only hD6 hz6 (by simp) (by omega) (grown_row _), by rw [hRR'.out]; exact hasT_only hM6 HW.out hz6 (rb_small (by omega) (by omega) (by omega)) (by omega) (grown_row _)⟩
          · have hRR' : Hid (R = ⟨2, 1, hlH E, 0, X', M'⟩) := Lib.hid (by rw [HRR.out]; exact if_neg e3)
            have hh : hlE E = 0 := if_neg e3
            have hH8 : hlH E < 8 := by unfold hlH; split <;> omega
            have HR6 := Lib.hid hr6
            have HZ6 := Lib.hid hz6
            have HD6 := Lib.hid hD6
            have HM6 := Lib.hid hM6
            have HT6 := Lib.hid hT6'
            clear HRR e3 hz6 hr6 hD6 hM6 hT6'
            generalize hlH E = hE at hRR' hH8 ⊢
            generalize hlE E = eE at hh ⊢
            subst hh
            obtain ⟨w7, hw7, hr7, hz7, hT7, hD7, hM7⟩ : ∃ w7, w7 = w6.setCell ⟨b8, 2, none⟩ (.int .i64 hE) ∧ Rb w7 b8 2 1 hE ∧ Rb w7 (w.heap.size + 1) 0 0 0 ∧ Two w w7 g b ∧ HasD w7 g n X' ∧ HasT w7 b g M' :=
              ⟨_, rfl, HR6.out.s2 hE, (Below.heap_setCell _ _ _ _ (by show _ ≠ b8; omega)).trans HZ6.out, two_only HT6.out (by omega) (only_put _ _ _ _), hasD_only HD6.out HR6.out (by simp) (by omega) (only_put _ _ _ _), hasT_only HM6.out HW.out HR6.out (rb_small (by omega) (by omega) (by omega)) (by omega) (only_put _ _ _ _)⟩
            obtain ⟨r0, r1, r2, r3, y0, y1, y2⟩ := HR6.out.cs
            have HT7 := Lib.hid hT7
            have HD7 := Lib.hid hD7
            have HM7 := Lib.hid hM7
            unfold Rb at hz7
            clear HR6 HZ6 HD6 HM6 HT6 hr7 hT7 hD7 hM7
            subst hw7
            go_wp2_with (refine @wpList_store_row _ _ _ _ _ _ _ rfl 47 (.tmp 6) (.tmp 82) rfl (w.heap.size + 1) #[.int .i64 2, .int .i64 1, .int .i64 hE, .slice none 0 0] rfl rfl 47 _ hz7 (by kernel_rfl) rfl (rb_one _ _ _) ?_; simp only [Act.put])
            refine bodyPost_ret (results_lk rfl rfl rfl (setRow_heap _ _ _ _ _ _ hz7)) rfl ?_
            exact ⟨by rw [hRR'.out]; try rfl, two_only HT7.out (Nat.le_succ _) (grown_row _), by rw [hRR'.out]; exact hasD_only HD7.out hz7 (by simp) (by omega) (grown_row _), by rw [hRR'.out]; exact hasT_only HM7.out HW.out hz7 (rb_small (by omega) (by omega) (by omega)) (by omega) (grown_row _)⟩
      | c + 3, h => omega
end Di
end Go.Proofs.YtllejfnmbpjhaaaGreatDoor
