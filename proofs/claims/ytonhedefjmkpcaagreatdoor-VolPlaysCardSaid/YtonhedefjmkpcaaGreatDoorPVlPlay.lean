import Derived.Test.YtonhedefjmkpcaaGreatDoorPVlPy
import Derived.Test.YtonhedefjmkpcaaGreatDoorPJPt
import Derived.Deep.CutBlock
import Derived.Deep.DeepCutAuto
import Derived.Deep.RegionLaw
import Derived.BigRegion
import Derived.Deep.MidRow
import Derived.Test.YtonhedefjmkpcaaGreatDoorPAl
/- vol: the laws' play. -/
namespace Go.Proofs.YtonhedefjmkpcaaGreatDoor
set_option maxRecDepth 20000
namespace Vl
open Go.RowKit Dk Gm Eqb Rm Vm Di Vp VLaw

/-- ahead of the j-th step -/
def AtP (w0 : World) (V : Pl) (tw : Bool) (j : Nat) (vH : Value) (w : World) : Prop := ∃ X f H, Py X f H ∧ X.m ≤ 2 * j ∧ H.length ≤ j ∧ (tw = true → ∀ x, x ∈ H → TwE x) ∧ Mw w0 V X f H vH w
/-- a step, and its block -/
structure Bs9 (w0 : World) (s : St9) (b8 b9 : Nat) (w : World) : Prop where
 n8 : w0.heap.size ≤ b8
 n9 : w0.heap.size ≤ b9
 h8 : w.heap[b8]? = some (.cells (s9V s).toArray 57 (0, 0))
 h9 : w.heap[b9]? = some (.cells (bl (Vp.one (s.p % 128) s.z)).toArray 45 (0, 0))
section
variable {w0 w w' : World} {V : Pl} {tw : Bool} {j b8 b9 : Nat} {vH : Value} {s : St9}
theorem AtP.below (h : AtP w0 V tw j vH w) (hb : Below w.heap.size w w') : AtP w0 V tw j vH w' := by
 obtain ⟨X, f, H, h1, h2, h3, ht, h4⟩ := h
 exact ⟨X, f, H, h1, h2, h3, ht, h4.below hb⟩
theorem AtP.size (h : AtP w0 V tw j vH w) : w0.heap.size ≤ w.heap.size := by
 obtain ⟨X, f, H, h1, h2, h3, ht, h4⟩ := h
 exact h4.size
theorem Bs9.grown {row : Option Nat} (h : Bs9 w0 s b8 b9 w) (hg : w.grownBy w' row) (hr : ∀ b, row = some b → b ≠ b8 ∧ b ≠ b9) : Bs9 w0 s b8 b9 w' :=
 ⟨h.n8, h.n9, (hg.block b8 (Array.getElem?_eq_some_iff.1 h.h8).1 (fun e => (hr _ e.symm).1 rfl)).trans h.h8, (hg.block b9 (Array.getElem?_eq_some_iff.1 h.h9).1 (fun e => (hr _ e.symm).2 rfl)).trans h.h9⟩
theorem Bs9.below (h : Bs9 w0 s b8 b9 w) (hb : Below w.heap.size w w') : Bs9 w0 s b8 b9 w' :=
 h.grown (row := none) ⟨hb.os, hb.tape, hb.output, hb.size, fun k hk _ => hb.block k hk⟩ (fun _ e => by cases e)
/-- the head of a round: the step's block and its byte -/
theorem bs9_start (h : AtP w0 V tw j vH w) (s : St9) : ∀ W, W = (w.alloc (.cells (s9V s).toArray 57)).alloc (.cells ((bl fun _ => 0).set (s.p % 128) (.int .u8 (s.z : Int))).toArray 45) →
  AtP w0 V tw j vH W ∧ Bs9 w0 s w.heap.size (w.heap.size + 1) W := by
 rintro W rfl
 have b1 : Below w.heap.size w (w.alloc (.cells (s9V s).toArray 57)) := (Below.refl _ _).alloc (Nat.le_refl _) _
 have h1 := heap_alloc_new w (.cells (s9V s).toArray 57)
 have s1 : (w.alloc (.cells (s9V s).toArray 57)).heap.size = w.heap.size + 1 := by simp
 generalize w.alloc (.cells (s9V s).toArray 57) = w1 at *
 rw [set_one (Nat.mod_lt _ (by omega))]
 have b2 : Below w1.heap.size w1 (w1.alloc (.cells (bl (Vp.one (s.p % 128) s.z)).toArray 45)) := (Below.refl _ _).alloc (Nat.le_refl _) _
 have h2 := heap_alloc_new w1 (.cells (bl (Vp.one (s.p % 128) s.z)).toArray 45)
 rw [s1] at h2
 have hb := b1.trans (b2.mono b1.size)
 exact ⟨h.below hb, ⟨h.size, Nat.le_trans h.size (by omega), (b2.block w.heap.size (by omega)).trans h1, h2⟩⟩
theorem step_cells {la : Option Addr} {ln lc B g : Nat} {F : Nat → St9} (hl : Lay w B g la ln lc 5 (fun i => s9V (F i))) {j : Nat} (hj : j < ln) : ∃ lb off, la = some ⟨lb, off, none⟩ ∧ w.cell? ⟨lb, off + j * 5, none⟩ = some (.int .u8 ((F j).k : Int)) ∧ w.cell? ⟨lb, off + j * 5 + 1, none⟩ = some (.int .u8 ((F j).i : Int)) ∧
  w.cell? ⟨lb, off + j * 5 + 2, none⟩ = some (.int .u8 ((F j).p : Int)) ∧ w.cell? ⟨lb, off + j * 5 + 3, none⟩ = some (.int .u8 ((F j).z : Int)) ∧ w.cell? ⟨lb, off + j * 5 + 4, none⟩ = some (.bool (F j).t) := by
 rcases hl.rows with h0 | ⟨b, off, e, _, _, hr⟩
 ·omega
 ·have h := hr j hj
  exact ⟨b, off, e, h 0 _ rfl, h 1 _ rfl, h 2 _ rfl, h 3 _ rfl, h 4 _ rfl⟩
theorem AtP.grown (h : AtP w0 V tw j vH w) : w0.grownBy w (some V.b) := by
 obtain ⟨X, f, H, h1, h2, h3, ht, h4⟩ := h
 exact h4.t.g
theorem Bs9.c (h : Bs9 w0 s b8 b9 w) : w.cell? ⟨b8, 0, none⟩ = some (.int .u8 (s.k : Int)) ∧ w.cell? ⟨b8, 1, none⟩ = some (.int .u8 (s.i : Int)) ∧ w.cell? ⟨b8, 2, none⟩ = some (.int .u8 (s.p : Int)) ∧ w.cell? ⟨b8, 3, none⟩ = some (.int .u8 (s.z : Int)) ∧ w.cell? ⟨b8, 4, none⟩ = some (.bool s.t) := by
 refine ⟨?_, ?_, ?_, ?_, ?_⟩ <;> (rw [cell_of_row w b8 _ _ _ _ h.h8]; rfl)
theorem wpList_build2 {ops : Array Oper} {rest : List Oper} {o : Oper} {a : Act} {w : World} {Q : Exit → Act → World → Prop} (hg : o.guard = none) (t : TypeId) (i j : Nat) (x y : Operand) (ho : o.op = .build t #[(i, x), (j, y)]) (d : Option Tmp) (hd : o.dst = d) (X Y : Value) (hx : a.eval x = X) (hy : a.eval y = Y)
  (cells : Array Value) (hf : Tryz.prog.built t [(i, X), (j, Y)] = some cells) (h : wpList Tryz.prog ops Q rest (a.put d (.agg cells)) w) : wpList Tryz.prog ops Q (o :: rest) a w :=
 wpList_buildTo hg t _ ho d hd cells (by
  have e : ((#[(i, x), (j, y)] : Array (Nat × Operand)).map fun (i, x) => (i, a.eval x)).toList = [(i, X), (j, Y)] := by simp [hx, hy]
  rw [e]
  exact hf) h
/-- an element is stored in place -/
theorem wpList_storeH {ops : Array Oper} {rest : List Oper} {o : Oper} {a : Act} {w : World} {Q : Exit → Act → World → Prop} (hgd : o.guard = none) (x y : Operand) (ho : o.op = .store 52 x y) (d : Option Tmp) (hd : o.dst = d) (b i : Nat) (h : Hd) (hx : a.eval x = .pointer (some ⟨b, i, none⟩)) (hy : a.eval y = .agg (hV h).toArray)
  (ht : w.there b i 162) (hk : ∀ W, W = w.setCells b i (hV h) → wpList Tryz.prog ops Q rest (a.put d undef) W) : wpList Tryz.prog ops Q (o :: rest) a w := by
 subst hd
 refine wpList_store_mid hgd _ x y ho b i (hV h).toArray hx hy (by rw [hV_asize]; exact ht) (sizeH' _) (hV_all _) ?_
 exact hk _ rfl
theorem built_hd (p : Pt.Pn) (D : Nat → Int) : Tryz.prog.built 52 [(0, .agg (Pt.pV p).toArray), (1, .agg (bl D).toArray)] = some (hV (p, D)).toArray := by kernel_rfl
theorem hd_row {b o : Nat} {x : Hd} (h : w.rangeAt b o (hV x)) : w.rangeAt b o (Pt.pV x.1) := fun j v hv => h j v (by
 unfold hV
 rw [List.getElem?_append_left (List.getElem?_eq_some_iff.1 hv).1]
 exact hv)
theorem hd_cells {base b n c : Nat} {H : List Hd} (h : OwnH w base (.slice (some ⟨b, 0, none⟩) n c) H) : ∀ j u, (hcs H)[j]? = some u → w.cell? ⟨b, j, none⟩ = some u := by
 rcases h.slice with ⟨h1, _⟩ | ⟨b', cap, h1, _, _, _, hc⟩
 ·cases h1
 ·injection h1 with h1 _ _
  injection h1 with h1
  injection h1 with h1 _ _
  subst h1
  exact hc
theorem hd_there {base b n c m : Nat} {H : List Hd} (h : OwnH w base (.slice (some ⟨b, 0, none⟩) n c) H) (hm : m < H.length) : w.there b (m * 162) 162 := by
 rcases h.2 with ⟨h1, _⟩ | ⟨g, cap, cur, h1, hb, hg, hn, hc, hs, ht⟩
 ·cases h1
 injection h1 with h1 _ h2
 injection h1 with h1
 injection h1 with h1 _ _
 subst h1
 intro j hj
 have hmul : (m + 1) * 162 ≤ cap * 162 := Nat.mul_le_mul_right _ (by omega)
 have hlt : m * 162 + j < cur.size := by omega
 refine ⟨?_, frozen_of_row w b _ _ _ hg⟩
 rw [cell_of_row w b _ _ _ _ hg, Array.getElem?_eq_getElem hlt]
 rfl
/-- how many copies -/
def cN (t : Bool) : Nat := if t then 2 else 1
theorem cN_12 (t : Bool) : cN t = 1 ∨ cN t = 2 := by cases t <;> simp [cN]
/-- is there no room, as the law reckons? -/
def fuB (c : Nat) (r0 r1 : Int) : Bool := (c == 2 && (r0 == 0 || r1 == 0)) || (c == 1 && (r0 + r1 == 0))
theorem rm_bd (f : Nat → Int) : (0 ≤ Sp.rm0 28 184 128 256 f ∧ Sp.rm0 28 184 128 256 f ≤ 128) ∧ (0 ≤ Sp.rm1 28 184 128 256 f ∧ Sp.rm1 28 184 128 256 f ≤ 128) := by
 unfold Sp.rm0 Sp.rm1
 split
 ·exact ⟨Sp.zN_bd f _ 128, Sp.zN_bd f _ 128⟩
 ·omega
theorem full_fu {f : Nat → Int} (hf : Sp.formB 28 184 128 256 f = true) {c : Nat} (hc : c = 1 ∨ c = 2) (h : Sp.tkE 28 184 128 256 f c = 9) : fuB c (Sp.rm0 28 184 128 256 f) (Sp.rm1 28 184 128 256 f) = true := by
 obtain ⟨h1, h2⟩ := full_rm hf hc h
 unfold fuB
 rcases hc with rfl | rfl
 ·obtain ⟨e1, e2⟩ := h2 rfl
  rw [e1, e2]
  rfl
 ·rcases h1 rfl with e | e <;> rw [e] <;> simp
end
/-- Sg: what holds at each moment -/
structure Sg (base : World) (V : Pl) (X X' : Dst) (f f' : Nat → Int) (la : Option Addr) (ln lc bH nH cH m b8 b9 pi pz c : Nat) (p0 p1 : Pt.Pn) (E1 : Int) (L : Nat → Bool) (u0 u1 u2 u3 u4 u5 u6 u7 u8 u9 u10 u11 u12 u14 : Value) (w' : World) : Prop where
 fa0 : L 0 = true → u0 = .pointer (some ⟨V.b, V.o, none⟩)
 fa1 : L 1 = true → u1 = .slice (some ⟨bH, 0, none⟩) nH cH
 fa2 : L 2 = true → u2 = .int .i64 (m : Nat)
 fa3 : L 3 = true → u3 = .pointer (some ⟨bH, m * 162, none⟩)
 fa4 : L 4 = true → u4 = .pointer (some ⟨bH, m * 162, none⟩)
 fa5 : L 5 = true → u5 = .agg (Pt.pV p0).toArray
 fa6 : L 6 = true → u6 = .agg (bl (Vp.one pi pz)).toArray
 fa7 : L 7 = true → u7 = .int .i64 (c : Nat)
 fa8 : L 8 = true → u8 = .tuple #[.agg (Pt.pV p1).toArray, .int .i64 E1]
 fa9 : L 9 = true → u9 = .tuple #[.agg (Pt.pV p1).toArray, .int .i64 E1]
 fa10 : L 10 = true → u10 = .agg (Pt.pV p1).toArray
 fa11 : L 11 = true → u11 = .int .i64 E1
 fa14 : L 14 = true → u14 = .int .i64 E1
 wd : Wr base V 332 X vM X' vM 28 184 128 256 f f' 50 (Pt.pV Pt.pz).toArray (Pt.pV p1).toArray (L 8) (L 12) (L 13) u12 w'
theorem Sg_kl {L : Nat → Bool} {i k : Nat} {Q : Prop} (h : L k = true → Q) (h1 : (k == i) = false) : (k == i || L k) = true → Q := by
 rw [h1, Bool.false_or]
 exact h
section
variable {base : World} {V : Pl} {X X' : Dst} {f f' : Nat → Int} {la : Option Addr} {ln lc bH nH cH m b8 b9 pi pz c : Nat} {p0 p1 : Pt.Pn} {E1 : Int} {L : Nat → Bool} {u0 u1 u2 u3 u4 u5 u6 u7 u8 u9 u10 u11 u12 u14 : Value} {w' w'' : World}
theorem Sg.set0 (h : Sg base V X X' f f' la ln lc bH nH cH m b8 b9 pi pz c p0 p1 E1 L u0 u1 u2 u3 u4 u5 u6 u7 u8 u9 u10 u11 u12 u14 w') : Sg base V X X' f f' la ln lc bH nH cH m b8 b9 pi pz c p0 p1 E1 (fun j => j == 0 || L j) (.pointer (some ⟨V.b, V.o, none⟩)) u1 u2 u3 u4 u5 u6 u7 u8 u9 u10 u11 u12 u14 w' :=
 ⟨fun _ => rfl, Sg_kl h.fa1 rfl, Sg_kl h.fa2 rfl, Sg_kl h.fa3 rfl, Sg_kl h.fa4 rfl, Sg_kl h.fa5 rfl, Sg_kl h.fa6 rfl, Sg_kl h.fa7 rfl, Sg_kl h.fa8 rfl, Sg_kl h.fa9 rfl, Sg_kl h.fa10 rfl, Sg_kl h.fa11 rfl, Sg_kl h.fa14 rfl, h.wd⟩
theorem Sg.set1 (h : Sg base V X X' f f' la ln lc bH nH cH m b8 b9 pi pz c p0 p1 E1 L u0 u1 u2 u3 u4 u5 u6 u7 u8 u9 u10 u11 u12 u14 w') : Sg base V X X' f f' la ln lc bH nH cH m b8 b9 pi pz c p0 p1 E1 (fun j => j == 1 || L j) u0 (.slice (some ⟨bH, 0, none⟩) nH cH) u2 u3 u4 u5 u6 u7 u8 u9 u10 u11 u12 u14 w' :=
 ⟨Sg_kl h.fa0 rfl, fun _ => rfl, Sg_kl h.fa2 rfl, Sg_kl h.fa3 rfl, Sg_kl h.fa4 rfl, Sg_kl h.fa5 rfl, Sg_kl h.fa6 rfl, Sg_kl h.fa7 rfl, Sg_kl h.fa8 rfl, Sg_kl h.fa9 rfl, Sg_kl h.fa10 rfl, Sg_kl h.fa11 rfl, Sg_kl h.fa14 rfl, h.wd⟩
theorem Sg.set2 (h : Sg base V X X' f f' la ln lc bH nH cH m b8 b9 pi pz c p0 p1 E1 L u0 u1 u2 u3 u4 u5 u6 u7 u8 u9 u10 u11 u12 u14 w') : Sg base V X X' f f' la ln lc bH nH cH m b8 b9 pi pz c p0 p1 E1 (fun j => j == 2 || L j) u0 u1 (.int .i64 (m : Nat)) u3 u4 u5 u6 u7 u8 u9 u10 u11 u12 u14 w' :=
 ⟨Sg_kl h.fa0 rfl, Sg_kl h.fa1 rfl, fun _ => rfl, Sg_kl h.fa3 rfl, Sg_kl h.fa4 rfl, Sg_kl h.fa5 rfl, Sg_kl h.fa6 rfl, Sg_kl h.fa7 rfl, Sg_kl h.fa8 rfl, Sg_kl h.fa9 rfl, Sg_kl h.fa10 rfl, Sg_kl h.fa11 rfl, Sg_kl h.fa14 rfl, h.wd⟩
theorem Sg.set3 (h : Sg base V X X' f f' la ln lc bH nH cH m b8 b9 pi pz c p0 p1 E1 L u0 u1 u2 u3 u4 u5 u6 u7 u8 u9 u10 u11 u12 u14 w') : Sg base V X X' f f' la ln lc bH nH cH m b8 b9 pi pz c p0 p1 E1 (fun j => j == 3 || L j) u0 u1 u2 (.pointer (some ⟨bH, m * 162, none⟩)) u4 u5 u6 u7 u8 u9 u10 u11 u12 u14 w' :=
 ⟨Sg_kl h.fa0 rfl, Sg_kl h.fa1 rfl, Sg_kl h.fa2 rfl, fun _ => rfl, Sg_kl h.fa4 rfl, Sg_kl h.fa5 rfl, Sg_kl h.fa6 rfl, Sg_kl h.fa7 rfl, Sg_kl h.fa8 rfl, Sg_kl h.fa9 rfl, Sg_kl h.fa10 rfl, Sg_kl h.fa11 rfl, Sg_kl h.fa14 rfl, h.wd⟩
theorem Sg.set4 (h : Sg base V X X' f f' la ln lc bH nH cH m b8 b9 pi pz c p0 p1 E1 L u0 u1 u2 u3 u4 u5 u6 u7 u8 u9 u10 u11 u12 u14 w') : Sg base V X X' f f' la ln lc bH nH cH m b8 b9 pi pz c p0 p1 E1 (fun j => j == 4 || L j) u0 u1 u2 u3 (.pointer (some ⟨bH, m * 162, none⟩)) u5 u6 u7 u8 u9 u10 u11 u12 u14 w' :=
 ⟨Sg_kl h.fa0 rfl, Sg_kl h.fa1 rfl, Sg_kl h.fa2 rfl, Sg_kl h.fa3 rfl, fun _ => rfl, Sg_kl h.fa5 rfl, Sg_kl h.fa6 rfl, Sg_kl h.fa7 rfl, Sg_kl h.fa8 rfl, Sg_kl h.fa9 rfl, Sg_kl h.fa10 rfl, Sg_kl h.fa11 rfl, Sg_kl h.fa14 rfl, h.wd⟩
theorem Sg.set5 (h : Sg base V X X' f f' la ln lc bH nH cH m b8 b9 pi pz c p0 p1 E1 L u0 u1 u2 u3 u4 u5 u6 u7 u8 u9 u10 u11 u12 u14 w') : Sg base V X X' f f' la ln lc bH nH cH m b8 b9 pi pz c p0 p1 E1 (fun j => j == 5 || L j) u0 u1 u2 u3 u4 (.agg (Pt.pV p0).toArray) u6 u7 u8 u9 u10 u11 u12 u14 w' :=
 ⟨Sg_kl h.fa0 rfl, Sg_kl h.fa1 rfl, Sg_kl h.fa2 rfl, Sg_kl h.fa3 rfl, Sg_kl h.fa4 rfl, fun _ => rfl, Sg_kl h.fa6 rfl, Sg_kl h.fa7 rfl, Sg_kl h.fa8 rfl, Sg_kl h.fa9 rfl, Sg_kl h.fa10 rfl, Sg_kl h.fa11 rfl, Sg_kl h.fa14 rfl, h.wd⟩
theorem Sg.set6 (h : Sg base V X X' f f' la ln lc bH nH cH m b8 b9 pi pz c p0 p1 E1 L u0 u1 u2 u3 u4 u5 u6 u7 u8 u9 u10 u11 u12 u14 w') : Sg base V X X' f f' la ln lc bH nH cH m b8 b9 pi pz c p0 p1 E1 (fun j => j == 6 || L j) u0 u1 u2 u3 u4 u5 (.agg (bl (Vp.one pi pz)).toArray) u7 u8 u9 u10 u11 u12 u14 w' :=
 ⟨Sg_kl h.fa0 rfl, Sg_kl h.fa1 rfl, Sg_kl h.fa2 rfl, Sg_kl h.fa3 rfl, Sg_kl h.fa4 rfl, Sg_kl h.fa5 rfl, fun _ => rfl, Sg_kl h.fa7 rfl, Sg_kl h.fa8 rfl, Sg_kl h.fa9 rfl, Sg_kl h.fa10 rfl, Sg_kl h.fa11 rfl, Sg_kl h.fa14 rfl, h.wd⟩
theorem Sg.set7 (h : Sg base V X X' f f' la ln lc bH nH cH m b8 b9 pi pz c p0 p1 E1 L u0 u1 u2 u3 u4 u5 u6 u7 u8 u9 u10 u11 u12 u14 w') : Sg base V X X' f f' la ln lc bH nH cH m b8 b9 pi pz c p0 p1 E1 (fun j => j == 7 || L j) u0 u1 u2 u3 u4 u5 u6 (.int .i64 (c : Nat)) u8 u9 u10 u11 u12 u14 w' :=
 ⟨Sg_kl h.fa0 rfl, Sg_kl h.fa1 rfl, Sg_kl h.fa2 rfl, Sg_kl h.fa3 rfl, Sg_kl h.fa4 rfl, Sg_kl h.fa5 rfl, Sg_kl h.fa6 rfl, fun _ => rfl, Sg_kl h.fa8 rfl, Sg_kl h.fa9 rfl, Sg_kl h.fa10 rfl, Sg_kl h.fa11 rfl, Sg_kl h.fa14 rfl, h.wd⟩
theorem Sg.set8 (h : Sg base V X X' f f' la ln lc bH nH cH m b8 b9 pi pz c p0 p1 E1 L u0 u1 u2 u3 u4 u5 u6 u7 u8 u9 u10 u11 u12 u14 w') (hw : Wr base V 332 X vM X' vM 28 184 128 256 f f' 50 (Pt.pV Pt.pz).toArray (Pt.pV p1).toArray (true) (L 12) (L 13) u12 w'') : Sg base V X X' f f' la ln lc bH nH cH m b8 b9 pi pz c p0 p1 E1 (fun j => j == 8 || L j) u0 u1 u2 u3 u4 u5 u6 u7 (.tuple #[.agg (Pt.pV p1).toArray, .int .i64 E1]) u9 u10 u11 u12 u14 w'' :=
 ⟨Sg_kl h.fa0 rfl, Sg_kl h.fa1 rfl, Sg_kl h.fa2 rfl, Sg_kl h.fa3 rfl, Sg_kl h.fa4 rfl, Sg_kl h.fa5 rfl, Sg_kl h.fa6 rfl, Sg_kl h.fa7 rfl, fun _ => rfl, Sg_kl h.fa9 rfl, Sg_kl h.fa10 rfl, Sg_kl h.fa11 rfl, Sg_kl h.fa14 rfl, hw⟩
theorem Sg.set9 (h : Sg base V X X' f f' la ln lc bH nH cH m b8 b9 pi pz c p0 p1 E1 L u0 u1 u2 u3 u4 u5 u6 u7 u8 u9 u10 u11 u12 u14 w') : Sg base V X X' f f' la ln lc bH nH cH m b8 b9 pi pz c p0 p1 E1 (fun j => j == 9 || L j) u0 u1 u2 u3 u4 u5 u6 u7 u8 (.tuple #[.agg (Pt.pV p1).toArray, .int .i64 E1]) u10 u11 u12 u14 w' :=
 ⟨Sg_kl h.fa0 rfl, Sg_kl h.fa1 rfl, Sg_kl h.fa2 rfl, Sg_kl h.fa3 rfl, Sg_kl h.fa4 rfl, Sg_kl h.fa5 rfl, Sg_kl h.fa6 rfl, Sg_kl h.fa7 rfl, Sg_kl h.fa8 rfl, fun _ => rfl, Sg_kl h.fa10 rfl, Sg_kl h.fa11 rfl, Sg_kl h.fa14 rfl, h.wd⟩
theorem Sg.set10 (h : Sg base V X X' f f' la ln lc bH nH cH m b8 b9 pi pz c p0 p1 E1 L u0 u1 u2 u3 u4 u5 u6 u7 u8 u9 u10 u11 u12 u14 w') : Sg base V X X' f f' la ln lc bH nH cH m b8 b9 pi pz c p0 p1 E1 (fun j => j == 10 || L j) u0 u1 u2 u3 u4 u5 u6 u7 u8 u9 (.agg (Pt.pV p1).toArray) u11 u12 u14 w' :=
 ⟨Sg_kl h.fa0 rfl, Sg_kl h.fa1 rfl, Sg_kl h.fa2 rfl, Sg_kl h.fa3 rfl, Sg_kl h.fa4 rfl, Sg_kl h.fa5 rfl, Sg_kl h.fa6 rfl, Sg_kl h.fa7 rfl, Sg_kl h.fa8 rfl, Sg_kl h.fa9 rfl, fun _ => rfl, Sg_kl h.fa11 rfl, Sg_kl h.fa14 rfl, h.wd⟩
theorem Sg.set11 (h : Sg base V X X' f f' la ln lc bH nH cH m b8 b9 pi pz c p0 p1 E1 L u0 u1 u2 u3 u4 u5 u6 u7 u8 u9 u10 u11 u12 u14 w') : Sg base V X X' f f' la ln lc bH nH cH m b8 b9 pi pz c p0 p1 E1 (fun j => j == 11 || L j) u0 u1 u2 u3 u4 u5 u6 u7 u8 u9 u10 (.int .i64 E1) u12 u14 w' :=
 ⟨Sg_kl h.fa0 rfl, Sg_kl h.fa1 rfl, Sg_kl h.fa2 rfl, Sg_kl h.fa3 rfl, Sg_kl h.fa4 rfl, Sg_kl h.fa5 rfl, Sg_kl h.fa6 rfl, Sg_kl h.fa7 rfl, Sg_kl h.fa8 rfl, Sg_kl h.fa9 rfl, Sg_kl h.fa10 rfl, fun _ => rfl, Sg_kl h.fa14 rfl, h.wd⟩
theorem Sg.set12 {u : Value} (h : Sg base V X X' f f' la ln lc bH nH cH m b8 b9 pi pz c p0 p1 E1 L u0 u1 u2 u3 u4 u5 u6 u7 u8 u9 u10 u11 u12 u14 w') (hw : Wr base V 332 X vM X' vM 28 184 128 256 f f' 50 (Pt.pV Pt.pz).toArray (Pt.pV p1).toArray (L 8) (true) (L 13) u w'') : Sg base V X X' f f' la ln lc bH nH cH m b8 b9 pi pz c p0 p1 E1 (fun j => j == 12 || L j) u0 u1 u2 u3 u4 u5 u6 u7 u8 u9 u10 u11 u u14 w'' :=
 ⟨Sg_kl h.fa0 rfl, Sg_kl h.fa1 rfl, Sg_kl h.fa2 rfl, Sg_kl h.fa3 rfl, Sg_kl h.fa4 rfl, Sg_kl h.fa5 rfl, Sg_kl h.fa6 rfl, Sg_kl h.fa7 rfl, Sg_kl h.fa8 rfl, Sg_kl h.fa9 rfl, Sg_kl h.fa10 rfl, Sg_kl h.fa11 rfl, Sg_kl h.fa14 rfl, hw⟩
theorem Sg.set13 (h : Sg base V X X' f f' la ln lc bH nH cH m b8 b9 pi pz c p0 p1 E1 L u0 u1 u2 u3 u4 u5 u6 u7 u8 u9 u10 u11 u12 u14 w') (hw : Wr base V 332 X vM X' vM 28 184 128 256 f f' 50 (Pt.pV Pt.pz).toArray (Pt.pV p1).toArray (L 8) (L 12) (true) u12 w'') : Sg base V X X' f f' la ln lc bH nH cH m b8 b9 pi pz c p0 p1 E1 (fun j => j == 13 || L j) u0 u1 u2 u3 u4 u5 u6 u7 u8 u9 u10 u11 u12 u14 w'' :=
 ⟨Sg_kl h.fa0 rfl, Sg_kl h.fa1 rfl, Sg_kl h.fa2 rfl, Sg_kl h.fa3 rfl, Sg_kl h.fa4 rfl, Sg_kl h.fa5 rfl, Sg_kl h.fa6 rfl, Sg_kl h.fa7 rfl, Sg_kl h.fa8 rfl, Sg_kl h.fa9 rfl, Sg_kl h.fa10 rfl, Sg_kl h.fa11 rfl, Sg_kl h.fa14 rfl, hw⟩
theorem Sg.set14 (h : Sg base V X X' f f' la ln lc bH nH cH m b8 b9 pi pz c p0 p1 E1 L u0 u1 u2 u3 u4 u5 u6 u7 u8 u9 u10 u11 u12 u14 w') : Sg base V X X' f f' la ln lc bH nH cH m b8 b9 pi pz c p0 p1 E1 (fun j => j == 14 || L j) u0 u1 u2 u3 u4 u5 u6 u7 u8 u9 u10 u11 u12 (.int .i64 E1) w' :=
 ⟨Sg_kl h.fa0 rfl, Sg_kl h.fa1 rfl, Sg_kl h.fa2 rfl, Sg_kl h.fa3 rfl, Sg_kl h.fa4 rfl, Sg_kl h.fa5 rfl, Sg_kl h.fa6 rfl, Sg_kl h.fa7 rfl, Sg_kl h.fa8 rfl, Sg_kl h.fa9 rfl, Sg_kl h.fa10 rfl, Sg_kl h.fa11 rfl, fun _ => rfl, h.wd⟩
end
def SgInv (x2 x3 x4 x5 x7 x11 x12 x14 x15 x18 x19 x20 x21 x22 x23 x24 x25 x26 x27 x28 x29 x30 x31 x32 x33 x34 x35 x36 x37 x38 x39 x40 x41 x42 x43 x44 x45 x46 x47 x48 x49 x50 x51 x52 x53 x54 x55 x56 x57 x58 x59 x60 x61 x62 x63 x64 x65 x66 x67 x68 x69 x70 x71 x72 x73 x74 x75 x76 x77 x78 x79 x80 x81 x82 x83 x84 x85 x86 x87 x88 x89 x90 x91 x92 x93 x94 x95 x96 x97 x98 x99 x100 x101 x102 x103 x104 x105 x106 x107 x108 x109 x110 x111 x112 x113 x114 x115 x116 x117 x118 x119 x120 x121 x122 x123 x124 x125 x126 x127 x128 x129 x130 x131 x132 x133 x134 x135 x136 x137 x138 x139 x140 x141 x142 x143 x144 x145 x146 x147 x148 x149 x150 x151 x152 x153 x154 x155 x156 x169 x170 x171 x172 x173 x174 x175 x176 x177 x178 x179 x180 x181 x182 x183 x184 x185 x186 x187 x188 x189 x190 x191 x192 x193 x194 x195 x196 x197 : Value) (base : World) (V : Pl) (X X' : Dst) (f f' : Nat → Int) (la : Option Addr) (ln lc bH nH cH m b8 b9 pi pz c : Nat) (p0 p1 : Pt.Pn) (E1 : Int) (L : Nat → Bool) (a' : Act) (w' : World) : Prop :=
 ∃ u0 u1 u2 u3 u4 u5 u6 u7 u8 u9 u10 u11 u12 u14, a' = { tmps := #[.pointer (some ⟨V.b, V.o, none⟩), .slice la ln lc, x2, x3, x4, x5, .slice (some ⟨bH, 0, none⟩) nH cH, x7, .pointer (some ⟨b8, 0, none⟩), .pointer (some ⟨b9, 0, none⟩), .int .i64 (c : Nat), x11, x12, .int .i64 (m : Nat), x14, x15, u12, u14, x18, x19, x20, x21, x22, x23, x24, x25, x26, x27, x28, x29, x30, x31, x32, x33, x34, x35, x36, x37, x38, x39, x40, x41, x42, x43, x44, x45, x46, x47, x48, x49, x50, x51, x52, x53, x54, x55, x56, x57, x58, x59, x60, x61, x62, x63, x64, x65, x66, x67, x68, x69, x70, x71, x72, x73, x74, x75, x76, x77, x78, x79, x80, x81, x82, x83, x84, x85, x86, x87, x88, x89, x90, x91, x92, x93, x94, x95, x96, x97, x98, x99, x100, x101, x102, x103, x104, x105, x106, x107, x108, x109, x110, x111, x112, x113, x114, x115, x116, x117, x118, x119, x120, x121, x122, x123, x124, x125, x126, x127, x128, x129, x130, x131, x132, x133, x134, x135, x136, x137, x138, x139, x140, x141, x142, x143, x144, x145, x146, x147, x148, x149, x150, x151, x152, x153, x154, x155, x156, u9, u0, u1, u2, u3, u4, u5, u6, u7, u8, u10, u11, x169, x170, x171, x172, x173, x174, x175, x176, x177, x178, x179, x180, x181, x182, x183, x184, x185, x186, x187, x188, x189, x190, x191, x192, x193, x194, x195, x196, x197], defers := [] } ∧ Sg base V X X' f f' la ln lc bH nH cH m b8 b9 pi pz c p0 p1 E1 L u0 u1 u2 u3 u4 u5 u6 u7 u8 u9 u10 u11 u12 u14 w'

section
attribute [local go_sem] zv29
attribute [local go_sem] Pt.zvP
attribute [local go_sem] zc29
set_option maxRecDepth 100000 in
set_option maxHeartbeats 40000000 in
theorem play_any (w : World) (V : Pl) (la : Option Addr) (ln lc : Nat) (F : Nat → St9) (tw : Bool) (htw : tw = true → ∀ i, (F i).t = true) (hv : HasVol w V 332 vX1 vM 28 184 128 256 (fun _ => 0)) (hkp : Rm.Kp w) (hl : Lay w w.heap.size V.b la ln lc 5 (fun i => s9V (F i))) (hF : ∀ i, (F i).k < 256 ∧ (F i).i < 256 ∧ (F i).p < 256 ∧ (F i).z < 256) (hn : ln ≤ 100) :
  Calls Tryz.prog 14 #[.pointer (some ⟨V.b, V.o, none⟩), .slice la ln lc] w fun e w' => ∃ v, e = .returned (.tuple #[v, .bool true]) ∧ AtP w V tw ln v w' := by
 have hVw := hv.lt
 have hV0 := hasVol_ne hv
 have HST : Hid (AtP w V tw 0 (.slice none 0 0) w) := Lib.hid ⟨vX1, fun _ => 0, [], py_start, by rw [fresh_up.2.2.1]; omega, by simp, fun _ x hx => by simp at hx, ⟨Tv.of hv (Below.refl _ _), OwnH.nil _ _, fun b e => by cases e⟩⟩
 have HKP := Lib.hid (fun w' (hg : w.grownBy w' (some V.b)) => hkp.grown hg hV0)
 have HL := Lib.hid (fun w' (hg : w.grownBy w' (some V.b)) => hl.grown hg (Nat.le_refl _))
 have HF := Lib.hid hF
 have HTW := Lib.hid htw
 clear hv hkp hl hF htw
 go_enter Tryz.func14, Tryz.ntmps14
 go_wp2_with fail
 go_loopg [6, 7] ln (fun k vH i wr => ∃ j : Nat, j ≤ ln ∧ k = ln - j ∧ i = .int .i64 j ∧ Hid (AtP w V tw j vH wr))
 case atStart => exact ⟨0, by omega, by omega, rfl, HST⟩
 case round =>
  clear HST
  obtain ⟨j, hj, rfl, rfl, hR⟩ := hrel
  by_cases hlt : j < ln
  ·obtain ⟨lb, off, rfl, c0, c1, c2, c3, c4⟩ := step_cells (HL.out wr hR.out.grown) hlt
   obtain ⟨s0, s1, s2, s3⟩ := HF.out j
   have htj := fun e => HTW.out e j
   generalize F j = s at c0 c1 c2 c3 c4 s0 s1 s2 s3 htj
   obtain ⟨sk, si, sp, sz, st⟩ := s
   dsimp only at c0 c1 c2 c3 c4 s0 s1 s2 s3 htj
   have HTC : Hid (tw = true → cN st = 2) := Lib.hid (fun e => by rw [htj e]; rfl)
   clear htj
   have HH := Lib.hid (bs9_start hR.out ⟨sk, si, sp, sz, st⟩ _ rfl)
   have hj0 : (0 : Int) ≤ (j : Int) := by omega
   have hj1 : (j : Int) < (ln : Int) := by omega
   have hbz : (bl fun _ => (0 : Int))[sp % 128]? = some (.int .u8 0) := bl_get _ (Nat.mod_lt _ (by omega))
   go_upto_if 36 with fail
   go_cut [10] (fun c wx => c = .int .i64 ((cN st : Nat) : Int) ∧ Hid (AtP w V tw j u6 wx ∧ Bs9 w ⟨sk, si, sp, sz, st⟩ wr.heap.size (wr.heap.size + 1) wx))
   case first =>
    cases st with
    | true =>
     as_aux_lemma =>
      go_wp2_with fail
      go_meet
      exact ⟨rfl, HH⟩
    | false =>
     as_aux_lemma =>
      go_wp2_with fail
      go_meet
      exact ⟨rfl, HH⟩
   case rest =>
    obtain ⟨rfl, hC⟩ := hcut
    clear HH hR c0 c1 c2 c3 c4 hbz
    have hc := cN_12 st
    generalize wr.heap.size + 1 = b9 at *
    generalize wr.heap.size = b8 at *
    generalize cN st = c at *
    obtain ⟨X, f, H, hP, hXm, hHl, hTw, hM⟩ := hC.out.1
    have HTwo := Lib.hid hTw
    clear hTw
    obtain ⟨aH, cH, rfl⟩ := hM.own.shape
    obtain ⟨sa, sd, ca, cc, pa, cap, ao, kd, hx⟩ := HasVol.open' hM.t.v
    have HRM := Lib.hid (Sp.refRoom_any 28 184 128 ao 256 kd f wc hx.st)
    have HFU := Lib.hid (full_fu hP.form hc)
    have d6 := hx.c6
    have d7 := hx.c7
    have d8 := hx.c8
    have d9 := hx.c9
    have HP := Lib.hid hP
    have HM := Lib.hid hM
    have HB := Lib.hid hC.out.2
    obtain ⟨hr0, hr1⟩ := rm_bd f
    generalize Sp.rm0 28 184 128 256 f = r0 at HRM HFU hr0
    generalize Sp.rm1 28 184 128 256 f = r1 at HRM HFU hr1
    clear hx hP hM hC
    go_wp2_with fail
    refine HRM.out.mono ?_
    rintro _ w1 ⟨rfl, hb1⟩
    have hb2 : Below w1.heap.size w1 (w1.alloc (.cells #[.int .i64 r0, .int .i64 r1] 31)) := (Below.refl _ _).alloc (Nat.le_refl _) _
    have hb3 := hb1.trans (hb2.mono hb1.size)
    have HM2 := Lib.hid (HM.out.below hb3)
    have HB2 := Lib.hid (HB.out.below hb3)
    clear HRM HM HB hb1 hb2 hb3 d6 d7 d8 d9
    dsimp only
    go_upto_region 12 with fail
    go_cut [12] (fun v wx => v = .bool (fuB c r0 r1) ∧ wx = w1.alloc (.cells #[.int .i64 r0, .int .i64 r1] 31))
    case first =>
     clear HKP HL HF HM2 HB2 HP HFU HTC HTwo HTW
     rcases hc with rfl | rfl
     ·by_cases h0 : r0 + r1 = 0
      ·have h1 : (r0 + r1 == 0) = true := beq_iff_eq.2 h0
       as_aux_lemma =>
        go_wp2_with fail
        go_meet
        exact ⟨by simp [fuB, h1], rfl⟩
      ·have h1 : (r0 + r1 == 0) = false := beq_eq_false_iff_ne.2 h0
       as_aux_lemma =>
        go_wp2_with fail
        go_meet
        exact ⟨by simp [fuB, h1], rfl⟩
     ·by_cases h0 : r0 = 0
      ·have h1 : (r0 == 0) = true := beq_iff_eq.2 h0
       as_aux_lemma =>
        go_wp2_with fail
        go_meet
        exact ⟨by simp [fuB, h1], by rw [h0]⟩
      ·have h1 : (r0 == 0) = false := beq_eq_false_iff_ne.2 h0
       by_cases h2 : r1 = 0
       ·have h3 : (r1 == 0) = true := beq_iff_eq.2 h2
        as_aux_lemma =>
         go_wp2_with fail
         go_meet
         exact ⟨by simp [fuB, h1, h3], by rw [h2]⟩
       ·have h3 : (r1 == 0) = false := beq_eq_false_iff_ne.2 h2
        as_aux_lemma =>
         go_wp2_with fail
         go_meet
         exact ⟨by simp [fuB, h1, h3], rfl⟩
    case rest =>
     obtain ⟨rfl, rfl⟩ := hcut
     generalize fuB c r0 r1 = fu at *
     generalize w1.alloc (.cells #[.int .i64 r0, .int .i64 r1] 31) = w2 at *
     clear hr0 hr1
     go_upto_if 68 with fail
     go_cut [6, 13] (fun vh v wx => vh = .slice aH H.length cH ∧ w2 = wx ∧ ∃ m : Nat, v = .int .i64 ((m : Nat) : Int) ∧ (H.length ≠ 0 → m < H.length))
     case first =>
      have h1 := HB2.out.c.2.1
      by_cases hH : H.length = 0
      ·have h2 : ¬ (0 : Int) < (H.length : Int) := by omega
       as_aux_lemma =>
        go_wp2_with fail
        go_meet
        exact ⟨by rw [hH], rfl, 0, rfl, fun h => absurd hH h⟩
      ·have h2 : (0 : Int) < (H.length : Int) := by omega
       have h3 : (H.length : Int) ≠ 0 := by omega
       have h4 : (0 : Int) ≤ (si : Int) := by omega
       have hm : si % H.length < H.length := Nat.mod_lt _ (by omega)
       as_aux_lemma =>
        go_wp2_with fail
        go_meet
        exact ⟨rfl, rfl, si % H.length, by simp, fun _ => hm⟩
     case rest =>
      obtain ⟨rfl, rfl, m, rfl, hm⟩ := hcut
      go_upto_region 19 with fail
      go_cut [6, 107] (fun vh v wx => vh = .slice aH H.length cH ∧ w2 = wx ∧ v = .bool (decide (sk % 4 < 2 ∨ H.length = 0)))
      case first =>
       have h1 := HB2.out.c.1
       by_cases hk : sk % 4 < 2
       ·have h2 : (sk : Int) % 4 < 2 := by omega
        as_aux_lemma =>
         go_wp2_with fail
         go_meet
         exact ⟨rfl, rfl, by rw [decide_eq_true (.inl hk)]⟩
       ·have h2 : ¬ (sk : Int) % 4 < 2 := by omega
        by_cases hH : H.length = 0
        ·have h3 : ((H.length : Int) == 0) = true := beq_iff_eq.2 (by omega)
         as_aux_lemma =>
          go_wp2_with fail
          go_meet
          exact ⟨by rw [hH], rfl, by rw [decide_eq_true (.inr hH)]⟩
        ·have h3 : ((H.length : Int) == 0) = false := beq_eq_false_iff_ne.2 (by omega)
         as_aux_lemma =>
          go_wp2_with fail
          go_meet
          exact ⟨rfl, rfl, by rw [decide_eq_false (fun h => h.elim hk hH)]⟩
      case rest =>
       obtain ⟨rfl, rfl, rfl⟩ := hcut
       by_cases hadd : sk % 4 < 2 ∨ H.length = 0
       ·rw [decide_eq_true hadd]
        as_aux_lemma =>
         obtain ⟨p1, E1, X', f', hX', hAD, hr⟩ := py_add HP.out (by omega) hc (Nat.mod_lt sp (show 0 < 128 by omega)) s3
         have HA := Lib.hid (hAD w2 V (HKP.out w2 HM2.out.t.g) HM2.out.t.v)
         have HQ9 := Lib.hid (row_all HB2.out.h9)
         clear hAD
         go_wp2_with (refine wpList_load_mid rfl 45 (.tmp 9) rfl b9 0 rfl (bl (Vp.one (sp % 128) sz)) _ (by exact HQ9.out) undB rfl (size_bl _) ?_; simp only [Act.put, aI, aS, aZ])
         refine HA.out.mono ?_
         rintro _ w4 ⟨rfl, hT4⟩
         have HM4 := Lib.hid (HM2.out.call hT4)
         have HB4 := Lib.hid (HB2.out.grown hT4.g (fun b e => by
          injection e with e
          have := HB2.out.n8
          have := HB2.out.n9
          constructor <;> omega))
         have hb5 : Below w4.heap.size w4 (w4.alloc (.cells (Pt.pV p1).toArray 50)) := (Below.refl _ _).alloc (Nat.le_refl _) _
         have HM5 := Lib.hid (HM4.out.below hb5)
         have HB5 := Lib.hid (HB4.out.below hb5)
         have H14 := Lib.hid (heap_alloc_new w4 (.cells (Pt.pV p1).toArray 50))
         clear hT4 HA HQ9 HM4 HB4 HM2 HB2 hb5
         dsimp only
         go_upto_region 21 with (refine @wpList_store_row _ _ _ _ _ _ _ rfl 50 (.tmp 14) (.tmp 122) rfl w4.heap.size (Pt.pV p1).toArray rfl rfl 50 _ (heap_alloc_new w4 _) (Pt.sizeP' _) rfl (Pt.pV_all _) ?_; rw [World.setRow_alloc_new]; simp only [Act.put]; generalize w4.alloc (.cells (Pt.pV p1).toArray 50) = w5 at HM5 HB5 H14 ⊢)
         generalize w4.heap.size = b14 at *
         have hc3 := HB5.out.c.2.2.2.1
         rcases hr with ⟨rfl, hP', hz, hTn⟩ | ⟨rfl, hz0, rfl, rfl, ht⟩
         ·have HP' := Lib.hid hP'
          have HTn : Hid (tw = true → ∀ y, y ∈ H ++ [((p1, Vp.one (sp % 128) sz) : Hd)] → TwE y) := Lib.hid (fun e y hy => (List.mem_append.1 hy).elim (HTwo.out e y) (fun h => by rw [List.mem_singleton.1 h]; exact hTn (HTC.out e)))
          clear hTn
          have HPR := Lib.hid (fun w' (hb : Below w5.heap.size w5 w') => Pt.row_pt ((hb.block b14 (Array.getElem?_eq_some_iff.1 H14.out).1).trans H14.out))
          have HC3 := Lib.hid (fun w' (hb : Below w5.heap.size w5 w') => (HB5.out.below hb).c.2.2.2.1)
          clear hP' HFU
          go_upto_region 22 with fail
          clear hc3
          go_cut [144] (fun v wx => v = .bool false ∧ Hid (Below w5.heap.size w5 wx))
          case first =>
           refine wp_region_quiet (C := fun w' => Below w5.heap.size w5 w') (by kernel_rfl) (by kernel_rfl) ⟨rfl, rfl, rfl, Nat.le_refl _, fun _ _ => rfl⟩ ?_
           rcases hz with ⟨rfl, rfl⟩ | ⟨hz0, hpA⟩
           ·have HE := Lib.hid (fun W => Pt.eq_pt Pt.hole Pt.hole W)
            rw [show Pt.eqP Pt.hole Pt.hole = true by decide] at HE
            have HZ : Hid ((((0 : Nat) : Int) == 0) = true) := Lib.hid (by decide)
            refine q_move _ rfl rfl ?_
            simp only [Act.put, aI, aS, aZ]
            refine q_val (.bool false) rfl (fun w' hw' => by go_simp) ?_
            simp only [Act.put, aI, aS, aZ]
            refine q_move _ rfl rfl ?_
            simp only [Act.put, aI, aS, aZ]
            refine q_loadB 50 (.tmp 14) rfl (by kernel_rfl) b14 0 rfl (Pt.pV Pt.hole) _ (fun w' hw' => HPR.out w' hw') Pt.undP rfl (Pt.sizeP Pt.hole) ?_
            simp only [Act.put, aI, aS, aZ]
            refine q_call 38 _ (.agg (Pt.pV Pt.hole).toArray) (by kernel_rfl) (fun w' => by go_simp) (fun w' hw' => (Pt.refhole_any w').mono fun e w'' ⟨he, hb⟩ => ⟨he, hw'.trans (hb.mono hw'.size)⟩) ?_
            simp only [Act.put, aI, aS, aZ]
            refine q_eqlV 50 _ (.tmp 137) (.tmp 138) rfl (by kernel_rfl) ((Pt.pV Pt.hole).toArray) ((Pt.pV Pt.hole).toArray) rfl rfl true Pt.guardP (fun w' _ => HE.out w') ?_
            simp only [Act.put, aI, aS, aZ]
            refine q_val (.pointer (some ⟨b8, 3, none⟩)) (by kernel_rfl) (fun w' hw' => by go_simp) ?_
            simp only [Act.put, aI, aS, aZ]
            refine q_val (.int .u8 ((0 : Nat) : Int)) (by kernel_rfl) (fun w' hw' => by have hc3 := HC3.out w' hw'; go_simp) ?_
            simp only [Act.put, aI, aS, aZ]
            refine q_val (.bool true) (by kernel_rfl) (fun w' hw' => by have hzz := HZ.out; go_simp) ?_
            simp only [Act.put, aI, aS, aZ]
            refine q_val (.bool false) (by kernel_rfl) (fun w' hw' => by go_simp) ?_
            simp only [Act.put, aI, aS, aZ]
            refine q_val (.bool false) rfl (fun w' hw' => by go_simp) ?_
            simp only [Act.put, aI, aS, aZ]
            refine wpQuiet_nil ?_
            intro wz hwz
            go_wp2_with fail
            go_meet
            exact ⟨rfl, Lib.hid hwz⟩
           ·have HE := Lib.hid (fun W => Pt.eq_pt p1 Pt.hole W)
            rw [show Pt.eqP p1 Pt.hole = false by unfold Pt.eqP; rw [show (p1.A == Pt.hole.A) = false from beq_eq_false_iff_ne.2 hpA]; rfl] at HE
            have HZ : Hid (((sz : Int) == 0) = false) := Lib.hid (beq_eq_false_iff_ne.2 (by omega))
            refine q_move _ rfl rfl ?_
            simp only [Act.put, aI, aS, aZ]
            refine q_val (.bool false) rfl (fun w' hw' => by go_simp) ?_
            simp only [Act.put, aI, aS, aZ]
            refine q_move _ rfl rfl ?_
            simp only [Act.put, aI, aS, aZ]
            refine q_loadB 50 (.tmp 14) rfl (by kernel_rfl) b14 0 rfl (Pt.pV p1) _ (fun w' hw' => HPR.out w' hw') Pt.undP rfl (Pt.sizeP p1) ?_
            simp only [Act.put, aI, aS, aZ]
            refine q_call 38 _ (.agg (Pt.pV Pt.hole).toArray) (by kernel_rfl) (fun w' => by go_simp) (fun w' hw' => (Pt.refhole_any w').mono fun e w'' ⟨he, hb⟩ => ⟨he, hw'.trans (hb.mono hw'.size)⟩) ?_
            simp only [Act.put, aI, aS, aZ]
            refine q_eqlV 50 _ (.tmp 137) (.tmp 138) rfl (by kernel_rfl) ((Pt.pV p1).toArray) ((Pt.pV Pt.hole).toArray) rfl rfl false Pt.guardP (fun w' _ => HE.out w') ?_
            simp only [Act.put, aI, aS, aZ]
            refine q_val (.pointer (some ⟨b8, 3, none⟩)) (by kernel_rfl) (fun w' hw' => by go_simp) ?_
            simp only [Act.put, aI, aS, aZ]
            refine q_val (.int .u8 (sz : Int)) (by kernel_rfl) (fun w' hw' => by have hc3 := HC3.out w' hw'; go_simp) ?_
            simp only [Act.put, aI, aS, aZ]
            refine q_val (.bool false) (by kernel_rfl) (fun w' hw' => by have hzz := HZ.out; go_simp) ?_
            simp only [Act.put, aI, aS, aZ]
            refine q_val (.bool false) (by kernel_rfl) (fun w' hw' => by go_simp) ?_
            simp only [Act.put, aI, aS, aZ]
            refine q_val (.bool false) rfl (fun w' hw' => by go_simp) ?_
            simp only [Act.put, aI, aS, aZ]
            refine wpQuiet_nil ?_
            intro wz hwz
            go_wp2_with fail
            go_meet
            exact ⟨rfl, Lib.hid hwz⟩
          case rest =>
           obtain ⟨rfl, hbw⟩ := hcut
           have HM6 := Lib.hid (HM5.out.below hbw.out)
           have HQ9 := Lib.hid (row_all (HB5.out.below hbw.out).h9)
           have HQP := Lib.hid (HPR.out wc hbw.out)
           have hb7 : Below wc.heap.size wc (wc.alloc (.cells (hV (p1, Vp.one (sp % 128) sz)).toArray 52)) := (Below.refl _ _).alloc (Nat.le_refl _) _
           have HM7 := Lib.hid (HM6.out.below hb7)
           have hlen : H.length + [((p1, Vp.one (sp % 128) sz) : Hd)].length ≤ 1000000 := by rw [List.length_singleton]; omega
           have hbase : w.heap.size ≤ (wc.alloc (.cells (hV (p1, Vp.one (sp % 128) sz)).toArray 52)).heap.size := HM7.out.size
           clear HM5 HB5 HPR HC3 hb7 hbw H14 HM6
           go_upto_region 31 with (first
            | (refine wpList_load_mid rfl 50 (.tmp 14) rfl b14 0 rfl (Pt.pV p1) _ (by exact HQP.out) Pt.undP rfl (Pt.sizeP p1) ?_; simp only [Act.put, aI, aS, aZ])
            | (refine wpList_load_mid rfl 45 (.tmp 9) rfl b9 0 rfl (bl (Vp.one (sp % 128) sz)) _ (by exact HQ9.out) undB rfl (size_bl _) ?_; simp only [Act.put, aI, aS, aZ])
            | (refine wpList_build2 rfl 52 0 1 (.tmp 147) (.tmp 148) rfl _ rfl (.agg (Pt.pV p1).toArray) (.agg (bl (Vp.one (sp % 128) sz)).toArray) rfl rfl (hV (p1, Vp.one (sp % 128) sz)).toArray (built_hd _ _) ?_; simp only [Act.put, aI, aS, aZ])
            | (refine wpList_sliceH rfl (p1, Vp.one (sp % 128) sz) (.tmp 149) rfl rfl ?_; simp only [Act.put, aI, aS, aZ])
            | (refine wpList_appH rfl (.tmp 146) (.tmp 150) rfl w.heap.size _ H [(p1, Vp.one (sp % 128) sz)] rfl (by exact HM7.out.own) ⟨wc.heap.size, 0, none⟩ 1 1 rfl rfl (by exact news_one _ _ _) (by exact hlen) (by exact hbase) ?_; intro v8 w8 ho hg hl; have HM8 := Lib.hid (HM7.out.app hVw ho hg hl); clear ho hg hl; obtain ⟨a8, c8, rfl⟩ := HM8.out.own.shape))
           have HPn := HP'
           have HMn := HM8
           have hXn : X'.m ≤ 2 * (j + 1) := by omega
           have hHn : (H ++ [((p1, Vp.one (sp % 128) sz) : Hd)]).length ≤ j + 1 := by rw [List.length_append, List.length_singleton]; omega
           clear HP' HM8 HM7 HQ9 HQP hlen hbase HP hXm hHl hX' hz hm
           obtain ⟨HN, hHN⟩ : ∃ HN, HN = H ++ [((p1, Vp.one (sp % 128) sz) : Hd)] := ⟨_, rfl⟩
           have hLn : H.length + 1 = HN.length := by rw [hHN, List.length_append, List.length_singleton]
           rw [← hHN] at HPn HMn hHn HTn
           clear hHN
           rw [hLn]
           clear hLn
           generalize w8 = wn at HMn ⊢
           obtain ⟨sa, sd, ca, cc, pa, cap, ao, kd, hx⟩ := HasVol.open' HMn.out.t.v
           have HU := Lib.hid (Sp.refUsed_any 28 184 128 ao 256 kd _ wn hx.st)
           rw [HPn.out.count] at HU
           have d6 := hx.c6
           have d7 := hx.c7
           have d8 := hx.c8
           have d9 := hx.c9
           have HCO := Lib.hid (fun w' (hb : Below wn.heap.size wn w') => lcount_any ((HMn.out.below hb).own) (by omega))
           clear hx
           generalize cntH HN = z at HU HCO
           go_wp2_with fail
           refine HU.out.mono ?_
           rintro _ wu ⟨rfl, hbu⟩
           have HCO2 := Lib.hid (HCO.out wu hbu)
           have HEN := Lib.hid (fun w' (hb : Below wu.heap.size wu w') => HMn.out.below (hbu.trans (hb.mono hbu.size)))
           clear d6 d7 d8 d9 HU HCO hbu
           dsimp only
           go_wp2_with fail
           refine HCO2.out.mono ?_
           rintro _ wv ⟨rfl, hbv⟩
           have HEND := Lib.hid (HEN.out wv hbv)
           clear HCO2 HEN hbv
           dsimp only
           go_wp2_with fail
           go_roundg (ln - (j + 1))
           case measure => omega
           case rel => exact ⟨j + 1, by omega, by omega, by go_num, Lib.hid ⟨_, _, _, HPn.out, hXn, hHn, HTn.out, HEND.out⟩⟩
         ·obtain rfl := HFU.out ht
          have hnz : ((sz : Int) != 0) = true := by simp; omega
          have HR := Lib.hid (show AtP w V tw (j + 1) _ w5 from ⟨X', f', H, HP.out, by omega, by omega, HTwo.out, HM5.out⟩)
          clear HM5 HB5 HFU ht HP
          go_wp2_with fail
          go_roundg (ln - (j + 1))
          case measure => omega
          case rel => exact ⟨j + 1, by omega, by omega, by go_num, HR⟩
       ·rw [decide_eq_false hadd]
        by_cases hk : sk % 4 = 2
        ·skip
         as_aux_lemma =>
          have hm' := hm (fun h => hadd (.inr h))
          obtain ⟨x, hq⟩ : ∃ x, H[m]? = some x := ⟨_, List.getElem?_eq_getElem hm'⟩
          obtain ⟨bH, rfl, hbH⟩ := HM2.out.own.at (by omega)
          obtain ⟨p1, E1, X', f', hX', hSW, hr⟩ := py_swap HP.out (by omega) hq hc (Nat.mod_lt sp (show 0 < 128 by omega)) s3
          have hbV : V.b ≠ bH := (HM2.out.off bH rfl).1
          have HOWN := Lib.hid (fun w' (hg : w2.grownBy w' (some V.b)) => own_kept HM2.out.own hg (fun g e e2 => hbV (by rw [show V.b = g from Option.some.inj e2, show bH = g from Option.some.inj e])))
          have HPB := Lib.hid (fun w' (hg : w2.grownBy w' (some V.b)) => hd_row (OwnH.ptr (HOWN.out w' hg) hq).1)
          have HB9 := Lib.hid (fun w' (hg : w2.grownBy w' (some V.b)) => HB2.out.grown hg (fun b e => by
           injection e with e
           have := HB2.out.n8
           have := HB2.out.n9
           constructor <;> omega))
          have HDB := Lib.hid (fun w' (hg : w2.grownBy w' (some V.b)) => row_all (HB9.out w' hg).h9)
          have HKK := Lib.hid (fun w' (hg : w2.grownBy w' (some V.b)) => HKP.out w' (Dk.only_trans HM2.out.t.g hg))
          have HSW := Lib.hid (fun w' hv hk => hSW w' V hk hv)
          have HSTART := Lib.hid (fun u => Wr.start (X' := X') (M' := vM) (f' := f') (T := 50) (old := (Pt.pV Pt.pz).toArray) (new := (Pt.pV p1).toArray) (u := u) HM2.out.t.v)
          have hm0 : (0 : Int) ≤ (m : Int) := by omega
          have hm1 : (m : Int) < (H.length : Int) := by omega
          have hk0 := HB2.out.c.1
          have hk1 : (sk : Int) % 4 = 2 := by omega
          have HXM := Lib.hid (List.mem_of_getElem? hq)
          have HR := Lib.hid hr
          clear hq hSW hr
          go_upto_region 26 with fail
          clear hk0 hk1
          go_cut [16, 17] (fun v16 v17 wx => ∃ b16 : Nat, v16 = .pointer (some ⟨b16, 0, none⟩) ∧ v17 = .int .i64 E1 ∧ Hid (Mw w V X' f' H (.slice (some ⟨bH, 0, none⟩) H.length cH) wx ∧ Bs9 w ⟨sk, si, sp, sz, st⟩ b8 b9 wx ∧ wx.rangeAt b16 0 (Pt.pV p1)))
          case first =>
           refine QuietTail2.regionInv (n := 15) (Inv := SgInv _ _ _ _ _ _ _ _ _ _ _ _ _ _ _ _ _ _ _ _ _ _ _ _ _ _ _ _ _ _ _ _ _ _ _ _ _ _ _ _ _ _ _ _ _ _ _ _ _ _ _ _ _ _ _ _ _ _ _ _ _ _ _ _ _ _ _ _ _ _ _ _ _ _ _ _ _ _ _ _ _ _ _ _ _ _ _ _ _ _ _ _ _ _ _ _ _ _ _ _ _ _ _ _ _ _ _ _ _ _ _ _ _ _ _ _ _ _ _ _ _ _ _ _ _ _ _ _ _ _ _ _ _ _ _ _ _ _ _ _ _ _ _ _ _ _ _ _ _ _ _ _ _ _ _ _ _ _ _ _ _ _ _ _ _ _ _ _ _ _ _ _ _ _ _ _ _ w2 V X X' f f' (some ⟨lb, off, none⟩) ln lc bH H.length cH m b8 b9 (sp % 128) sz c x.1 p1 E1) (by kernel_rfl) (by decide) (by kernel_rfl) ⟨_, _, _, _, _, _, _, _, _, _, _, _, _, _, rfl, ⟨by simp, by simp, by simp, by simp, by simp, by simp, by simp, by simp, by simp, by simp, by simp, by simp, by simp, ?_⟩⟩ ?step ?fin
           exact HSTART.out _
           case step =>
            rintro i o hi ho L a' w' ⟨u0, u1, u2, u3, u4, u5, u6, u7, u8, u9, u10, u11, u12, u14, rfl, TT⟩ hL hpre
            match i, hi with
            | 0, _ =>
             simp at ho
             subst ho
             go_simp
             exact ⟨_, u1, u2, u3, u4, u5, u6, u7, u8, u9, u10, u11, u12, u14, rfl, TT.set0⟩
            | 1, _ =>
             simp at ho
             subst ho
             go_simp
             exact ⟨u0, _, u2, u3, u4, u5, u6, u7, u8, u9, u10, u11, u12, u14, rfl, TT.set1⟩
            | 2, _ =>
             simp at ho
             subst ho
             go_simp
             exact ⟨u0, u1, _, u3, u4, u5, u6, u7, u8, u9, u10, u11, u12, u14, rfl, TT.set2⟩
            | 3, _ =>
             simp at ho
             subst ho
             obtain rfl := TT.fa1 (hpre 1 (by kernel_rfl))
             obtain rfl := TT.fa2 (hpre 2 (by kernel_rfl))
             go_simp
             exact ⟨u0, _, _, _, u4, u5, u6, u7, u8, u9, u10, u11, u12, u14, rfl, TT.set3⟩
            | 4, _ =>
             simp at ho
             subst ho
             obtain rfl := TT.fa3 (hpre 3 (by kernel_rfl))
             go_simp
             exact ⟨u0, u1, u2, _, _, u5, u6, u7, u8, u9, u10, u11, u12, u14, rfl, TT.set4⟩
            | 5, _ =>
             simp at ho
             subst ho
             obtain rfl := TT.fa4 (hpre 4 (by kernel_rfl))
             refine wp_load_mid 50 (.tmp 162) rfl bH (m * 162) rfl (Pt.pV x.1) _ (HPB.out w' TT.wd.g) Pt.undP rfl (Pt.sizeP x.1) ?_
             simp only [Act.put, aI, aS, aZ]
             exact ⟨u0, u1, u2, u3, _, _, u6, u7, u8, u9, u10, u11, u12, u14, rfl, TT.set5⟩
            | 6, _ =>
             simp at ho
             subst ho
             refine wp_load_mid 45 (.tmp 9) rfl b9 0 rfl (bl (Vp.one (sp % 128) sz)) _ (HDB.out w' TT.wd.g) undB rfl (size_bl _) ?_
             simp only [Act.put, aI, aS, aZ]
             exact ⟨u0, u1, u2, u3, u4, u5, _, u7, u8, u9, u10, u11, u12, u14, rfl, TT.set6⟩
            | 7, _ =>
             simp at ho
             subst ho
             go_simp
             exact ⟨u0, u1, u2, u3, u4, u5, u6, _, u8, u9, u10, u11, u12, u14, rfl, TT.set7⟩
            | 8, _ =>
             simp at ho
             subst ho
             obtain rfl := TT.fa0 (hpre 0 (by kernel_rfl))
             obtain rfl := TT.fa5 (hpre 5 (by kernel_rfl))
             obtain rfl := TT.fa6 (hpre 6 (by kernel_rfl))
             obtain rfl := TT.fa7 (hpre 7 (by kernel_rfl))
             go_simp
             refine (HSW.out w' (TT.wd.p0 hL) (HKK.out w' TT.wd.g)).mono ?_
             rintro _ w'' ⟨rfl, hT⟩
             exact ⟨_, u1, u2, u3, u4, _, _, _, _, u9, u10, u11, u12, u14, rfl, TT.set8 (TT.wd.call hL hT)⟩
            | 9, _ =>
             simp at ho
             subst ho
             obtain rfl := TT.fa8 (hpre 8 (by kernel_rfl))
             go_simp
             exact ⟨u0, u1, u2, u3, u4, u5, u6, u7, _, _, u10, u11, u12, u14, rfl, TT.set9⟩
            | 10, _ =>
             simp at ho
             subst ho
             obtain rfl := TT.fa9 (hpre 9 (by kernel_rfl))
             go_simp
             exact ⟨u0, u1, u2, u3, u4, u5, u6, u7, u8, _, _, u11, u12, u14, rfl, TT.set10⟩
            | 11, _ =>
             simp at ho
             subst ho
             obtain rfl := TT.fa9 (hpre 9 (by kernel_rfl))
             go_simp
             exact ⟨u0, u1, u2, u3, u4, u5, u6, u7, u8, _, u10, _, u12, u14, rfl, TT.set11⟩
            | 12, _ =>
             simp at ho
             subst ho
             go_simp
             exact ⟨u0, u1, u2, u3, u4, u5, u6, u7, u8, u9, u10, u11, _, u14, rfl, TT.set12 (TT.wd.alloc hL (by omega))⟩
            | 13, _ =>
             simp at ho
             subst ho
             have hw := TT.wd
             obtain ⟨bk, e1, h1, h2, h3⟩ := hw.al (hpre 12 (by kernel_rfl))
             obtain rfl := e1
             obtain rfl := TT.fa10 (hpre 10 (by kernel_rfl))
             rw [hpre 8 (by kernel_rfl), hpre 12 (by kernel_rfl), hL] at hw
             refine wp_store_row 50 (.tmp 16) (.tmp 167) rfl bk (Pt.pV p1).toArray rfl rfl 50 _ (hw.row rfl rfl) (Pt.sizeP' _) rfl (Pt.pV_all _) ?_
             simp only [Act.put]
             refine ⟨u0, u1, u2, u3, u4, u5, u6, u7, u8, u9, _, u11, _, u14, rfl, TT.set13 ?_⟩
             rw [hpre 8 (by kernel_rfl), hpre 12 (by kernel_rfl)]
             exact hw.store (by omega) (by decide) (by decide) (.inl rfl)
            | 14, _ =>
             simp at ho
             subst ho
             obtain rfl := TT.fa11 (hpre 11 (by kernel_rfl))
             go_simp
             exact ⟨u0, u1, u2, u3, u4, u5, u6, u7, u8, u9, u10, _, u12, _, rfl, TT.set14⟩
            | i + 15, h => omega
           case fin =>
            rintro L a' w' hall ⟨u0, u1, u2, u3, u4, u5, u6, u7, u8, u9, u10, u11, u12, u14, rfl, TT⟩
            have HWD := Lib.hid (by have := TT.wd; rwa [hall 8 (by omega), hall 12 (by omega), hall 13 (by omega)] at this : Wr w2 V 332 X vM X' vM 28 184 128 256 f f' 50 (Pt.pV Pt.pz).toArray (Pt.pV p1).toArray true true true u12 w')
            obtain ⟨b16, e1, h1, h2, h3⟩ := HWD.out.al rfl
            obtain rfl := e1
            obtain rfl := TT.fa14 (hall 14 (by omega))
            have h3p : w'.heap[b16]? = some (.cells (Pt.pV p1).toArray 50 (0, 0)) := h3
            have HALL := Lib.hid (And.intro (HM2.out.call (⟨HWD.out.p1 rfl, HWD.out.g, HWD.out.l⟩ : Tv w2 V 332 X' vM 28 184 128 256 f' w')) (And.intro (HB9.out w' HWD.out.g) (Pt.row_pt h3p)))
            clear TT hall h1 h2 h3 h3p HWD HPB HDB HKK HSW HSTART HOWN HB9 HM2 HB2 HXM HR HFU HP
            refine wpList_nil ?_
            go_wp2_with fail
            go_meet
            exact ⟨_, rfl, rfl, HALL⟩
          case rest =>
           clear HPB HDB HKK HSW HSTART HOWN HB9 HM2 HB2
           obtain ⟨b16, rfl, rfl, hC⟩ := hcut
           have HM4 := Lib.hid hC.out.1
           have HB4 := Lib.hid hC.out.2.1
           have HQP := Lib.hid hC.out.2.2
           have hc3 := hC.out.2.1.c.2.2.2.1
           clear hC
           rcases HR.out with ⟨rfl, hP', hTn⟩ | ⟨rfl, hz0, rfl, rfl, ht⟩
           ·have HPn := Lib.hid hP'
            have HTn : Hid (tw = true → ∀ y, y ∈ H.set m ((p1, Vp.one (sp % 128) sz) : Hd) → TwE y) := Lib.hid (fun e y hy => (List.mem_or_eq_of_mem_set hy).elim (HTwo.out e y) (fun h => by rw [h]; exact hTn (HTC.out e) (HTwo.out e x HXM.out)))
            clear hTn
            have HQ9 := Lib.hid (row_all HB4.out.h9)
            have HTH := Lib.hid (hd_there HM4.out.own hm')
            have HMn := Lib.hid (HM4.out.put hVw hm' (p1, Vp.one (sp % 128) sz))
            clear hP' HR HFU
            go_upto_region 30 with fail
            go_upto_region 31 with (first
             | (refine wpList_load_mid rfl 50 (.tmp 16) rfl b16 0 rfl (Pt.pV p1) _ (by exact HQP.out) Pt.undP rfl (Pt.sizeP p1) ?_; simp only [Act.put, aI, aS, aZ])
             | (refine wpList_load_mid rfl 45 (.tmp 9) rfl b9 0 rfl (bl (Vp.one (sp % 128) sz)) _ (by exact HQ9.out) undB rfl (size_bl _) ?_; simp only [Act.put, aI, aS, aZ])
             | (refine wpList_build2 rfl 52 0 1 (.tmp 184) (.tmp 185) rfl _ rfl (.agg (Pt.pV p1).toArray) (.agg (bl (Vp.one (sp % 128) sz)).toArray) rfl rfl (hV (p1, Vp.one (sp % 128) sz)).toArray (built_hd _ _) ?_; simp only [Act.put, aI, aS, aZ])
             | (refine wpList_storeH rfl (.tmp 187) (.tmp 186) rfl _ rfl bH (m * 162) (p1, Vp.one (sp % 128) sz) rfl rfl (by exact HTH.out) ?_; rintro wn hwn; rw [← hwn] at HMn; clear hwn; simp only [Act.put]))
            have hXn : X'.m ≤ 2 * (j + 1) := by omega
            have hHn : (H.set m ((p1, Vp.one (sp % 128) sz) : Hd)).length ≤ j + 1 := by rw [List.length_set]; omega
            clear HQ9 HQP HTH HM4 HB4 hc3 HXM HP hXm hHl hX' hm0 hm1 hm' hm
            generalize H.set m ((p1, Vp.one (sp % 128) sz) : Hd) = HN at HPn HMn hHn HTn
            obtain ⟨sa, sd, ca, cc, pa, cap, ao, kd, hx⟩ := HasVol.open' HMn.out.t.v
            have HU := Lib.hid (Sp.refUsed_any 28 184 128 ao 256 kd _ wn hx.st)
            rw [HPn.out.count] at HU
            have d6 := hx.c6
            have d7 := hx.c7
            have d8 := hx.c8
            have d9 := hx.c9
            have HCO := Lib.hid (fun w' (hb : Below wn.heap.size wn w') => lcount_any ((HMn.out.below hb).own) (by omega))
            clear hx
            generalize cntH HN = z at HU HCO
            go_wp2_with fail
            refine HU.out.mono ?_
            rintro _ wu ⟨rfl, hbu⟩
            have HCO2 := Lib.hid (HCO.out wu hbu)
            have HEN := Lib.hid (fun w' (hb : Below wu.heap.size wu w') => HMn.out.below (hbu.trans (hb.mono hbu.size)))
            clear d6 d7 d8 d9 HU HCO hbu
            dsimp only
            go_wp2_with fail
            refine HCO2.out.mono ?_
            rintro _ wv ⟨rfl, hbv⟩
            have HEND := Lib.hid (HEN.out wv hbv)
            clear HCO2 HEN hbv
            dsimp only
            go_wp2_with fail
            go_roundg (ln - (j + 1))
            case measure => omega
            case rel => exact ⟨j + 1, by omega, by omega, by go_num, Lib.hid ⟨_, _, _, HPn.out, hXn, hHn, HTn.out, HEND.out⟩⟩
           ·obtain rfl := HFU.out ht
            have hnz : ((sz : Int) != 0) = true := by simp; omega
            have HR2 := Lib.hid (show AtP w V tw (j + 1) _ wc from ⟨X', f', H, HP.out, by omega, by omega, HTwo.out, HM4.out⟩)
            clear HM4 HB4 HFU ht HP HR HQP
            go_wp2_with fail
            go_roundg (ln - (j + 1))
            case measure => omega
            case rel => exact ⟨j + 1, by omega, by omega, by go_num, HR2⟩
        ·skip
         as_aux_lemma =>
          have hm' := hm (fun h => hadd (.inr h))
          obtain ⟨x, hq⟩ : ∃ x, H[m]? = some x := ⟨_, List.getElem?_eq_getElem hm'⟩
          obtain ⟨bH, rfl, hbH⟩ := HM2.out.own.at (by omega)
          have hxm : x ∈ H := List.mem_of_getElem? hq
          obtain ⟨iA, iB, _⟩ := el_i64 (HP.out.el x hxm)
          obtain ⟨d1, d2⟩ := HP.out.drop hq
          have HD := Lib.hid (drop_ok HM2.out.t.v tabM i64_184 (by omega) x.1 iA iB (HP.out.mine hxm) d1 rfl)
          have HQP := Lib.hid (hd_row (OwnH.ptr HM2.out.own hq).1)
          have HPd := Lib.hid d2
          generalize Sp.drF 28 184 128 256 f x.1 = f' at HD HPd
          have hm0 : (0 : Int) ≤ (m : Int) := by omega
          have hm1 : (m : Int) < (H.length : Int) := by omega
          have hk0 := HB2.out.c.1
          have hk1 : ((sk : Int) % 4 == 2) = false := beq_eq_false_iff_ne.2 (by omega)
          have hk2 : ¬ (sk : Int) % 4 = 2 := by omega
          clear hq d1 d2 iA iB HP HFU hxm
          go_upto_region 16 with fail
          clear hk0 hk1 hk2
          go_cut [95] (fun v wx => v = .bool false ∧ Hid (∃ f2, Py X f2 (H.take m ++ H.drop (m + 1)) ∧ Mw w V X f2 H (.slice (some ⟨bH, 0, none⟩) H.length cH) wx))
          case first =>
           go_wp2_with (refine wpList_load_mid rfl 50 (.tmp 79) rfl bH (m * 162) rfl (Pt.pV x.1) _ (by exact HQP.out) Pt.undP rfl (Pt.sizeP x.1) ?_; simp only [Act.put, aI, aS, aZ])
           refine HD.out.mono ?_
           rintro _ w4 ⟨rfl, hT4⟩
           have HM4 := Lib.hid (HM2.out.call hT4)
           have HB4 := Lib.hid (HB2.out.grown hT4.g (fun b e => by
            injection e with e
            have := HB2.out.n8
            have := HB2.out.n9
            constructor <;> omega))
           have hc2 := HB4.out.c.2.2.1
           clear hT4 HD HQP HM2 HB2
           dsimp only
           by_cases hsw : sp % 2 = 0
           ·have hs1 : ((sp : Int) % 2 == 0) = true := beq_iff_eq.2 (by omega)
            have hs2 : (sp : Int) % 2 = 0 := by omega
            have HS := Lib.hid (sweep_v HM4.out.t.v (by omega) i64_184)
            obtain ⟨e1, e2⟩ := HPd.out.sweep
            rw [e1] at HS
            go_wp2_with fail
            refine HS.out.mono ?_
            rintro _ w5 ⟨rfl, hT5⟩
            have HM5 := Lib.hid (HM4.out.call hT5)
            clear HS hc2 hT5
            dsimp only
            go_wp2_with fail
            go_meet
            exact ⟨rfl, Lib.hid ⟨_, e2, HM5.out⟩⟩
           ·have hs1 : ((sp : Int) % 2 == 0) = false := beq_eq_false_iff_ne.2 (by omega)
            have hs2 : ¬ (sp : Int) % 2 = 0 := by omega
            go_wp2_with fail
            go_meet
            exact ⟨rfl, Lib.hid ⟨_, HPd.out, HM4.out⟩⟩
          case rest =>
           obtain ⟨rfl, hR⟩ := hcut
           obtain ⟨f2, hP2, hM2⟩ := hR.out
           have HP2 := Lib.hid hP2
           have HM4 := Lib.hid hM2
           clear hP2 hM2 hR HM2 HB2 HD HQP HPd
           go_upto_region 18 with fail
           have HC := Lib.hid (fun w' (hb : Below wc.heap.size wc w') => hd_cells (HM4.out.below hb).own)
           have hroom := HM4.out.own.room.1
           have hk1 : (m : Int) + 1 ≤ (H.length : Int) := by omega
           have hkc : m ≤ cH := by omega
           have hkn : m + 1 ≤ H.length := by omega
           have hkt : ((m : Int) + 1).toNat = m + 1 := by omega
           have hkp : (0 : Int) ≤ (m : Int) + 1 := by omega
           have hkk : (m : Int) ≤ (m : Int) + 1 := by omega
           have hkw : IntKind.i64.wrap ((m : Int) + 1) = (m : Int) + 1 := by rw [IntKind.wrap_i64]; omega
           have HH : Hid ((H.take m).length = m ∧ (H.drop (m + 1)).length = H.length - (m + 1)) := Lib.hid ⟨by rw [List.length_take]; omega, by rw [List.length_drop]⟩
           obtain ⟨H2, hH2⟩ : ∃ H2, H2 = H.take m ++ H.drop (m + 1) := ⟨_, rfl⟩
           have hH2l : H2.length + 1 = H.length := by rw [hH2, List.length_append, List.length_take, List.length_drop]; omega
           rw [← hH2] at HP2
           have HTn : Hid (tw = true → ∀ y, y ∈ H2 → TwE y) := Lib.hid (fun e y hy => HTwo.out e y (by
            rw [hH2] at hy
            rcases List.mem_append.1 hy with h | h
            ·exact List.mem_of_mem_take h
            ·exact List.mem_of_mem_drop h))
           have HH2 := Lib.hid hH2
           clear hH2
           obtain ⟨A, hA, HNA⟩ : ∃ A, (if cH = m + 1 then some (⟨bH, 0, none⟩ : Addr) else some ⟨bH, (m + 1) * 162, none⟩) = some A ∧ Hid (∀ w', Below wc.heap.size wc w' → ∀ j u, (hcs (H.drop (m + 1)))[j]? = some u → w'.cell? (A.add j) = some u) := by
            by_cases hcap : cH = m + 1
            ·refine ⟨_, if_pos hcap, Lib.hid fun w' _ j u hu => ?_⟩
             rw [List.drop_eq_nil_of_le (by omega)] at hu
             simp [hcs] at hu
            ·refine ⟨_, if_neg hcap, Lib.hid fun w' hw' j u hu => ?_⟩
             rw [Addr.add_mid]
             exact HC.out _ hw' _ u ((hcs_drop hkn j).symm.trans hu)
           go_region_law (first
            | (refine step_apqH rfl (.tmp 97) (.tmp 100) rfl wc.heap.size (.slice (some ⟨wc.heap.size, 0, none⟩) 0 0) [] (H.take m) (H.take m) m (by rfl) (by exact own_none _) ⟨bH, 0, none⟩ m cH (by rfl) (by exact HH.out.1.symm) rfl (by exact HH.out.1.symm) (by exact fun j u hu => by rw [Addr.add_mid, Nat.zero_add]; exact HC.out _ (drew_alloc _ _) j u (hcs_take hu)) (by rw [HH.out.1]; simp; omega) (by simp) ?_; intro a6 c6 w6 hO6 hG6; have HB6 := Lib.hid ((drew_alloc wc (.cells #[] 52)).grown hG6 (by simp) (by intro b hb; injection hb with hb; simp at hb; omega)))
            | (refine step_apqH rfl (.tmp 101) (.tmp 105) rfl wc.heap.size (.slice a6 m c6) (H.take m) (H.drop (m + 1)) H2 H2.length (by rfl) (by exact hO6) A (H.length - (m + 1)) (cH - (m + 1)) (by rfl) (by exact HH.out.2.symm) (by exact HH2.out.symm) rfl (by exact HNA.out _ HB6.out) (by rw [HH.out.1, HH.out.2]; omega) (by exact HB6.out.size) ?_; intro a7 c7 w7 hO7 hG7))
           all_goals (
            have HB7 := HB6.out.grown hG7 HB6.out.size (fun b hb => (hO6.lt b hb).1)
            have HMn := Lib.hid (HM4.out.newH HB7 hO7)
            have HPn := HP2
            have hXn : X.m ≤ 2 * (j + 1) := by omega
            have hHn : H2.length ≤ j + 1 := by omega
            clear HB7 hO7 hG7 HB6 hO6 hG6 HP2 HM4 HC hA HNA HH HH2 hroom hkc hkn hkt hkp hkk hkw hm0 hm1 hk1 hm' hm hbH hH2l
            generalize H2 = HN at HPn HMn hHn HTn ⊢
            generalize w7 = wn at HMn ⊢
            obtain ⟨sa, sd, ca, cc, pa, cap, ao, kd, hx⟩ := HasVol.open' HMn.out.t.v
            have HU := Lib.hid (Sp.refUsed_any 28 184 128 ao 256 kd _ wn hx.st)
            rw [HPn.out.count] at HU
            have d6 := hx.c6
            have d7 := hx.c7
            have d8 := hx.c8
            have d9 := hx.c9
            have HCO := Lib.hid (fun w' (hb : Below wn.heap.size wn w') => lcount_any ((HMn.out.below hb).own) (by omega))
            clear hx
            generalize cntH HN = z at HU HCO
            go_wp2_with fail
            refine HU.out.mono ?_
            rintro _ wu ⟨rfl, hbu⟩
            have HCO2 := Lib.hid (HCO.out wu hbu)
            have HEN := Lib.hid (fun w' (hb : Below wu.heap.size wu w') => HMn.out.below (hbu.trans (hb.mono hbu.size)))
            clear d6 d7 d8 d9 HU HCO hbu
            dsimp only
            go_wp2_with fail
            refine HCO2.out.mono ?_
            rintro _ wv ⟨rfl, hbv⟩
            have HEND := Lib.hid (HEN.out wv hbv)
            clear HCO2 HEN hbv
            dsimp only
            go_wp2_with fail
            go_roundg (ln - (j + 1))
            case measure => omega
            case rel => exact ⟨j + 1, by omega, by omega, by go_num, Lib.hid ⟨_, _, _, HPn.out, hXn, hHn, HTn.out, HEND.out⟩⟩)
  ·obtain rfl : j = ln := by omega
   have HB := Lib.hid hR.out
   clear hR
   go_wp2_with fail
   go_ret2
   exact ⟨_, rfl, HB.out⟩
end
end Vl
end Go.Proofs.YtonhedefjmkpcaaGreatDoor
