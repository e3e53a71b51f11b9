/- ptr: what a node's bytes are; a region that puts one pointer. -/
import Derived.Test.YtllejfnmbpjhaaaDoorPtThree
import Derived.Test.YtllejfnmbpjhaaaDoorPtRefPut
import Derived.Test.YtllejfnmbpjhaaaDoorPtMakes
namespace Go.Proofs.YtllejfnmbpjhaaaDoor
set_option maxRecDepth 20000
namespace Pt
open Go.RowKit Dk Eqb Byt

def nP (n : Nat) (P : Nat → Pn) (i : Nat) : Pn := if i < n then P i else hole
def NB (n : Nat) (P : Nat → Pn) : Nat → Nat → Int
  | 0 => fun _ => 0
  | j + 1 => ppF 128 (40 * (j : Int)) (nP n P j) (NB n P j)
def ndOk (n : Nat) (P : Nat → Pn) : Prop := n ≤ 3 ∧ ∀ i, i < 3 → rightB (nP n P i) = true
instance (n : Nat) (P : Nat → Pn) : Decidable (ndOk n P) := by unfold ndOk; infer_instance
def ndV (n : Nat) (P : Nat → Pn) : Nat → Int := if ndOk n P then NB n P 3 else fun _ => 0
def ndE (n : Nat) (P : Nat → Pn) : Int := if ndOk n P then 0 else 1
theorem nd_no {n : Nat} {P : Nat → Pn} (h : ¬ ndOk n P) : ndV n P = (fun _ => 0) ∧ ndE n P = 1 := by
  unfold ndV ndE
  rw [if_neg h, if_neg h]
  exact ⟨rfl, rfl⟩
theorem nd_yes {n : Nat} {P : Nat → Pn} (h : ndOk n P) : ndV n P = NB n P 3 ∧ ndE n P = 0 := by
  unfold ndV ndE
  rw [if_pos h, if_pos h]
  exact ⟨rfl, rfl⟩
theorem pp_at {j : Nat} {p : Pn} (hj : j < 3) (h : rightB p = true) : ppE 128 (40 * (j : Int)) p = 0 := by
  have hw : withinB 128 (40 * (j : Int)) = true := within_iff.2 (by omega)
  unfold ppE ppG
  rw [h, hw]
  rfl
theorem pp_bad {j : Nat} {p : Pn} (f : Nat → Int) (h : rightB p = false) : ppF 128 (40 * (j : Int)) p f = f ∧ ppE 128 (40 * (j : Int)) p = 1 := pp_no (show ppG 128 (40 * (j : Int)) p = false by unfold ppG; rw [h]; rfl) f
theorem blk_of' {w : World} {k : Nat} {o : Obj} (h : w.heap[k]? = some o) : k < w.heap.size := (Array.getElem?_eq_some_iff.1 h).1
structure NdW (bb pb : Nat) (p : Pn) (F F' : Nat → Int) (W0 : World) (c : Bool) (w' : World) : Prop where
  o0 : c = false → Wd.Own w' 0 (some ⟨bb, 0, none⟩) 128 128 F
  o1 : c = true → Wd.Own w' 0 (some ⟨bb, 0, none⟩) 128 128 F'
  only : Wd.Only W0 w' (some ⟨bb, 0, none⟩)
  ptr : w'.heap[pb]? = some (.cells (pV p).toArray 65 (0, 0))
theorem NdW.step {bb pb : Nat} {p : Pn} {F F' : Nat → Int} {W0 w' w'' : World} (hne : pb ≠ bb) (h : NdW bb pb p F F' W0 false w') (hG : Wd.Only w' w'' (some ⟨bb, 0, none⟩)) (hO : Wd.Own w'' 0 (some ⟨bb, 0, none⟩) 128 128 F') : NdW bb pb p F F' W0 true w'' :=
  ⟨fun e => (by cases e), fun _ => hO, Only.trans' h.only hG, (hG.block pb (blk_of' h.ptr) (by simpa using hne)).trans h.ptr⟩
theorem own_row {w : World} {B g : Nat} {f : Nat → Int} (h : Wd.Own w B (some ⟨g, 0, none⟩) 128 128 f) : Row w g 0 128 f := by
  rcases h.row with ⟨e, _⟩ | ⟨g', e, _, hr⟩
  · cases e
  · injection e with e
    injection e with e
    subst e
    exact hr
theorem row_own {w : World} {g : Nat} {f : Nat → Int} (h : Row w g 0 128 f) : Wd.Own w 0 (some ⟨g, 0, none⟩) 128 128 f := ⟨Nat.le_refl _, (fun e => by cases e), .inr ⟨g, rfl, Nat.zero_le _, h⟩⟩
theorem results_bl {tmps : Array Value} {w : World} {B : Nat} {D : Nat → Int} {e : Int} {fn : Func} {s r : Nat} (hf : fn.results = #[.cell s 22, .tmp r]) (h4 : tmps.getD s undef = .pointer (some ⟨B, 0, none⟩)) (h5 : tmps.getD r undef = .int .i64 e)
    (kV : w.heap[B]? = some (.cells (bl D).toArray 22 (0, 0))) : (results fn tmps).run Tryd.prog w = .ok (.tuple #[.agg (bl D).toArray, .int .i64 e]) w := by
  have h4' : tmps[s]?.getD undef = .pointer (some ⟨B, 0, none⟩) := by simpa using h4
  have h5' : tmps[r]?.getD undef = .int .i64 e := by simpa using h5
  have hv := run_loadVar_row (P := Tryd.prog) w B 22 22 (bl D).toArray (0, 0) _ kV undB rfl (sizeB D)
  simp [results, hf, h4', h5', asAddr, hv]
end Pt
end Go.Proofs.YtllejfnmbpjhaaaDoor
