/- ptr: three pointers in a row. -/
import Derived.Test.YtllejfnmbpjhaaaDoorPtFits
import Derived.Test.YtllejfnmbpjhaaaDoorPtTake
namespace Go.Proofs.YtllejfnmbpjhaaaDoor
set_option maxRecDepth 20000
namespace Pt
open Go.RowKit Dk Eqb Byt

def f3 (P : Nat → Pn) : List Value := flat (fun i => pV (P i)) 3
theorem f3_length (P : Nat → Pn) : (f3 P).length = 102 := by
  have := flat_length (T := fun i => pV (P i)) (k := 34) (n := 3) (fun i _ => pV_length _)
  exact this
theorem f3_one (P : Nat → Pn) : ∀ u ∈ f3 P, u.oneCell' = true := flat_one fun _i _ => pV_one _
theorem f3_all (P : Nat → Pn) : (f3 P).toArray.all (·.oneCell') = true := all_oneCell_toArray (f3_one P)
theorem f3_congr {P Q : Nat → Pn} (h : ∀ i, i < 3 → pV (P i) = pV (Q i)) : f3 P = f3 Q := flat_congr h
theorem und3 : Tryd.prog.underlying 66 = some (.array 3 65) := by kernel_rfl
theorem size3 (P : Nat → Pn) : (Tryd.prog.info? 66).map (·.size) = some (f3 P).length := by rw [f3_length]; kernel_rfl
theorem size3' (P : Nat → Pn) : (Tryd.prog.info? 66).map (·.size) = some (f3 P).toArray.size := by rw [List.size_toArray]; exact size3 P
theorem guard3 : Tryd.prog.eqGuardType Tryd.prog.depth 66 = false := by kernel_rfl
def zP : Nat → Pn := fun _ => pz
theorem zv3 (w : World) : (zeroValue 66).run Tryd.prog w = .ok (.agg (f3 zP).toArray) w := (zero_of_info (P := Tryd.prog) (t := 66) (v := .agg (f3 zP).toArray) (n := 102) (by kernel_rfl)).1 w
theorem zc3 : Tryd.zeroCells66 = (f3 zP).toArray := by kernel_rfl
theorem built30 : Tryd.prog.built 66 [] = some (f3 zP).toArray := by kernel_rfl
theorem f3_at (P : Nat → Pn) {i : Nat} (hi : i < 3) {r : Nat} {v : Value} (hv : (pV (P i))[r]? = some v) : (f3 P)[34 * i + r]? = some v := by
  rw [Nat.mul_comm]
  exact flat_get (T := fun i => pV (P i)) (fun i _ => pV_length _) hi hv
theorem eq_pt1 (d : Nat) (p : Pn) (w : World) : (Op.equalIn (d + 3) 65 (.agg (pV p).toArray) (.agg (pV p).toArray)).run Tryd.prog w = .ok true w := by
  rw [run_equalIn_struct w (d + 2) 65 _ _ (by kernel_rfl) (by kernel_rfl)]
  obtain ⟨f0, f1, f2, hf, t0, o0, n0, t1, o1, n1, t2, o2, n2⟩ : ∃ f0 f1 f2 : Field, (Tryd.prog.fieldsOf 65).toList = [f0, f1, f2] ∧ f0.type = 3 ∧ f0.offset = 0 ∧ (f0.name ≠ "_") ∧ f1.type = 3 ∧ f1.offset = 1 ∧ (f1.name ≠ "_") ∧ f2.type = 63 ∧ f2.offset = 2 ∧ (f2.name ≠ "_") := ⟨_, _, _, rfl, rfl, rfl, by decide, rfl, rfl, by decide, rfl, rfl, by decide⟩
  rw [hf]
  simp only [Op.eqFields, Sem.run_bind, Sem.run_ite, if_pos n0, if_pos n1, if_pos n2, t0, o0, t1, o1, t2, o2]
  rw [part_i (pV p).toArray 0 p.A rfl w, Result.andThen_ok, part_i (pV p).toArray 0 p.A rfl w, Result.andThen_ok, run_equalIn_int w (d + 1) _ .i64 .i64 _ _ (by kernel_rfl), Result.andThen_ok]
  simp only [beq_self_eq_true, Bool.not_true, Bool.false_eq_true, if_false]
  rw [part_i (pV p).toArray 1 p.B rfl w, Result.andThen_ok, part_i (pV p).toArray 1 p.B rfl w, Result.andThen_ok, run_equalIn_int w (d + 1) _ .i64 .i64 _ _ (by kernel_rfl), Result.andThen_ok]
  simp only [beq_self_eq_true, Bool.not_true, Bool.false_eq_true, if_false]
  rw [part_sum p w, Result.andThen_ok, part_sum p w, Result.andThen_ok, eqD_sum d, Result.andThen_ok, eqB_same]
  simp

/-- in block b lie three pointers, and may be written -/
structure R3 (w : World) (b : Nat) (Q : Nat → Pn) : Prop where
  th : w.there b 0 102
  rg : ∀ i, i < 3 → w.rangeAt b (34 * i) (pV (Q i))
theorem R3.new {w : World} {b : Nat} {Q : Nat → Pn} {t : TypeId} (h : w.heap[b]? = some (.cells (f3 Q).toArray t (0, 0))) : R3 w b Q :=
  ⟨fun j hj => by
    rw [cell_of_row w b _ _ _ _ h, Nat.zero_add]
    refine ⟨?_, frozen_of_row w b _ _ _ h⟩
    have : j < (f3 Q).length := by rw [f3_length]; exact hj
    simp [this],
   fun i hi j v hv => by
    rw [cell_of_row w b _ _ _ _ h]
    simpa using f3_at Q hi hv⟩
theorem R3.lt {w : World} {b : Nat} {Q : Nat → Pn} (h : R3 w b Q) : b < w.heap.size := by
  obtain ⟨v, hv⟩ := Option.isSome_iff_exists.1 (h.th 0 (by omega)).1
  exact World.block_lt_of_cell? w _ hv
theorem R3.keep {w w' : World} {b : Nat} {Q : Nat → Pn} (h : R3 w b Q) (hb : w'.heap[b]? = w.heap[b]?) : R3 w' b Q :=
  ⟨fun j hj => ⟨by rw [World.cell?_of_block (w := w) hb]; exact (h.th j hj).1, by
    have := (h.th j hj).2
    unfold World.frozen? at this ⊢
    simp only [hb]
    exact this⟩,
   fun i hi j v hv => (World.cell?_of_block (w := w) hb).trans (h.rg i hi j v hv)⟩
def upd (Q : Nat → Pn) (j : Nat) (p : Pn) (i : Nat) : Pn := if i = j then p else Q i
theorem R3.store {w : World} {b : Nat} {Q : Nat → Pn} (h : R3 w b Q) {j : Nat} (hj : j < 3) (p : Pn) : R3 (w.setCells b (34 * j) (pV p)) b (upd Q j p) :=
  ⟨World.there_setCells h.th _ _ _, fun i hi => by
    unfold upd
    by_cases e : i = j
    · subst e
      rw [if_pos rfl]
      refine World.rangeAt_setCells_same w b _ _ fun k hk => ?_
      rw [pV_length] at hk
      have := h.th (34 * i + k) (by omega)
      rwa [Nat.zero_add] at this
    · rw [if_neg e]
      refine World.rangeAt_setCells_apart (h.rg i hi) b _ _ (.inr ?_)
      rw [pV_length, pV_length]
      omega⟩
theorem R3.at {w : World} {b : Nat} {Q : Nat → Pn} (h : R3 w b Q) {j : Nat} (hj : j < 3) : w.there b (34 * j) 34 := fun k hk => by
  have := h.th (34 * j + k) (by omega)
  rwa [Nat.zero_add] at this
theorem R3.all {w : World} {b : Nat} {Q : Nat → Pn} (h : R3 w b Q) : w.rangeAt b 0 (f3 Q) := fun j v hv => by
  obtain ⟨i, r, hi, hr, rfl, hv'⟩ := flat_inv (T := fun i => pV (Q i)) (k := 34) (fun i _ => pV_length _) hv
  have := h.rg i hi r v hv'
  rw [Nat.zero_add, Nat.mul_comm]
  exact this
theorem below_cells {B g : Nat} (hg : B ≤ g) : ∀ (vs : List Value) (o : Nat) {a w : World}, Below B a w → Below B a (w.setCells g o vs)
  | [], _, _, _, h => h
  | _ :: r, o, _, _, h => below_cells hg r (o + 1) (h.setCell hg _)
theorem other_cells {g k : Nat} (hk : k ≠ g) : ∀ (vs : List Value) (o : Nat) (w : World), (w.setCells g o vs).heap[k]? = w.heap[k]?
  | [], _, _ => rfl
  | _ :: r, o, _w => (other_cells hk r (o + 1) _).trans (Below.heap_setCell _ _ _ _ hk)
theorem size_cells (g : Nat) : ∀ (vs : List Value) (o : Nat) (w : World), (w.setCells g o vs).heap.size = w.heap.size
  | [], _, _ => rfl
  | _ :: r, o, w => (size_cells g r (o + 1) _).trans (by simp)
end Pt
end Go.Proofs.YtllejfnmbpjhaaaDoor
