/- ptr: copy into three pointers; one of them taken out of an array's value. -/
import Derived.Test.YtllejfnmbpjhaaaDoorPtThree
namespace Go.Proofs.YtllejfnmbpjhaaaDoor
set_option maxRecDepth 20000
namespace Pt
open Go.RowKit Dk Eqb Byt

theorem setCells_append (b : Nat) : ∀ (xs ys : List Value) (o : Nat) (w : World), w.setCells b o (xs ++ ys) = (w.setCells b o xs).setCells b (o + xs.length) ys
  | [], ys, o, w => rfl
  | x :: xs, ys, o, w => by
    have := setCells_append b xs ys (o + 1) (w.setCell ⟨b, o, none⟩ x)
    show (w.setCell ⟨b, o, none⟩ x).setCells b (o + 1) (xs ++ ys) = _
    rw [this]
    show _ = ((w.setCell ⟨b, o, none⟩ x).setCells b (o + 1) xs).setCells b (o + (xs.length + 1)) ys
    rw [show o + 1 + xs.length = o + (xs.length + 1) by omega]
def cp (P : Nat → Pn) (n i : Nat) : Pn := if i < n then P i else pz
theorem cp_zero (P : Nat → Pn) : cp P 0 = zP := by funext i; unfold cp zP; rw [if_neg (by omega)]
theorem cp_next (P : Nat → Pn) (n : Nat) : upd (cp P n) n (P n) = cp P (n + 1) := by
  funext i
  unfold upd cp
  by_cases e : i = n
  · subst e; rw [if_pos rfl, if_pos (by omega)]
  · rw [if_neg e]
    by_cases h : i < n
    · rw [if_pos h, if_pos (by omega)]
    · rw [if_neg h, if_neg (by omega)]
theorem R3.copied {w : World} {b : Nat} {P : Nat → Pn} (h : R3 w b zP) : ∀ n, n ≤ 3 → R3 (w.setCells b 0 (flat (fun i => pV (P i)) n)) b (cp P n)
  | 0, _ => by rw [cp_zero]; exact h
  | n + 1, hn => by
    have ih := R3.copied (P := P) h n (by omega)
    rw [flat_succ, setCells_append, flat_length (k := 34) (fun i _ => pV_length _), Nat.zero_add, Nat.mul_comm, ← cp_next]
    exact ih.store (by omega) (P n)
theorem ptr_slice : Tryd.prog.underlying 60 = some (.slice 65) := by kernel_rfl
theorem ptr_info : ∃ i, Tryd.prog.info? 65 = some i ∧ i.size = 34 := ⟨_, rfl, by kernel_rfl⟩
theorem run_copy_pts {w : World} {B g0 g n cap : Nat} {pa : Option Addr} {P : Nat → Pn} (ty : TypeId) (hl : Lay w B g0 pa n cap 34 (fun i => pV (P i))) (hn : n ≤ 3) (hg : R3 w g zP) :
    (Builtin.copy_ #[60, 60] ty #[.slice (some ⟨g, 0, none⟩) 3 3, .slice pa n cap]).run Tryd.prog w = .ok (goInt n) (w.setCells g 0 (flat (fun i => pV (P i)) n)) := by
  obtain ⟨i, hi, hz⟩ := ptr_info
  cases pa with
  | none =>
    have hc := hl.nil rfl
    have h0 : n = 0 := by have := hl.room; omega
    subst h0 hc
    exact run_copy_nil Tryd.prog w _ _ ty 65 ⟨g, 0, none⟩ 3 3 ptr_slice (by rw [hi]; rfl)
  | some ad =>
    have hlen : (flat (fun i => pV (P i)) n).length = n * 34 := flat_length fun i _ => pV_length _
    have h1 : ∀ j v, (flat (fun i => pV (P i)) n)[j]? = some v → w.cell? (ad.add j) = some v := fun j v hv => by
      obtain ⟨i, r, hi, hr, rfl, hv'⟩ := flat_inv (T := fun i => pV (P i)) (k := 34) (fun i _ => pV_length _) hv
      obtain ⟨b, off, e, _, _, hrow⟩ := hl.rows.resolve_left (by omega)
      injection e with e
      subst e
      rw [Addr.add_mid, ← Nat.add_assoc]
      exact hrow i hi r v hv'
    have hload := run_loadCells_list (P := Tryd.prog) w ad _ h1
    have hst := run_storeCells_cells (P := Tryd.prog) g 0 (flat (fun i => pV (P i)) n) 0 w (fun j hj => by rw [hlen] at hj; have := (hg.th j (by omega)).1; simpa using this) (fun j hj => by rw [hlen] at hj; have := (hg.th j (by omega)).2; simpa using this) (flat_one fun i _ => pV_one _)
    rw [hlen] at hload
    have hm : Nat.min n 3 = n := Nat.min_eq_left hn
    simp [Builtin.copy_, run_underlying ptr_slice, Builtin.lenOf, Builtin.firstCells, sizeOf, typeInfo, hi, hz, hm, hload, hst]
theorem wpList_copy_pts {w : World} {ops : Array Oper} {rest : List Oper} {o : Oper} {a : Act} {Q : Exit → Act → World → Prop} (hgd : o.guard = none) (d s : Operand) (ho : o.op = .call { callee := .builtin .copy, args := #[d, s], argTypes := #[60, 60] })
    {B g0 g n cap : Nat} {pa : Option Addr} {P : Nat → Pn} (hd : a.eval d = .slice (some ⟨g, 0, none⟩) 3 3) (hs : a.eval s = .slice pa n cap) (hl : Lay w B g0 pa n cap 34 (fun i => pV (P i))) (hn : n ≤ 3) (hg : R3 w g zP)
    (h : wpList Tryd.prog ops Q rest (a.put o.dst (goInt n)) (w.setCells g 0 (flat (fun i => pV (P i)) n))) : wpList Tryd.prog ops Q (o :: rest) a w := by
  refine wpList_plain hgd fun K hK => ?_
  have hrun := run_copy_pts o.type hl hn hg
  unfold Oper.wp
  simp [execOp, ho, resolve, invoke, builtin, hd, hs, hrun, Result.andThen]
  exact hK _ _ h
theorem run_index3 (Q : Nat → Pn) (j : Nat) (hj : j < 3) (W : World) : (Instr.index 66 (.agg (f3 Q).toArray) (.int .i64 (j : Int))).run Tryd.prog W = .ok (.agg (pV (Q j)).toArray) W := by
  match j, hj with
  | 0, _ =>
    show (Instr.index 66 (.agg (f3 Q).toArray) (.int .i64 0)).run Tryd.prog W = .ok (.agg (pV (Q 0)).toArray) W
    kernel_rfl
  | 1, _ =>
    show (Instr.index 66 (.agg (f3 Q).toArray) (.int .i64 1)).run Tryd.prog W = .ok (.agg (pV (Q 1)).toArray) W
    kernel_rfl
  | 2, _ =>
    show (Instr.index 66 (.agg (f3 Q).toArray) (.int .i64 2)).run Tryd.prog W = .ok (.agg (pV (Q 2)).toArray) W
    kernel_rfl
  | n + 3, h => omega
end Pt
end Go.Proofs.YtllejfnmbpjhaaaDoor
