/- Lists of texts in memory: what the call owns, what it reads, what it appends. -/
import Derived.Test.YthmcjjfhfkcheaaDoorRows
import Derived.WalkKit
import Derived.Handy
import Derived.Lib.Hide
import Derived.Outline
import Derived.Laws.OwnMore
import Derived.Laws.AppendOwnNone
import Derived.Test.YthmcjjfhfkcheaaDoorNmM
namespace Go.Proofs.YthmcjjfhfkcheaaDoor
set_option maxRecDepth 20000
namespace Nm
open Go.RowKit

theorem str_info : (Tryd.prog.info? 9).map (fun i => (i.zero, i.size, i.bytes)) = some (some (.string ByteArray.empty), 1, 16) := by kernel_rfl
theorem und_strs : Tryd.prog.underlying 23 = some (.slice 9) := by kernel_rfl
def strs (xs : List T) : List Value := xs.map fun l => Value.string ⟨l.toArray⟩
theorem strs_len (xs : List T) : (strs xs).length = xs.length := by simp [strs]
theorem strs_app (xs ys : List T) : strs (xs ++ ys) = strs xs ++ strs ys := by simp [strs]
theorem strs_one (xs : List T) : ∀ u ∈ strs xs, u.oneCell' = true := by
  intro u hu
  obtain ⟨x, _, rfl⟩ := List.mem_map.1 hu
  rfl
theorem strs_get {xs : List T} {i : Nat} {x : T} (h : xs[i]? = some x) : (strs xs)[i]? = some (.string ⟨x.toArray⟩) := by simp [strs, h]
/-- v is a slice of these texts, the call's own -/
def Own (w : World) (base : Nat) (v : Value) (xs : List T) : Prop := w.ownsRow base 9 1 v xs.length (strs xs)
theorem Own.nil (w : World) (base : Nat) : Own w base (.slice none 0 0) [] := World.ownsRow_nil _ _ _ _
/-- these texts are read there; they lie below block b -/
structure At (w : World) (b : Nat) (ao : Option Addr) (cap : Nat) (xs : List T) : Prop where
  room : xs.length ≤ cap
  cells : xs ≠ [] → ∃ g, ao = some ⟨g, 0, none⟩ ∧ g < b ∧ ∀ i x, xs[i]? = some x → w.cell? ⟨g, i, none⟩ = some (.string ⟨x.toArray⟩)
theorem At.below {w w' : World} {b c cap : Nat} {ao : Option Addr} {xs : List T} (h : At w b ao cap xs) (hb : Below c w w') (hc : b ≤ c) : At w' b ao cap xs :=
  ⟨h.room, fun hx => by
    obtain ⟨g, h1, h2, h3⟩ := h.cells hx
    exact ⟨g, h1, h2, fun i x hi => (hb.cell (p := ⟨g, i, none⟩) (show g < c by omega)).trans (h3 i x hi)⟩⟩
theorem At.more {w : World} {b c cap : Nat} {ao : Option Addr} {xs : List T} (h : At w b ao cap xs) (hc : b ≤ c) : At w c ao cap xs :=
  ⟨h.room, fun hx => by
    obtain ⟨g, h1, h2, h3⟩ := h.cells hx
    exact ⟨g, h1, by omega, h3⟩⟩
theorem At.get {w : World} {b cap : Nat} {ao : Option Addr} {xs : List T} (h : At w b ao cap xs) {i : Nat} (hi : i < xs.length) : ∃ g, ao = some ⟨g, 0, none⟩ ∧ g < b ∧ w.cell? ⟨g, i, none⟩ = some (.string ⟨xs[i].toArray⟩) := by
  obtain ⟨g, h1, h2, h3⟩ := h.cells (by intro e; rw [e] at hi; simp at hi)
  exact ⟨g, h1, h2, h3 i _ (List.getElem?_eq_getElem hi)⟩
theorem Own.slice {w : World} {base : Nat} {v : Value} {xs : List T} (h : Own w base v xs) : ∃ ao cap, v = .slice ao xs.length cap ∧ At w w.heap.size ao cap xs ∧ (∀ g, ao = some g → base ≤ g.block) ∧ (ao = none → cap = 0) := by
  have hc := fun (g : Nat) (hg : v.ownBlock = some g) => World.ownsRow.cells h hg
  rcases h.2 with ⟨h1, h2⟩ | ⟨g, cap, cur, h1, hb, hg, hn, _⟩
  · have e : xs = [] := List.eq_nil_of_length_eq_zero h2
    subst e
    exact ⟨none, 0, h1, ⟨Nat.le_refl _, fun h => absurd rfl h⟩, fun g hg => (by cases hg), fun _ => rfl⟩
  · refine ⟨_, cap, h1, ⟨hn, fun _ => ⟨g, rfl, (Array.getElem?_eq_some_iff.1 hg).1, fun i x hi => ?_⟩⟩, fun g hg => (by cases hg; exact hb), fun h => (by cases h)⟩
    have := hc g (by rw [h1]; rfl) i _ (strs_get hi)
    rwa [show (⟨g, 0, none⟩ : Addr).add i = ⟨g, i, none⟩ by unfold Addr.add; split <;> simp_all] at this
theorem Own.alloc {w : World} {base : Nat} {v : Value} {xs : List T} (h : Own w base v xs) (o : Obj) : Own (w.alloc o) base v xs := World.ownsRow.alloc h o
theorem Own.below {w w' : World} {base c : Nat} {v : Value} {xs : List T} (h : Own w base v xs) (hb : Below c w w') (hc : w.heap.size ≤ c) : Own w' base v xs :=
  World.ownsRow.kept h (row := none) ⟨hb.os, hb.tape, hb.output, hb.size, fun i hi _ => hb.block i (by omega)⟩ (by
    cases e : v.ownBlock with
    | none => exact .inl rfl
    | some b => exact .inr (by simp))
theorem Own.less {w : World} {base base' : Nat} {v : Value} {xs : List T} (h : Own w base v xs) (hb : base' ≤ base) : Own w base' v xs :=
  ⟨h.1, h.2.imp id fun ⟨g, cap, cur, hv, hg, r⟩ => ⟨g, cap, cur, hv, Nat.le_trans hb hg, r⟩⟩
/-- the slice, cut by its last one -/
theorem Own.cut {w : World} {base n c : Nat} {ao : Option Addr} {xs : List T} (h : Own w base (.slice ao n c) xs) (hn : 0 < n) : Own w base (.slice ao (n - 1) c) xs.dropLast := by
  have hl := h.1
  rcases h.2 with ⟨h1, h2⟩ | ⟨g, cap, cur, h1, hb, hg, h3, h4, h5, h6⟩
  · injection h1 with _ h1 _; omega
  · injection h1 with e1 e2 e3
    subst e1 e3
    refine ⟨by rw [strs_len, Nat.mul_one], .inr ⟨g, c, cur, by rw [List.length_dropLast, ← e2], hb, hg, by rw [List.length_dropLast]; omega, h4, h5, ?_⟩⟩
    rw [Nat.mul_one] at h6 ⊢
    have e : strs xs.dropLast = (strs xs).take (xs.length - 1) := by rw [strs, strs, ← List.map_take, List.dropLast_eq_take]
    rw [e, ← h6, List.length_dropLast, List.take_take, Nat.min_eq_left (by omega)]
/-- append(v, y), v the call's own -/
theorem run_app {w : World} {base : Nat} {v : Value} {xs : List T} (ty : TypeId) (hown : Own w base v xs) (y : T) (g c : Nat) (hy : w.cell? ⟨g, 0, none⟩ = some (.string ⟨y.toArray⟩)) (hlen : xs.length + 1 ≤ 1000000) (hbase : base ≤ w.heap.size) :
    ∃ v' w', (Builtin.append_ #[23, 23] ty #[v, .slice (some ⟨g, 0, none⟩) 1 c]).run Tryd.prog w = .ok v' w' ∧ Own w' base v' (xs ++ [y]) ∧ Below base w w' := by
  obtain ⟨i0, hi, hz0, hz1, hz2⟩ := info_parts str_info
  have hlt := World.ownsRow.lt hown
  obtain ⟨v', w', h1, h2, h3, _⟩ := run_append_own (P := Tryd.prog) w base 23 ty 9 i0 _ 1 16 und_strs hi hz0 hz1 hz2 rfl (by decide) v xs.length (strs xs) hown ⟨g, 0, none⟩ 1 c [.string ⟨y.toArray⟩] rfl
    (fun j u hj => by
      match j, hj with
      | 0, hj => simp at hj; subst hj; simpa [Addr.add] using hy)
    (fun u hu => by simp at hu; subst hu; rfl) (by unfold maxLen; omega) (by omega) hbase
  refine ⟨v', w', h1, ?_, (Below.refl _ _).grown h3 hbase fun k hk => (hlt k hk).1⟩
  unfold Own
  rw [List.length_append, strs_app]
  exact h2
theorem wpList_app {w : World} {ops : Array Oper} {rest : List Oper} {o : Oper} {a : Act} {Q : Exit → Act → World → Prop} (hgd : o.guard = none) (s x : Operand)
    (ho : o.op = .call { callee := .builtin .append, args := #[s, x], argTypes := #[23, 23] }) (base : Nat) (v : Value) (xs : List T) (hs : a.eval s = v) (hown : Own w base v xs)
    (y : T) (g c : Nat) (hx : a.eval x = .slice (some ⟨g, 0, none⟩) 1 c) (hy : w.cell? ⟨g, 0, none⟩ = some (.string ⟨y.toArray⟩)) (hlen : xs.length + 1 ≤ 1000000) (hbase : base ≤ w.heap.size)
    (h : ∀ v' w', Own w' base v' (xs ++ [y]) → Below base w w' → wpList Tryd.prog ops Q rest (a.put o.dst v') w') : wpList Tryd.prog ops Q (o :: rest) a w := by
  refine wpList_plain hgd fun K hK => ?_
  obtain ⟨v', w', hr, h2, h3⟩ := run_app o.type hown y g c hy hlen hbase
  unfold Oper.wp execOp
  simp only [ho, resolve, invoke, builtin, Sem.run_bind, Sem.run_pure, Result.andThen_ok, List.map_toArray, List.map_cons, List.map_nil, hs, hx, hr]
  exact hK _ _ (h v' w' h2 h3)
theorem res_tmp {tmps : Array Value} {a : Nat} {x : Value} (h : tmps.getD a undef = x) : tmps[a]?.getD undef = x := by simpa using h
theorem results_2 {tmps : Array Value} {w : World} {fn : Func} {a b : Nat} {x y : Value} (hf : fn.results = #[.tmp a, .tmp b]) (ha : tmps.getD a undef = x) (hb : tmps.getD b undef = y) : (results fn tmps).run Tryd.prog w = .ok (.tuple #[x, y]) w := by
  simp [results, hf, res_tmp ha, res_tmp hb]
theorem results_3 {tmps : Array Value} {w : World} {fn : Func} {a b c : Nat} {x y z : Value} (hf : fn.results = #[.tmp a, .tmp b, .tmp c]) (ha : tmps.getD a undef = x) (hb : tmps.getD b undef = y) (hc : tmps.getD c undef = z) : (results fn tmps).run Tryd.prog w = .ok (.tuple #[x, y, z]) w := by
  simp [results, hf, res_tmp ha, res_tmp hb, res_tmp hc]
theorem results_4 {tmps : Array Value} {w : World} {fn : Func} {a b c d : Nat} {x y z u : Value} (hf : fn.results = #[.tmp a, .tmp b, .tmp c, .tmp d]) (ha : tmps.getD a undef = x) (hb : tmps.getD b undef = y) (hc : tmps.getD c undef = z) (hd : tmps.getD d undef = u) : (results fn tmps).run Tryd.prog w = .ok (.tuple #[x, y, z, u]) w := by
  simp [results, hf, res_tmp ha, res_tmp hb, res_tmp hc, res_tmp hd]
/-- internal/bytealg.MaxLen holds an int -/
def Mx (w : World) : Prop := ∃ m, w.cell? ⟨0, 0, none⟩ = some (.int .i64 m)
theorem Mx.size {w : World} (h : Mx w) : 0 < w.heap.size := by
  obtain ⟨m, hm⟩ := h
  exact World.block_lt_of_cell? _ _ hm
theorem Mx.below {w w' : World} {c : Nat} (h : Mx w) (hb : Below c w w') (hc : 0 < c) : Mx w' := by
  obtain ⟨m, hm⟩ := h
  exact ⟨m, (hb.cell (p := ⟨0, 0, none⟩) hc).trans hm⟩
end Nm
end Go.Proofs.YthmcjjfhfkcheaaDoor
