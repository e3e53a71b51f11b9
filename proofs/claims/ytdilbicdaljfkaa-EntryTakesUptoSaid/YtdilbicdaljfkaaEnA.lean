/- Entries in memory: what lies there, what the call owns, appended. -/
import Derived.Test.YtdilbicdaljfkaaEnV
import Derived.Test.YtdilbicdaljfkaaBytes
import Derived.Great.BuildSlice
import Derived.Maps.AppendAt
import Derived.Laws.OwnMore
import Derived.BigQuiet
import Derived.Deep.QuietTactic
namespace Go.Proofs.Ytdilbicdaljfkaa
set_option maxRecDepth 20000
namespace En
open Go.RowKit Sha

theorem res_tmp {tmps : Array Value} {a : Nat} {x : Value} (h : tmps.getD a undef = x) : tmps[a]?.getD undef = x := by simpa using h
theorem results_2 {tmps : Array Value} {w : World} {fn : Func} {a b : Nat} {x y : Value} (hf : fn.results = #[.tmp a, .tmp b]) (ha : tmps.getD a undef = x) (hb : tmps.getD b undef = y) : (results fn tmps).run Try.prog w = .ok (.tuple #[x, y]) w := by
  simp [results, hf, res_tmp ha, res_tmp hb]
theorem results_3 {tmps : Array Value} {w : World} {fn : Func} {a b c : Nat} {x y z : Value} (hf : fn.results = #[.tmp a, .tmp b, .tmp c]) (ha : tmps.getD a undef = x) (hb : tmps.getD b undef = y) (hc : tmps.getD c undef = z) : (results fn tmps).run Try.prog w = .ok (.tuple #[x, y, z]) w := by
  simp [results, hf, res_tmp ha, res_tmp hb, res_tmp hc]
theorem results_4 {tmps : Array Value} {w : World} {fn : Func} {a b c d : Nat} {x y z u : Value} (hf : fn.results = #[.tmp a, .tmp b, .tmp c, .tmp d]) (ha : tmps.getD a undef = x) (hb : tmps.getD b undef = y) (hc : tmps.getD c undef = z) (hd : tmps.getD d undef = u) : (results fn tmps).run Try.prog w = .ok (.tuple #[x, y, z, u]) w := by
  simp [results, hf, res_tmp ha, res_tmp hb, res_tmp hc, res_tmp hd]
theorem below_drewN {c : Nat} {w w' : World} (h : Below c w w') (n : Nat) : Below c w (w'.drewN n) := ⟨h.os, h.tape, h.output, h.size, h.block⟩
/-- a cell of none of v's own -/
theorem far {w0 w w' : World} {base size n : Nat} {t : TypeId} {v : Value} {xs : List Value} (hO : w0.ownsRow base t size v n xs) (hg : w.grownBy w' v.ownBlock) (p : Addr) (hp : w0.heap.size ≤ p.block) (hp2 : p.block < w.heap.size) : w'.cell? p = w.cell? p :=
  World.cell?_of_block (hg.block p.block hp2 fun e => by have := (World.ownsRow.lt hO _ e.symm).2; omega)
def eV (x : E) : List Value := [.string ⟨x.1.toArray⟩, .int .i64 x.2]
def ecs (l : List E) : List Value := l.flatMap eV
theorem ecs_len : ∀ l : List E, (ecs l).length = l.length * 2
  | [] => rfl
  | x :: l => by
    show (eV x ++ ecs l).length = _
    rw [List.length_append, ecs_len l, List.length_cons]
    simp only [eV, List.length_cons, List.length_nil]
    omega
theorem ecs_app (l m : List E) : ecs (l ++ m) = ecs l ++ ecs m := by simp [ecs]
theorem ecs_single (x : E) : ecs [x] = eV x := by simp [ecs]
theorem ecs_one (l : List E) : ∀ u ∈ ecs l, u.oneCell' = true := by
  intro u hu
  obtain ⟨x, _, hx⟩ := List.mem_flatMap.1 hu
  simp only [eV, List.mem_cons, List.not_mem_nil, or_false] at hx
  rcases hx with rfl | rfl <;> rfl
theorem ecs_get : ∀ {l : List E} {i : Nat} {x : E}, l[i]? = some x → (ecs l)[i * 2]? = some (.string ⟨x.1.toArray⟩) ∧ (ecs l)[i * 2 + 1]? = some (.int .i64 x.2)
  | [], i, x, h => by simp at h
  | y :: l, 0, x, h => by simp at h; subst h; exact ⟨rfl, rfl⟩
  | y :: l, i + 1, x, h => by
    simp at h
    have := ecs_get h
    rw [show (i + 1) * 2 = i * 2 + 2 by omega]
    exact ⟨this.1, this.2⟩
theorem ecs_at {l : List E} {j : Nat} {u : Value} (h : (ecs l)[j]? = some u) : ∃ i x, l[i]? = some x ∧ ((j = i * 2 ∧ u = .string ⟨x.1.toArray⟩) ∨ (j = i * 2 + 1 ∧ u = .int .i64 x.2)) := by
  have hj := (List.getElem?_eq_some_iff.1 h).1
  rw [ecs_len] at hj
  have hi : j / 2 < l.length := by omega
  have hx : l[j / 2]? = some l[j / 2] := List.getElem?_eq_getElem hi
  obtain ⟨h0, h1⟩ := ecs_get hx
  refine ⟨j / 2, l[j / 2], hx, ?_⟩
  rcases Nat.mod_two_eq_zero_or_one j with e | e
  · rw [show j / 2 * 2 = j by omega, h] at h0
    exact .inl ⟨by omega, Option.some.inj h0⟩
  · rw [show j / 2 * 2 + 1 = j by omega, h] at h1
    exact .inr ⟨by omega, Option.some.inj h1⟩

/-- these entries are read at ao; they lie below block B -/
structure LiesE (w : World) (B : Nat) (ao : Option Addr) (cap : Nat) (l : List E) : Prop where
  room : l.length ≤ cap
  nil : ao = none → cap = 0
  cells : l ≠ [] → ∃ b off, ao = some ⟨b, off, none⟩ ∧ b < B ∧ ∀ i x, l[i]? = some x → w.cell? ⟨b, off + i * 2, none⟩ = some (.string ⟨x.1.toArray⟩) ∧ w.cell? ⟨b, off + i * 2 + 1, none⟩ = some (.int .i64 x.2)
section
variable {w w' : World} {B B' : Nat} {ao : Option Addr} {cap : Nat} {l : List E}
theorem LiesE.keep (h : LiesE w B ao cap l) (hk : ∀ p : Addr, p.block < B → w'.cell? p = w.cell? p) : LiesE w' B ao cap l :=
  ⟨h.room, h.nil, fun hn => by
    obtain ⟨b, off, e, hb, hc⟩ := h.cells hn
    exact ⟨b, off, e, hb, fun i x hi => ⟨(hk _ hb).trans (hc i x hi).1, (hk _ hb).trans (hc i x hi).2⟩⟩⟩
theorem LiesE.below (h : LiesE w B ao cap l) (hb : Below B w w') : LiesE w' B ao cap l := h.keep fun _ hp => hb.cell hp
theorem LiesE.more (h : LiesE w B ao cap l) (hB : B ≤ B') : LiesE w B' ao cap l :=
  ⟨h.room, h.nil, fun hn => by
    obtain ⟨b, off, e, hb, hc⟩ := h.cells hn
    exact ⟨b, off, e, by omega, hc⟩⟩
theorem LiesE.to (h : LiesE w B ao cap l) (hb : Below B w w') (hB : B ≤ B') : LiesE w' B' ao cap l := (h.below hb).more hB
theorem LiesE.get (h : LiesE w B ao cap l) {i : Nat} (hi : i < l.length) : ∃ b off, ao = some ⟨b, off, none⟩ ∧ b < B ∧ w.cell? ⟨b, off + i * 2, none⟩ = some (.string ⟨l[i].1.toArray⟩) ∧ w.cell? ⟨b, off + i * 2 + 1, none⟩ = some (.int .i64 l[i].2) := by
  obtain ⟨b, off, e, hb, hc⟩ := h.cells (by intro e; rw [e] at hi; simp at hi)
  exact ⟨b, off, e, hb, hc i _ (List.getElem?_eq_getElem hi)⟩
theorem LiesE.get2 {b off : Nat} (h : LiesE w B (some ⟨b, off, none⟩) cap l) {i : Nat} (hi : i < l.length) : b < B ∧ w.cell? ⟨b, off + i * 2, none⟩ = some (.string ⟨l[i].1.toArray⟩) ∧ w.cell? ⟨b, off + i * 2 + 1, none⟩ = some (.int .i64 l[i].2) := by
  obtain ⟨b', off', e, hb, hc⟩ := h.get hi
  injection e with e
  injection e with e1 e2
  subst e1 e2
  exact ⟨hb, hc⟩
theorem LiesE.len0 (h : LiesE w B none cap l) : l = [] := by
  have := h.room
  have := h.nil rfl
  exact List.eq_nil_of_length_eq_zero (by omega)
end
/-- v is a slice of these entries, the call's own -/
def OwnE (w : World) (base : Nat) (v : Value) (l : List E) : Prop := w.ownsRow base 44 2 v l.length (ecs l)
theorem inf_ent : (Try.prog.info? 44).map (fun i => (i.zero, i.size, i.bytes)) = some (some (.agg #[.string ⟨#[]⟩, .int .i64 0]), 2, 24) := by kernel_rfl
theorem und_ents : Try.prog.underlying 22 = some (.slice 44) := by kernel_rfl
section
variable {w w' : World} {base : Nat} {v : Value} {l : List E}
theorem OwnE.nil (w : World) (base : Nat) : OwnE w base (.slice none 0 0) [] := World.ownsRow_nil _ _ _ _
theorem OwnE.slice (h : OwnE w base v l) : ∃ ao cap, v = .slice ao l.length cap ∧ LiesE w w.heap.size ao cap l ∧ (∀ g, ao = some g → base ≤ g.block ∧ g.off = 0 ∧ g.spot = none) := by
  have hc := fun (g : Nat) (hg : v.ownBlock = some g) => World.ownsRow.cells h hg
  rcases h.2 with ⟨h1, h2⟩ | ⟨g, cap, cur, h1, hb, hg, hn, _⟩
  · have e : l = [] := List.eq_nil_of_length_eq_zero h2
    subst e
    exact ⟨none, 0, h1, ⟨Nat.le_refl _, fun _ => rfl, fun h => absurd rfl h⟩, fun g hg => (by cases hg)⟩
  · have hcc : ∀ j u, (ecs l)[j]? = some u → w.cell? ⟨g, j, none⟩ = some u := fun j u hu => by
      have := hc g (by rw [h1]; rfl) j u hu
      rwa [show (⟨g, 0, none⟩ : Addr).add j = ⟨g, j, none⟩ by unfold Addr.add; split <;> simp_all] at this
    refine ⟨_, cap, h1, ⟨hn, fun e => (by cases e), fun _ => ⟨g, 0, rfl, (Array.getElem?_eq_some_iff.1 hg).1, fun i x hi => ?_⟩⟩, fun a ha => (by cases ha; exact ⟨hb, rfl, rfl⟩)⟩
    rw [Nat.zero_add]
    exact ⟨hcc _ _ (ecs_get hi).1, hcc _ _ (ecs_get hi).2⟩
theorem OwnE.alloc (h : OwnE w base v l) (o : Obj) : OwnE (w.alloc o) base v l := World.ownsRow.alloc h o
theorem OwnE.below {c : Nat} (h : OwnE w base v l) (hb : Below c w w') (hc : w.heap.size ≤ c) : OwnE w' base v l :=
  World.ownsRow.kept h (row := none) ⟨hb.os, hb.tape, hb.output, hb.size, fun i hi _ => hb.block i (by omega)⟩ (by
    cases e : v.ownBlock with
    | none => exact .inl rfl
    | some b => exact .inr (by simp))
theorem OwnE.less {base' : Nat} (h : OwnE w base v l) (hb : base' ≤ base) : OwnE w base' v l :=
  ⟨h.1, h.2.imp id fun ⟨g, cap, cur, hv, hg, r⟩ => ⟨g, cap, cur, hv, Nat.le_trans hb hg, r⟩⟩
end
theorem lies_news {w : World} {B b off cap : Nat} {l : List E} (h : LiesE w B (some ⟨b, off, none⟩) cap l) : ∀ j u, (ecs l)[j]? = some u → w.cell? ((⟨b, off, none⟩ : Addr).add j) = some u := by
  intro j u hu
  obtain ⟨i, x, hi, hx⟩ := ecs_at hu
  have hil := (List.getElem?_eq_some_iff.1 hi).1
  obtain ⟨b', off', e, _, hc⟩ := h.cells (by intro e; rw [e] at hil; simp at hil)
  injection e with e
  injection e with e1 e2
  subst e1 e2
  rw [Addr.add_mid]
  rcases hx with ⟨rfl, rfl⟩ | ⟨rfl, rfl⟩
  · exact (hc i x hi).1
  · exact (hc i x hi).2
theorem lies_own_new (w : World) (x : E) {g : Nat} (hg : w.heap.size = g) : LiesE (w.alloc (.cells (eV x).toArray 44)) (g + 1) (some ⟨g, 0, none⟩) 1 [x] := by
  subst hg
  refine ⟨Nat.le_refl _, (fun e => by cases e), fun _ => ⟨_, _, rfl, by simp, fun i y hi => ?_⟩⟩
  match i, hi with
  | 0, hi =>
    simp at hi
    subst hi
    rw [cell_of_row _ w.heap.size _ _ 44 _ (heap_alloc_new w _), cell_of_row _ w.heap.size _ _ 44 _ (heap_alloc_new w _)]
    exact ⟨rfl, rfl⟩
/-- append(v, x...), v the call's own, x whatever -/
theorem run_appE {w : World} {base : Nat} {v : Value} {l m : List E} (ty : TypeId) (hown : OwnE w base v l) (B : Nat) (ao : Option Addr) (c : Nat) (hl : LiesE w B ao c m) (hlen : (l.length + m.length) * 24 ≤ 140737488355328) (hbase : base ≤ w.heap.size) :
    ∃ v' w', (Builtin.append_ #[22, 22] ty #[v, .slice ao m.length c]).run Try.prog w = .ok v' w' ∧ OwnE w' base v' (l ++ m) ∧ Below base w w' ∧ w.grownBy w' v.ownBlock := by
  obtain ⟨i0, hi, hz0, hz1, hz2⟩ := info_parts inf_ent
  have hlt := World.ownsRow.lt hown
  cases ao with
  | none =>
    obtain rfl := hl.len0
    have hc := hl.nil rfl
    subst hc
    refine ⟨v, w, run_append_owned_none (P := Try.prog) (w := w) base 22 ty 44 i0 2 und_ents hi v l.length (ecs l) hown, ?_, Below.refl _ _, World.grownBy.refl _ _⟩
    simpa using hown
  | some ad =>
    by_cases hm : m = []
    · subst hm
      obtain ⟨v', w', h1, h2, h3, _⟩ := run_append_own (P := Try.prog) w base 22 ty 44 i0 _ 2 24 und_ents hi hz0 hz1 hz2 rfl (by decide) v l.length (ecs l) hown ad 0 c [] rfl (fun j u hj => by simp at hj) (fun u hu => by cases hu) (by unfold maxLen; omega) (by omega) hbase
      refine ⟨v', w', h1, ?_, (Below.refl _ _).grown h3 hbase fun k hk => (hlt k hk).1, h3⟩
      simpa [OwnE] using h2
    · obtain ⟨b, off, e, hb, _⟩ := hl.cells hm
      injection e with e
      subst e
      obtain ⟨v', w', h1, h2, h3, _⟩ := run_append_own (P := Try.prog) w base 22 ty 44 i0 _ 2 24 und_ents hi hz0 hz1 hz2 rfl (by decide) v l.length (ecs l) hown ⟨b, off, none⟩ m.length c (ecs m) (ecs_len m) (lies_news hl) (ecs_one m) (by unfold maxLen; omega) (by omega) hbase
      refine ⟨v', w', h1, ?_, (Below.refl _ _).grown h3 hbase fun k hk => (hlt k hk).1, h3⟩
      unfold OwnE
      rw [List.length_append, ecs_app]
      exact h2
theorem wpList_appE {w : World} {ops : Array Oper} {rest : List Oper} {o : Oper} {a : Act} {Q : Exit → Act → World → Prop} (hgd : o.guard = none) (s x : Operand)
    (ho : o.op = .call { callee := .builtin .append, args := #[s, x], argTypes := #[22, 22] }) (base : Nat) (v : Value) (l m : List E) (hs : a.eval s = v) (hown : OwnE w base v l)
    (B : Nat) (ao : Option Addr) (n c : Nat) (hn : n = m.length) (hx : a.eval x = .slice ao n c) (hl : LiesE w B ao c m) (hlen : (l.length + m.length) * 24 ≤ 140737488355328) (hbase : base ≤ w.heap.size)
    (h : ∀ v' w', OwnE w' base v' (l ++ m) → Below base w w' → w.grownBy w' v.ownBlock → wpList Try.prog ops Q rest (a.put o.dst v') w') : wpList Try.prog ops Q (o :: rest) a w := by
  refine wpList_plain hgd fun K hK => ?_
  subst hn
  obtain ⟨v', w', hr, h2, h3, h4⟩ := run_appE o.type hown B ao c hl hlen hbase
  unfold Oper.wp execOp
  simp only [ho, resolve, invoke, builtin, Sem.run_bind, Sem.run_pure, Result.andThen_ok, List.map_toArray, List.map_cons, List.map_nil, hs, hx, hr]
  exact hK _ _ (h v' w' h2 h3 h4)
/-- a slice of one entry -/
theorem fillE (x : E) : Instr.fill (fun i => some (i * 2, 2)) ((Array.range (1 * 2)).map ((Value.agg #[.string ⟨#[]⟩, .int .i64 0]).cells[· % (Value.agg #[.string ⟨#[]⟩, .int .i64 0]).cells.size]!)) [(0, .agg (eV x).toArray)] = some (eV x).toArray := by kernel_rfl
theorem wpList_sliceE {w : World} {ops : Array Oper} {rest : List Oper} {o : Oper} {a : Act} {Q : Exit → Act → World → Prop} (hgd : o.guard = none) (y : E) (x : Operand) (ho : o.op = .buildSlice 22 1 #[(0, x)]) (hx : a.eval x = .agg (eV y).toArray)
    (h : wpList Try.prog ops Q rest (a.put o.dst (.slice (some ⟨w.heap.size, 0, none⟩) 1 1)) (w.alloc (.cells (eV y).toArray 44))) : wpList Try.prog ops Q (o :: rest) a w := by
  obtain ⟨i0, hi, hz0, hz1, hz2⟩ := info_parts inf_ent
  refine wpList_buildSlice hgd 22 44 1 #[(0, x)] ho _ i0 _ und_ents hi hz0 (by rw [hz1]; decide) (by rw [hz1]; decide) ?_ h
  rw [hz1]
  simp only [List.map_toArray, List.map_cons, List.map_nil, hx]
  exact fillE y
end En
end Go.Proofs.Ytdilbicdaljfkaa
