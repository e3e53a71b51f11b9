/- remap: laws over disks and tables: what their regions share. -/
import Derived.Test.YtllejfnmbpjhaaaGreatDoorTwin
import Derived.Test.YtllejfnmbpjhaaaGreatDoorJRa
import Derived.Test.YtllejfnmbpjhaaaGreatDoorJRc
import Derived.Test.YtllejfnmbpjhaaaGreatDoorJRv
namespace Go.Proofs.YtllejfnmbpjhaaaGreatDoor
set_option maxRecDepth 20000
namespace Rm
open Go.RowKit Dk Byt

theorem NewTab.mono {w : World} {B B' : Nat} {gen : Int} {k : Nat} {F T : Nat → Int} {v : Value} (h : NewTab w B gen k F T v) (hb : B' ≤ B) : NewTab w B' gen k F T v := by
  obtain ⟨ao, cap, e, h⟩ := h
  exact ⟨ao, cap, e, owns_mono h hb⟩
theorem NewTab.below {w w' : World} {B : Nat} {gen : Int} {k : Nat} {F T : Nat → Int} {v : Value} (h : NewTab w B gen k F T v) (hb : Below w.heap.size w w') : NewTab w' B gen k F T v := by
  obtain ⟨ao, cap, e, h⟩ := h
  exact ⟨ao, cap, e, owns_below h hb⟩
theorem NewTab.row {w : World} {B b : Nat} {gen : Int} {k : Nat} {F T : Nat → Int} {v : Value} {c0 : Array Value} (h : NewTab w B gen k F T v) (hb : w.heap[b]? = some (.cells c0 28 (0, 0))) (c : Array Value) : NewTab (w.setRow b c) B gen k F T v := by
  obtain ⟨ao, cap, e, h⟩ := h
  exact ⟨ao, cap, e, Twin.owns_row h hb (by decide) c⟩

theorem guardBl : Tryz.prog.eqGuardType Tryz.prog.depth 36 = false := by kernel_rfl
theorem HasD.of {w : World} {g : Nat} {sa ca : Option Addr} {n sc m cc : Nat} {S : Nat → Sec} {C : Nat → Wr} {f : Int} {d : Bool} (h : Has w g sa ca n sc m cc S C f d) : HasD w g n ⟨m, S, C, f, d⟩ := ⟨sa, sc, ca, cc, h⟩

/-- a table's row has two numbers one behind the other: it lies in no block that has none -/
def NoTwo (c : Array Value) : Prop := ∀ j, ¬ ∃ x y : Int, c[j]? = some (.int .i64 x) ∧ c[j + 1]? = some (.int .i64 y)
theorem noTwo_disk (a b : Option Addr) (n c m e : Nat) (f : Int) (d : Bool) : NoTwo #[.slice a n c, .slice b m e, .int .i64 f, .bool d] := by
  rintro j ⟨x, y, h1, h2⟩
  match j with
  | 0 => simp at h1
  | 1 => simp at h1
  | 2 => simp at h2
  | j + 3 => simp at h2
theorem noTwo_tab (gen : Int) (a : Option Addr) (n c : Nat) : NoTwo #[.int .i64 gen, .slice a n c] := by
  rintro j ⟨x, y, h1, h2⟩
  match j with
  | 0 => simp at h2
  | j + 1 => simp at h2
theorem lay_off {w : World} {B g q : Nat} {ao : Option Addr} {n cap : Nat} {F T : Nat → Int} (h : Lay w B g ao n cap 2 (prV F T)) {c : Array Value} {t : TypeId} {fr : Nat × Nat} (hq : w.heap[q]? = some (.cells c t fr)) (hc : NoTwo c) : Lay w B q ao n cap 2 (prV F T) := by
  refine ⟨h.room, h.nil, ?_⟩
  rcases h.rows with h0 | ⟨b, off, e, hb, hne, hr⟩
  · exact .inl h0
  · rcases Nat.eq_zero_or_pos n with h0 | h0
    · exact .inl h0
    · refine .inr ⟨b, off, e, hb, ?_, hr⟩
      rintro rfl
      have h1 := hr 0 h0 0 (.int .i64 (F 0)) rfl
      have h2 := hr 0 h0 1 (.int .i64 (T 0)) rfl
      rw [cell_of_row w b _ _ _ _ hq] at h1 h2
      exact hc _ ⟨_, _, h1, h2⟩
/-- a table in the variable of block b, behind what turned a disk in g and a table in q -/
theorem HasT.apart {w w' : World} {b g0 g q : Nat} {M : Tab} (h : HasT w b g0 M) {cg cq : Array Value} {tg tq : TypeId} {fg fq : Nat × Nat} (hg : w.heap[g]? = some (.cells cg tg fg)) (hq : w.heap[q]? = some (.cells cq tq fq)) (ng : NoTwo cg) (nq : NoTwo cq) (h1 : b ≠ g) (h2 : b ≠ q) (hT : Two w w' g q) {g1 : Nat} {c1 : Array Value} {t1 : TypeId} {f1 : Nat × Nat} (hw1 : w.heap[g1]? = some (.cells c1 t1 f1)) (n1 : NoTwo c1) : HasT w' b g1 M := by
  obtain ⟨pa, cap, hb, hl⟩ := h
  refine ⟨pa, cap, (hT.block b (Array.getElem?_eq_some_iff.1 hb).1 h1 h2).trans hb, ?_⟩
  have l1 := lay_off hl hg ng
  have l2 := lay_off hl hq nq
  have l3 := lay_off hl hw1 n1
  refine ⟨l3.room, l3.nil, ?_⟩
  rcases l1.rows with h0 | ⟨c, off, e, hc, hne, hr⟩
  · exact .inl h0
  · rcases l2.rows with h0 | ⟨c2, off2, e2, _, hne2, _⟩
    · exact .inl h0
    · rcases l3.rows with h0 | ⟨c3, off3, e3, _, hne3, _⟩
      · exact .inl h0
      · rw [e] at e2 e3
        injection e2 with e2
        injection e2 with e2
        injection e3 with e3
        injection e3 with e3
        refine .inr ⟨c, off, e, Nat.lt_of_lt_of_le hc hT.size, by omega, fun i hi j v hv => ?_⟩
        exact (World.cell?_of_block (w := w) (hT.block c hc hne (by omega))).trans (hr i hi j v hv)
end Rm
end Go.Proofs.YtllejfnmbpjhaaaGreatDoor
