/- remap: Load, walked (made by tools/gen_load.py). -/
import Derived.Test.YtllejfnmbpjhaaaDoorRmTake
import Derived.Test.YtllejfnmbpjhaaaDoorRmBackT
import Derived.Test.YtllejfnmbpjhaaaDoorRmRefWM
import Derived.Deep.CutRange
import Derived.BigGuard
namespace Go.Proofs.YtllejfnmbpjhaaaDoor
set_option maxRecDepth 20000
namespace Rm
open Go.RowKit Dk Byt Eqb

attribute [local go_sem] zv29
attribute [local go_sem] zc29
/-- the places of tables, in the order in which Load looks at them -/
def ldA (n i : Nat) : Int := (i : Int) / 2 * halfN n + (i : Int) % 2 % 2
def ldE (n : Nat) (X : Dst) (i : Nat) : Int := rdE n X.m X.S X.C X.d (ldA n i)
def ldV (n : Nat) (X : Dst) (i : Nat) : Nat → Int := rdV n X.m X.S X.C X.d (ldA n i)
/-- does this place have a table that counts -/
def ldB (n : Nat) (X : Dst) (i : Nat) : Bool := decide (ldE n X i = 0) && (tkOk n (ldV n X i) && decide (tkA (ldV n X i) % 2 = (i : Int) % 2))
/-- the place of the newest of the first ones -/
def ldI (n : Nat) (X : Dst) : Nat → Option Nat
  | 0 => none
  | i + 1 => match ldI n X i with
    | none => if ldB n X i = true then some i else none
    | some j => if ldB n X i = true ∧ tkA (ldV n X j) < tkA (ldV n X i) then some i else some j
def noTab : Tab := ⟨0, 0, fun _ => 0, fun _ => 0⟩
def ldT (n : Nat) (X : Dst) : Option Nat → Tab
  | none => noTab
  | some j => ⟨tkA (ldV n X j), tkK (ldV n X j), tkF (ldV n X j), tkT (ldV n X j)⟩
def ldF (n : Nat) (X : Dst) : Option Nat := if hfN n X = 0 ∨ X.d = true then none else ldI n X 4
def ldEr (n : Nat) (X : Dst) : Int := if hfN n X = 0 then 1 else if X.d = true then 3 else if (ldI n X 4).isSome = true then 0 else 2
/-- is v the table M, in memory of its own -/
def IsTab (w : World) (B : Nat) (M : Tab) (v : Value) : Prop := NewTab w B M.gen M.k M.F M.T v
theorem ldI_no {n : Nat} {X : Dst} {i : Nat} (h : ldB n X i = false) : ldI n X (i + 1) = ldI n X i := by
  simp only [ldI]
  cases ldI n X i <;> simp [h]
theorem ldI_new {n : Nat} {X : Dst} {i : Nat} (h : ldB n X i = true) (hn : ldI n X i = none) : ldI n X (i + 1) = some i := by
  simp only [ldI]
  rw [hn]
  simp [h]
theorem ldI_old {n : Nat} {X : Dst} {i j : Nat} (hn : ldI n X i = some j) (hg : tkA (ldV n X i) ≤ tkA (ldV n X j)) : ldI n X (i + 1) = ldI n X i := by
  simp only [ldI]
  rw [hn]
  dsimp only
  rw [if_neg (by omega)]
theorem ldI_up {n : Nat} {X : Dst} {i j : Nat} (h : ldB n X i = true) (hn : ldI n X i = some j) (hg : tkA (ldV n X j) < tkA (ldV n X i)) : ldI n X (i + 1) = some i := by
  simp only [ldI]
  rw [hn]
  dsimp only
  rw [if_pos ⟨h, hg⟩]

/-- what Take answers -/
def TV (s : Int) (D : Nat → Int) (B : Nat) (u : Value) (w : World) : Prop := ∃ v, u = .tuple #[v, .int .i64 (tkE s D)] ∧ NewTab w B (tkG s D) (tkN s D) (tkF D) (tkT D) v
theorem TV.below {w w' : World} {s : Int} {D : Nat → Int} {B : Nat} {u : Value} (h : TV s D B u w) (hb : Below w.heap.size w w') : TV s D B u w' := by
  obtain ⟨v, e, hv⟩ := h
  exact ⟨v, e, hv.below hb⟩
theorem TV.row {w : World} {s : Int} {D : Nat → Int} {B b : Nat} {u : Value} {c0 : Array Value} (h : TV s D B u w) (hb : w.heap[b]? = some (.cells c0 26 (0, 0))) (c : Array Value) : TV s D B u (w.setRow b c) := by
  obtain ⟨v, e, hv⟩ := h
  exact ⟨v, e, hv.row hb c⟩
/-- m, e := Take(b, len(d.Sectors)), in whatever order: what holds at each moment -/
structure Lt (sa : Option Addr) (sc g n : Nat) (D : Nat → Int) (s : Int) (W : World) (L : Nat → Bool) (u0 u1 u2 u3 u4 u5 u6 u7 u8 u9 u10 u11 : Value) (w' : World) : Prop where
  a0 : L 0 = true → u0 = .agg (bl D).toArray
  a1 : L 1 = true → u1 = .pointer (some ⟨g, 0, none⟩)
  a2 : L 2 = true → u2 = .pointer (some ⟨g, 0, none⟩)
  a3 : L 3 = true → u3 = .pointer (some ⟨g, 0, none⟩)
  a4 : L 4 = true → u4 = .slice sa n sc
  a5 : L 5 = true → u5 = .int .i64 (n : Int)
  a6 : L 6 = true → TV s D W.heap.size u6 w'
  a7 : L 7 = true → TV s D W.heap.size u7 w'
  a8 : L 8 = true → NewTab w' W.heap.size (tkG s D) (tkN s D) (tkF D) (tkT D) u8
  a9 : L 9 = true → u9 = .int .i64 (tkE s D)
  a10 : L 10 = true → ∃ b c, u10 = .pointer (some ⟨b, 0, none⟩) ∧ W.heap.size ≤ b ∧ w'.heap[b]? = some (.cells c 26 (0, 0)) ∧ c.size = 2 ∧ (L 11 = true → NewTab w' W.heap.size (tkG s D) (tkN s D) (tkF D) (tkT D) (.agg c))
  a12 : L 12 = true → u11 = .int .i64 (tkE s D)
  o11 : L 11 = true → L 8 = true ∧ L 10 = true
  be : Below W.heap.size W w'
section
variable {sa : Option Addr} {sc g n : Nat} {D : Nat → Int} {s : Int} {W : World} {L : Nat → Bool} {u0 u1 u2 u3 u4 u5 u6 u7 u8 u9 u10 u11 : Value} {w' w'' : World}
theorem Lt.start : Lt sa sc g n D s W (fun _ => false) u0 u1 u2 u3 u4 u5 u6 u7 u8 u9 u10 u11 { W with drawn := W.drawn + 1 } := by
  constructor <;> first | exact ⟨rfl, rfl, rfl, Nat.le_refl _, fun _ _ => rfl⟩ | simp
theorem Lt.set0 (h : Lt sa sc g n D s W L u0 u1 u2 u3 u4 u5 u6 u7 u8 u9 u10 u11 w') : Lt sa sc g n D s W (fun j => j == 0 || L j) (.agg (bl D).toArray) u1 u2 u3 u4 u5 u6 u7 u8 u9 u10 u11 w' :=
  ⟨fun _ => rfl, Twin.kl h.a1 rfl, Twin.kl h.a2 rfl, Twin.kl h.a3 rfl, Twin.kl h.a4 rfl, Twin.kl h.a5 rfl, Twin.kl h.a6 rfl, Twin.kl h.a7 rfl, Twin.kl h.a8 rfl, Twin.kl h.a9 rfl, Twin.kl h.a10 rfl, Twin.kl h.a12 rfl, h.o11, h.be⟩
theorem Lt.set1 (h : Lt sa sc g n D s W L u0 u1 u2 u3 u4 u5 u6 u7 u8 u9 u10 u11 w') : Lt sa sc g n D s W (fun j => j == 1 || L j) u0 (.pointer (some ⟨g, 0, none⟩)) u2 u3 u4 u5 u6 u7 u8 u9 u10 u11 w' :=
  ⟨Twin.kl h.a0 rfl, fun _ => rfl, Twin.kl h.a2 rfl, Twin.kl h.a3 rfl, Twin.kl h.a4 rfl, Twin.kl h.a5 rfl, Twin.kl h.a6 rfl, Twin.kl h.a7 rfl, Twin.kl h.a8 rfl, Twin.kl h.a9 rfl, Twin.kl h.a10 rfl, Twin.kl h.a12 rfl, h.o11, h.be⟩
theorem Lt.set2 (h : Lt sa sc g n D s W L u0 u1 u2 u3 u4 u5 u6 u7 u8 u9 u10 u11 w') : Lt sa sc g n D s W (fun j => j == 2 || L j) u0 u1 (.pointer (some ⟨g, 0, none⟩)) u3 u4 u5 u6 u7 u8 u9 u10 u11 w' :=
  ⟨Twin.kl h.a0 rfl, Twin.kl h.a1 rfl, fun _ => rfl, Twin.kl h.a3 rfl, Twin.kl h.a4 rfl, Twin.kl h.a5 rfl, Twin.kl h.a6 rfl, Twin.kl h.a7 rfl, Twin.kl h.a8 rfl, Twin.kl h.a9 rfl, Twin.kl h.a10 rfl, Twin.kl h.a12 rfl, h.o11, h.be⟩
theorem Lt.set3 (h : Lt sa sc g n D s W L u0 u1 u2 u3 u4 u5 u6 u7 u8 u9 u10 u11 w') : Lt sa sc g n D s W (fun j => j == 3 || L j) u0 u1 u2 (.pointer (some ⟨g, 0, none⟩)) u4 u5 u6 u7 u8 u9 u10 u11 w' :=
  ⟨Twin.kl h.a0 rfl, Twin.kl h.a1 rfl, Twin.kl h.a2 rfl, fun _ => rfl, Twin.kl h.a4 rfl, Twin.kl h.a5 rfl, Twin.kl h.a6 rfl, Twin.kl h.a7 rfl, Twin.kl h.a8 rfl, Twin.kl h.a9 rfl, Twin.kl h.a10 rfl, Twin.kl h.a12 rfl, h.o11, h.be⟩
theorem Lt.set4 (h : Lt sa sc g n D s W L u0 u1 u2 u3 u4 u5 u6 u7 u8 u9 u10 u11 w') : Lt sa sc g n D s W (fun j => j == 4 || L j) u0 u1 u2 u3 (.slice sa n sc) u5 u6 u7 u8 u9 u10 u11 w' :=
  ⟨Twin.kl h.a0 rfl, Twin.kl h.a1 rfl, Twin.kl h.a2 rfl, Twin.kl h.a3 rfl, fun _ => rfl, Twin.kl h.a5 rfl, Twin.kl h.a6 rfl, Twin.kl h.a7 rfl, Twin.kl h.a8 rfl, Twin.kl h.a9 rfl, Twin.kl h.a10 rfl, Twin.kl h.a12 rfl, h.o11, h.be⟩
theorem Lt.set5 (h : Lt sa sc g n D s W L u0 u1 u2 u3 u4 u5 u6 u7 u8 u9 u10 u11 w') : Lt sa sc g n D s W (fun j => j == 5 || L j) u0 u1 u2 u3 u4 (.int .i64 (n : Int)) u6 u7 u8 u9 u10 u11 w' :=
  ⟨Twin.kl h.a0 rfl, Twin.kl h.a1 rfl, Twin.kl h.a2 rfl, Twin.kl h.a3 rfl, Twin.kl h.a4 rfl, fun _ => rfl, Twin.kl h.a6 rfl, Twin.kl h.a7 rfl, Twin.kl h.a8 rfl, Twin.kl h.a9 rfl, Twin.kl h.a10 rfl, Twin.kl h.a12 rfl, h.o11, h.be⟩
theorem Lt.set9 (h : Lt sa sc g n D s W L u0 u1 u2 u3 u4 u5 u6 u7 u8 u9 u10 u11 w') : Lt sa sc g n D s W (fun j => j == 9 || L j) u0 u1 u2 u3 u4 u5 u6 u7 u8 (.int .i64 (tkE s D)) u10 u11 w' :=
  ⟨Twin.kl h.a0 rfl, Twin.kl h.a1 rfl, Twin.kl h.a2 rfl, Twin.kl h.a3 rfl, Twin.kl h.a4 rfl, Twin.kl h.a5 rfl, Twin.kl h.a6 rfl, Twin.kl h.a7 rfl, Twin.kl h.a8 rfl, fun _ => rfl, Twin.kl h.a10 rfl, Twin.kl h.a12 rfl, h.o11, h.be⟩
theorem Lt.set12 (h : Lt sa sc g n D s W L u0 u1 u2 u3 u4 u5 u6 u7 u8 u9 u10 u11 w') : Lt sa sc g n D s W (fun j => j == 12 || L j) u0 u1 u2 u3 u4 u5 u6 u7 u8 u9 u10 (.int .i64 (tkE s D)) w' :=
  ⟨Twin.kl h.a0 rfl, Twin.kl h.a1 rfl, Twin.kl h.a2 rfl, Twin.kl h.a3 rfl, Twin.kl h.a4 rfl, Twin.kl h.a5 rfl, Twin.kl h.a6 rfl, Twin.kl h.a7 rfl, Twin.kl h.a8 rfl, Twin.kl h.a9 rfl, Twin.kl h.a10 rfl, fun _ => rfl, h.o11, h.be⟩
theorem Lt.call6 (h : Lt sa sc g n D s W L u0 u1 u2 u3 u4 u5 u6 u7 u8 u9 u10 u11 w') {v : Value} (hv : TV s D W.heap.size v w'') (hb : Below w'.heap.size w' w'') : Lt sa sc g n D s W (fun j => j == 6 || L j) u0 u1 u2 u3 u4 u5 v u7 u8 u9 u10 u11 w'' := by
  refine ⟨Twin.kl h.a0 rfl, Twin.kl h.a1 rfl, Twin.kl h.a2 rfl, Twin.kl h.a3 rfl, Twin.kl h.a4 rfl, Twin.kl h.a5 rfl, fun _ => hv, Twin.kl (fun e => (h.a7 e).below hb) rfl, Twin.kl (fun e => (h.a8 e).below hb) rfl, Twin.kl h.a9 rfl, ?_, Twin.kl h.a12 rfl, h.o11, h.be.trans (hb.mono h.be.size)⟩
  intro e
  obtain ⟨b, c, e1, e2, e3, e4, e5⟩ := h.a10 e
  exact ⟨b, c, e1, e2, (hb.block b (Twin.blk e3)).trans e3, e4, fun e6 => (e5 e6).below hb⟩
theorem Lt.set7 (h : Lt sa sc g n D s W L u0 u1 u2 u3 u4 u5 u6 u7 u8 u9 u10 u11 w') {v : Value} (hv : TV s D W.heap.size v w') : Lt sa sc g n D s W (fun j => j == 7 || L j) u0 u1 u2 u3 u4 u5 u6 v u8 u9 u10 u11 w' :=
  ⟨Twin.kl h.a0 rfl, Twin.kl h.a1 rfl, Twin.kl h.a2 rfl, Twin.kl h.a3 rfl, Twin.kl h.a4 rfl, Twin.kl h.a5 rfl, Twin.kl h.a6 rfl, fun _ => hv, Twin.kl h.a8 rfl, Twin.kl h.a9 rfl, Twin.kl h.a10 rfl, Twin.kl h.a12 rfl, h.o11, h.be⟩
theorem Lt.set8 (h : Lt sa sc g n D s W L u0 u1 u2 u3 u4 u5 u6 u7 u8 u9 u10 u11 w') (hL : L 8 = false) {v : Value} (hv : NewTab w' W.heap.size (tkG s D) (tkN s D) (tkF D) (tkT D) v) : Lt sa sc g n D s W (fun j => j == 8 || L j) u0 u1 u2 u3 u4 u5 u6 u7 v u9 u10 u11 w' :=
  ⟨Twin.kl h.a0 rfl, Twin.kl h.a1 rfl, Twin.kl h.a2 rfl, Twin.kl h.a3 rfl, Twin.kl h.a4 rfl, Twin.kl h.a5 rfl, Twin.kl h.a6 rfl, Twin.kl h.a7 rfl, fun _ => hv, Twin.kl h.a9 rfl, Twin.kl h.a10 rfl, Twin.kl h.a12 rfl, (fun e => by
    have e' : L 11 = true := e
    have := (h.o11 e').1
    rw [hL] at this
    cases this), h.be⟩
theorem Lt.alloc10 (h : Lt sa sc g n D s W L u0 u1 u2 u3 u4 u5 u6 u7 u8 u9 u10 u11 w') (hL : L 10 = false) {Z : Array Value} (hz : Z.size = 2) : Lt sa sc g n D s W (fun j => j == 10 || L j) u0 u1 u2 u3 u4 u5 u6 u7 u8 u9 (.pointer (some ⟨w'.heap.size, 0, none⟩)) u11 (w'.alloc (.cells Z 26)) := by
  have h11 : L 11 = false := by
    cases e : L 11 with
    | false => rfl
    | true => rw [(h.o11 e).2] at hL; cases hL
  have hb : Below w'.heap.size w' (w'.alloc (.cells Z 26)) := (Below.refl _ _).alloc (Nat.le_refl _) _
  refine ⟨Twin.kl h.a0 rfl, Twin.kl h.a1 rfl, Twin.kl h.a2 rfl, Twin.kl h.a3 rfl, Twin.kl h.a4 rfl, Twin.kl h.a5 rfl, Twin.kl (fun e => (h.a6 e).below hb) rfl, Twin.kl (fun e => (h.a7 e).below hb) rfl, Twin.kl (fun e => (h.a8 e).below hb) rfl, Twin.kl h.a9 rfl, ?_, Twin.kl h.a12 rfl, ?_, h.be.trans (hb.mono h.be.size)⟩
  · exact fun _ => ⟨_, Z, rfl, h.be.size, heap_alloc_new _ _, hz, fun e => by
      have e' : L 11 = true := e
      rw [h11] at e'; cases e'⟩
  · intro e
    have e' : L 11 = true := e
    rw [h11] at e'; cases e'
theorem Lt.store11 (h : Lt sa sc g n D s W L u0 u1 u2 u3 u4 u5 u6 u7 u8 u9 u10 u11 w') (h8 : L 8 = true) (h10 : L 10 = true) {b : Nat} {c c0 : Array Value} (e10 : u10 = .pointer (some ⟨b, 0, none⟩)) (e8 : u8 = .agg c) (hb : w'.heap[b]? = some (.cells c0 26 (0, 0))) (hc : c.size = 2) : Lt sa sc g n D s W (fun j => j == 11 || L j) u0 u1 u2 u3 u4 u5 u6 u7 u8 u9 u10 u11 (w'.setRow b c) := by
  have hW : W.heap.size ≤ b := by
    obtain ⟨b', c', f1, f2, _⟩ := h.a10 h10
    rw [e10] at f1
    injection f1 with f1
    injection f1 with f1
    injection f1 with f1
    omega
  refine ⟨Twin.kl h.a0 rfl, Twin.kl h.a1 rfl, Twin.kl h.a2 rfl, Twin.kl h.a3 rfl, Twin.kl h.a4 rfl, Twin.kl h.a5 rfl, Twin.kl (fun e => (h.a6 e).row hb c) rfl, Twin.kl (fun e => (h.a7 e).row hb c) rfl, Twin.kl (fun e => (h.a8 e).row hb c) rfl, Twin.kl h.a9 rfl, ?_, Twin.kl h.a12 rfl, fun _ => ⟨by simpa using h8, by simpa using h10⟩, Twin.row_below h.be hW c⟩
  exact fun _ => ⟨b, c, e10, hW, setRow_heap _ _ _ _ _ _ hb, hc, fun _ => by rw [← e8]; exact (h.a8 h8).row hb c⟩
theorem Lt.fin (h : Lt sa sc g n D s W L u0 u1 u2 u3 u4 u5 u6 u7 u8 u9 u10 u11 w') (hL : ∀ i, i < 13 → L i = true) : ∃ b c, u10 = .pointer (some ⟨b, 0, none⟩) ∧ u11 = .int .i64 (tkE s D) ∧ W.heap.size ≤ b ∧ w'.heap[b]? = some (.cells c 26 (0, 0)) ∧ NewTab w' W.heap.size (tkG s D) (tkN s D) (tkF D) (tkT D) (.agg c) ∧ Below W.heap.size W w' := by
  obtain ⟨b, c, e1, e2, e3, _, e5⟩ := h.a10 (hL 10 (by omega))
  exact ⟨b, c, e1, h.a12 (hL 12 (by omega)), e2, e3, e5 (hL 11 (by omega)), h.be⟩
end
def LdInv (x1 x2 x3 x4 x5 x6 x7 x8 x9 x13 x14 x15 x16 x17 x18 x19 x20 x21 x22 x23 x24 x25 x26 x27 x28 x29 x30 x31 x32 x33 x34 x35 x36 x37 x38 x39 x40 x41 x52 x53 x54 x55 x56 x57 x58 x59 x60 x61 x62 x63 x64 x65 x66 x67 x68 x69 x70 x71 x72 x73 x74 x75 x76 : Value) (bq : Nat) (sa : Option Addr) (sc g n : Nat) (D : Nat → Int) (s : Int) (W : World) (L : Nat → Bool) (a' : Act) (w' : World) : Prop :=
  ∃ u0 u1 u2 u3 u4 u5 u6 u7 u8 u9 u10 u11, a' = { tmps := #[.pointer (some ⟨g, 0, none⟩), x1, x2, x3, x4, x5, x6, x7, x8, x9, .pointer (some ⟨bq, 0, none⟩), u11, u10, x13, x14, x15, x16, x17, x18, x19, x20, x21, x22, x23, x24, x25, x26, x27, x28, x29, x30, x31, x32, x33, x34, x35, x36, x37, x38, x39, x40, x41, u7, u0, u1, u2, u3, u4, u5, u6, u8, u9, x52, x53, x54, x55, x56, x57, x58, x59, x60, x61, x62, x63, x64, x65, x66, x67, x68, x69, x70, x71, x72, x73, x74, x75, x76], defers := [] } ∧ Lt sa sc g n D s W L u0 u1 u2 u3 u4 u5 u6 u7 u8 u9 u10 u11 w'

/-- Load's loop: what lies where -/
def LdW (w : World) (b n : Nat) (X : Dst) (i : Nat) (wr : World) : Prop :=
  Below w.heap.size w wr ∧ (w.heap.size < b ∧ b < wr.heap.size ∧ wr.heap[w.heap.size]? = some (.cells #[.int .i64 0, .slice none 0 0] 26 (0, 0))) ∧ ∃ ao cap, wr.heap[b]? = some (.cells #[.int .i64 (ldT n X (ldI n X i)).gen, .slice ao (ldT n X (ldI n X i)).k cap] 26 (0, 0)) ∧ wr.ownsRow w.heap.size 100 2 (.slice ao (ldT n X (ldI n X i)).k cap) (ldT n X (ldI n X i)).k (flat (prV (ldT n X (ldI n X i)).F (ldT n X (ldI n X i)).T) (ldT n X (ldI n X i)).k)
theorem LdW.below {w w' : World} {b n : Nat} {X : Dst} {i : Nat} {wr : World} (h : LdW w b n X i wr) (hb : Below wr.heap.size wr w') : LdW w b n X i w' := by
  obtain ⟨h1, ⟨h2, h3, h4⟩, ao, cap, h5, h6⟩ := h
  exact ⟨h1.trans (hb.mono h1.size), ⟨h2, Nat.lt_of_lt_of_le h3 hb.size, (hb.block _ (by omega)).trans h4⟩, ao, cap, (hb.block b h3).trans h5, owns_below h6 hb⟩
theorem LdW.same {w : World} {b n : Nat} {X : Dst} {i j : Nat} {wr : World} (h : LdW w b n X i wr) (e : ldI n X j = ldI n X i) : LdW w b n X j wr := by
  unfold LdW at h ⊢
  rw [e]
  exact h
theorem results_ld {tmps : Array Value} {w : World} {B : Nat} {u : Array Value} {e : Int} {fn : Func} (hf : fn.results = #[.cell 2 26, .tmp 3]) (h2 : tmps.getD 2 undef = .pointer (some ⟨B, 0, none⟩)) (h5 : tmps.getD 3 undef = .int .i64 e)
    (hA : w.heap[B]? = some (.cells u 26 (0, 0))) (su : u.size = 2) : (results fn tmps).run Tryd.prog w = .ok (.tuple #[.agg u, .int .i64 e]) w := by
  have h2' : tmps[2]?.getD undef = .pointer (some ⟨B, 0, none⟩) := by simpa using h2
  have h5' : tmps[3]?.getD undef = .int .i64 e := by simpa using h5
  have k2 := run_loadVar_row (P := Tryd.prog) w B 26 26 u (0, 0) _ hA Tryd.underlying26 rfl (by rw [su]; kernel_rfl)
  simp [results, hf, h2', h5', asAddr, k2]

set_option maxRecDepth 100000 in
set_option maxHeartbeats 8000000 in
theorem load_d {w : World} {g n : Nat} {X : Dst} (h : HasD w g n X) (hby : ∀ i, i < 4 → ∀ j, j < 128 → 0 ≤ ldV n X i j ∧ ldV n X i j < 256) (hkp : Kp w) :
    Calls Tryd.prog 24 #[.pointer (some ⟨g, 0, none⟩)] w fun e w' => (∃ v, e = .returned (.tuple #[v, .int .i64 (ldEr n X)]) ∧ IsTab w' w.heap.size (ldT n X (ldF n X)) v) ∧ Below w.heap.size w w' := by
  unfold IsTab
  have HD := Lib.hid h
  have HBY := Lib.hid hby
  have HK := Lib.hid (fun W (hb : Below w.heap.size w W) => hkp.below hb)
  have hgl := h.lt
  have HER : Hid (ldEr n X = if hfN n X = 0 then 1 else if X.d = true then 3 else if (ldI n X 4).isSome = true then 0 else 2) := Lib.hid rfl
  have HFD : Hid (ldF n X = if hfN n X = 0 ∨ X.d = true then none else ldI n X 4) := Lib.hid rfl
  have hlz := Lib.hid (tab_none (F := noTab.F) (T := noTab.T))
  generalize ldEr n X = ER at HER ⊢
  generalize ldF n X = FD at HFD ⊢
  clear h hby hkp
  obtain ⟨W, hW, hB0, hx0, hs0⟩ : ∃ W, W = w.alloc (.cells #[.int .i64 0, .slice none 0 0] 26) ∧ Below w.heap.size w W ∧ W.heap[w.heap.size]? = some (.cells #[.int .i64 0, .slice none 0 0] 26 (0, 0)) ∧ W.heap.size = w.heap.size + 1 :=
    ⟨_, rfl, (Below.refl _ _).alloc (Nat.le_refl _) _, heap_alloc_new _ _, by simp⟩
  go_enter Tryd.func24, Tryd.ntmps24
  go_wp2_with fail
  rw [← hW]
  clear hW
  go_step3
  go_wp2_with fail
  refine (half_d (HD.out.below hB0)).mono ?_
  rintro _ w1 ⟨rfl, hb1⟩
  have hB1 : Below w.heap.size w w1 := hB0.trans (hb1.mono hB0.size)
  have hx1 := (hb1.block w.heap.size (by omega)).trans hx0
  have hl1 : w.heap.size < w1.heap.size := by have := hb1.size; omega
  have hHF : Hid (hfN n X ≠ 0 → formed n X ∧ hfN n X = halfN n) := Lib.hid (fun h0 => by
    unfold hfN at h0 ⊢
    unfold formed
    split at h0
    · rename_i h1
      exact ⟨h1, if_pos h1⟩
    · exact absurd rfl h0)
  have hhb := halfN_bd n
  generalize hfN n X = H at HER HFD hHF ⊢
  clear hb1 hx0 hs0 hB0
  clear W
  dsimp only
  by_cases hH : H = 0
  · subst hH
    go_wp2_with (refine @wpList_store_row _ _ _ _ _ _ _ rfl 26 (.tmp 2) (.tmp 17) rfl w.heap.size #[.int .i64 0, .slice none 0 0] rfl rfl 26 _ hx1 (by kernel_rfl) rfl (tb_one _ _ _ _) ?_; simp only [Act.put])
    have hrz := setRow_heap w1 w.heap.size _ #[.int .i64 0, .slice none 0 0] 26 (0, 0) hx1
    refine bodyPost_ret (results_ld rfl rfl rfl hrz rfl) rfl ?_
    exact ⟨⟨_, by rw [HER.out]; rfl, by rw [HFD.out, if_pos (.inl (by trivial))]; exact tab_none _ _ _ _⟩, Twin.row_below hB1 (Nat.le_refl _) _⟩
  · have hne : (H == 0) = false := by simpa using hH
    have HFE := Lib.hid (hHF.out hH).2
    have hh4 : 4 ≤ H := by
      have h1 := HFE.out
      have := hhb.2.2 (by omega)
      omega
    have hh8 : H ≤ 2038 := by
      have h1 := HFE.out
      omega
    have HC3 := Lib.hid (fun w' (hw' : Below w.heap.size w w') => (show w'.cell? ⟨g, 3, none⟩ = some (.bool X.d) from by
      obtain ⟨_, _, _, _, hh⟩ := HD.out.below hw'
      exact hh.bx.c3))
    have k3 := HC3.out w1 hB1
    have HXD : Hid (∀ b, X.d = b → X.d = b) := Lib.hid (fun _ e => e)
    cases hd : X.d with
    | true =>
      rw [hd] at k3
      go_wp2_with (refine @wpList_store_row _ _ _ _ _ _ _ rfl 26 (.tmp 2) (.tmp 22) rfl w.heap.size #[.int .i64 0, .slice none 0 0] rfl rfl 26 _ hx1 (by kernel_rfl) rfl (tb_one _ _ _ _) ?_; simp only [Act.put])
      have hrz := setRow_heap w1 w.heap.size _ #[.int .i64 0, .slice none 0 0] 26 (0, 0) hx1
      rw [Exit.noGoto_ret]
      refine bodyPost_ret (results_ld rfl rfl rfl hrz rfl) rfl ?_
      exact ⟨⟨_, by rw [HER.out, if_neg hH, if_pos hd], by rw [HFD.out, if_pos (.inr hd)]; exact tab_none _ _ _ _⟩, Twin.row_below hB1 (Nat.le_refl _) _⟩
    | false =>
      rw [hd] at k3
      obtain ⟨W2, hW2, hb2, hx2, hs2⟩ : ∃ W2, W2 = w1.alloc (.cells #[.int .i64 0, .slice none 0 0] 26) ∧ Below w1.heap.size w1 W2 ∧ W2.heap[w1.heap.size]? = some (.cells #[.int .i64 0, .slice none 0 0] 26 (0, 0)) ∧ W2.heap.size = w1.heap.size + 1 :=
        ⟨_, rfl, (Below.refl _ _).alloc (Nat.le_refl _) _, heap_alloc_new _ _, by simp⟩
      have HI : Hid (LdW w w1.heap.size n X 0 W2) := Lib.hid ⟨hB1.trans (hb2.mono hB1.size), ⟨hl1, by omega, (hb2.block _ hl1).trans hx1⟩, none, 0, hx2, World.ownsRow_nil _ _ _ _⟩
      replace HER : Hid (ER = if (ldI n X 4).isSome = true then 0 else 2) := Lib.hid (by rw [HER.out, if_neg hH, if_neg (by rw [hd]; simp)])
      replace HFD : Hid (FD = ldI n X 4) := Lib.hid (by rw [HFD.out, if_neg (by rw [hd]; simp [hH])])
      clear hb2 hx2 hx1 hs2 HC3 HXD hHF hd
      subst hW2
      go_wp2_with (refine @wpList_store_row _ _ _ _ _ _ _ rfl 26 (.tmp 5) (.tmp 23) rfl w1.heap.size #[.int .i64 0, .slice none 0 0] rfl rfl 26 _ (heap_alloc_new _ _) (by kernel_rfl) rfl (tb_one _ _ _ _) ?_; rw [World.setRow_alloc_new]; simp only [Act.put])
      generalize w1.alloc (.cells #[.int .i64 0, .slice none 0 0] 26) = W2 at HI ⊢
      generalize w1.heap.size = b5 at HI ⊢
      clear hB1 hl1 k3
      clear w1
      go_step3
      go_wp2_with fail
      go_loopw [6, 24] (fun fv iv wr => ∃ i : Nat, i ≤ 4 ∧ iv = .int .i64 i ∧ ∃ q : Bool, fv = .bool q ∧ q = (ldI n X i).isSome ∧ Hid (LdW w b5 n X i wr)) (fun _ iv _ => 4 - (intOf iv).toNat)
      case atStart => exact ⟨0, by omega, rfl, false, rfl, rfl, HI⟩
      case round =>
        clear HI
        obtain ⟨i, hi, rfl, q, rfl, hq, hR⟩ := hrel
        by_cases hlt : i < 4
        · have hi0 : (0 : Int) ≤ (i : Int) := by omega
          have hi4 : (i : Int) < 4 := by omega
          have HTA := Lib.hid (tableAt_any H ((i : Int) % 2) ((i : Int) / 2) wr (by omega) (by omega) (by omega) (by omega) (by omega))
          have hae : (i : Int) / 2 * H + (i : Int) % 2 % 2 = ldA n i := by rw [HFE.out]; rfl
          rw [hae] at HTA
          have HEE : Hid (ldE n X i = rdE n X.m X.S X.C X.d (ldA n i)) := Lib.hid rfl
          have HVE : Hid (ldV n X i = rdV n X.m X.S X.C X.d (ldA n i)) := Lib.hid rfl
          have HBB : Hid (ldB n X i = (decide (ldE n X i = 0) && (tkOk n (ldV n X i) && decide (tkA (ldV n X i) % 2 = (i : Int) % 2)))) := Lib.hid rfl
          have HTI : Hid (ldT n X (some i) = ⟨tkA (ldV n X i), tkK (ldV n X i), tkF (ldV n X i), tkT (ldV n X i)⟩) := Lib.hid rfl
          have HNO := Lib.hid (@ldI_no n X i)
          have HNW := Lib.hid (@ldI_new n X i)
          have HOL := Lib.hid (fun j => @ldI_old n X i j)
          have HUP := Lib.hid (fun j => @ldI_up n X i j)
          have HBY' := Lib.hid (HBY.out i hlt)
          generalize ldA n i = A at HTA HEE HVE
          clear hae
          go_wp2_with fail
          refine HTA.out.mono ?_
          rintro _ w2 ⟨rfl, hb2⟩
          have HR2 : Hid (LdW w b5 n X i w2) := Lib.hid (hR.out.below hb2)
          clear hR hb2 HTA
          obtain ⟨sa, sc, ca, cc, hH2⟩ := HD.out.below HR2.out.1
          dsimp only
          go_wp2_with fail
          refine (read_any g sa ca n sc X.m cc X.S X.C X.f X.d A w2 hH2).mono ?_
          rintro _ w3 ⟨rfl, hb3⟩
          rw [← HEE.out, ← HVE.out]
          clear HEE HVE hH2
          generalize ldV n X i = D at HBB HTI HNW HOL HUP HBY' ⊢
          generalize ldE n X i = E at HBB ⊢
          obtain ⟨W4, hW4, hb4, hx4, hs4⟩ : ∃ W4, W4 = w3.alloc (.cells (bl D).toArray 22) ∧ Below w3.heap.size w3 W4 ∧ W4.heap[w3.heap.size]? = some (.cells (bl D).toArray 22 (0, 0)) ∧ W4.heap.size = w3.heap.size + 1 :=
            ⟨_, rfl, (Below.refl _ _).alloc (Nat.le_refl _) _, heap_alloc_new _ _, by simp⟩
          have HR4 : Hid (LdW w b5 n X i W4) := Lib.hid ((HR2.out.below hb3).below hb4)
          have hr4 := Twin.row_of hx4
          clear hb3 hb4 hx4 HR2
          dsimp only
          subst hW4
          by_cases hE : E = 0
          · subst hE
            go_upto_region 13 with (refine @wpList_store_row _ _ _ _ _ _ _ rfl 22 (.tmp 10) (.tmp 38) rfl w3.heap.size (bl D).toArray rfl rfl 22 _ (heap_alloc_new _ _) (size_bl' _) rfl (bl_all _) ?_; rw [World.setRow_alloc_new]; simp only [Act.put])
            generalize w3.alloc (.cells (bl D).toArray 22) = w4 at HR4 hr4 hs4 ⊢
            have hq4 : w3.heap.size < w4.heap.size := by omega
            generalize w3.heap.size = bq at hr4 hq4 ⊢
            clear hs4
            clear w3
            have HQ := Lib.hid (fun w' (hw' : Below w4.heap.size w4 w') => show w'.rangeAt bq 0 (bl D) from fun j v hv => (hw'.cell (p := ⟨bq, 0 + j, none⟩) (by show bq < _; omega)).trans (hr4 j v hv))
            obtain ⟨sa4, sc4, ca4, cc4, hH4⟩ := HD.out.below HR4.out.1
            have HC0 := Lib.hid (fun w' (hw' : Below w4.heap.size w4 w') => show w'.cell? ⟨g, 0, none⟩ = some (.slice sa4 n sc4) from (hH4.bx.below hw').c0)
            have HTK := Lib.hid (fun w' (hw' : Below w4.heap.size w4 w') => take_d (n : Int) D w' HBY'.out (HK.out w' (HR4.out.1.trans (hw'.mono HR4.out.1.size))))
            unfold TkPost at HTK
            clear hH4 hr4 HD HBY
            go_wp2_with fail
            refine QuietTail2.regionInv (n := 13) (Inv := LdInv _ _ _ _ _ _ _ _ _ _ _ _ _ _ _ _ _ _ _ _ _ _ _ _ _ _ _ _ _ _ _ _ _ _ _ _ _ _ _ _ _ _ _ _ _ _ _ _ _ _ _ _ _ _ _ _ _ _ _ _ _ _ _ _ sa4 sc4 g n D (n : Int) w4) (by kernel_rfl) (by decide) (by kernel_rfl) ⟨_, _, _, _, _, _, _, _, _, _, _, _, rfl, Lt.start⟩ ?stepL ?finL
            case stepL =>
              rintro i o hi ho L a' w' ⟨u0, u1, u2, u3, u4, u5, u6, u7, u8, u9, u10, u11, rfl, TT⟩ hL hpre
              match i, hi with
              | 0, _ =>
                simp at ho
                subst ho
                refine wp_load_mid 22 (.tmp 10) rfl bq 0 rfl (bl D) _ (HQ.out w' TT.be) undB rfl (size_bl D) ?_
                simp only [Act.put, List.setIfInBounds_toArray, List.set_cons_succ, List.set_cons_zero]
                exact ⟨_, u1, u2, u3, u4, u5, u6, u7, u8, u9, u10, u11, rfl, TT.set0⟩
              | 1, _ =>
                simp at ho
                subst ho
                go_simp
                exact ⟨u0, _, u2, u3, u4, u5, u6, u7, u8, u9, u10, u11, rfl, TT.set1⟩
              | 2, _ =>
                simp at ho
                subst ho
                obtain rfl := TT.a1 (hpre 1 (by kernel_rfl))
                go_simp
                exact ⟨u0, _, _, u3, u4, u5, u6, u7, u8, u9, u10, u11, rfl, TT.set2⟩
              | 3, _ =>
                simp at ho
                subst ho
                obtain rfl := TT.a2 (hpre 2 (by kernel_rfl))
                go_simp
                exact ⟨u0, u1, _, _, u4, u5, u6, u7, u8, u9, u10, u11, rfl, TT.set3⟩
              | 4, _ =>
                simp at ho
                subst ho
                obtain rfl := TT.a3 (hpre 3 (by kernel_rfl))
                have k0 := HC0.out w' TT.be
                go_simp
                exact ⟨u0, u1, u2, _, _, u5, u6, u7, u8, u9, u10, u11, rfl, TT.set4⟩
              | 5, _ =>
                simp at ho
                subst ho
                obtain rfl := TT.a4 (hpre 4 (by kernel_rfl))
                go_simp
                exact ⟨u0, u1, u2, u3, _, _, u6, u7, u8, u9, u10, u11, rfl, TT.set5⟩
              | 6, _ =>
                simp at ho
                subst ho
                obtain rfl := TT.a0 (hpre 0 (by kernel_rfl))
                obtain rfl := TT.a5 (hpre 5 (by kernel_rfl))
                go_simp
                refine (HTK.out w' TT.be).mono ?_
                rintro _ w'' ⟨⟨v, rfl, hv⟩, hb⟩
                exact ⟨_, u1, u2, u3, u4, _, _, u7, u8, u9, u10, u11, rfl, TT.call6 ⟨v, rfl, hv.mono TT.be.size⟩ hb⟩
              | 7, _ =>
                simp at ho
                subst ho
                have hv := TT.a6 (hpre 6 (by kernel_rfl))
                go_simp
                exact ⟨u0, u1, u2, u3, u4, u5, u6, _, u8, u9, u10, u11, rfl, TT.set7 hv⟩
              | 8, _ =>
                simp at ho
                subst ho
                obtain ⟨v, rfl, hv⟩ := TT.a7 (hpre 7 (by kernel_rfl))
                go_simp
                exact ⟨u0, u1, u2, u3, u4, u5, u6, _, _, u9, u10, u11, rfl, TT.set8 hL hv⟩
              | 9, _ =>
                simp at ho
                subst ho
                obtain ⟨v, rfl, hv⟩ := TT.a7 (hpre 7 (by kernel_rfl))
                go_simp
                exact ⟨u0, u1, u2, u3, u4, u5, u6, _, u8, _, u10, u11, rfl, TT.set9⟩
              | 10, _ =>
                simp at ho
                subst ho
                go_simp
                exact ⟨u0, u1, u2, u3, u4, u5, u6, u7, u8, u9, _, u11, rfl, TT.alloc10 hL rfl⟩
              | 11, _ =>
                simp at ho
                subst ho
                have h8 := hpre 8 (by kernel_rfl)
                have h10 := hpre 10 (by kernel_rfl)
                obtain ⟨b, c0, e4, _, hb, hs, _⟩ := TT.a10 h10
                obtain ⟨ao1, cap1, rfl, q1⟩ := TT.a8 h8
                subst e4
                refine wp_store_row 26 (.tmp 12) (.tmp 50) rfl b #[.int .i64 (tkG (n : Int) D), .slice ao1 (tkN (n : Int) D) cap1] rfl rfl 26 c0 hb (by kernel_rfl) hs (tb_one _ _ _ _) ?_
                exact ⟨u0, u1, u2, u3, u4, u5, u6, u7, _, u9, _, u11, rfl, TT.store11 h8 h10 rfl rfl hb rfl⟩
              | 12, _ =>
                simp at ho
                subst ho
                obtain rfl := TT.a9 (hpre 9 (by kernel_rfl))
                go_simp
                exact ⟨u0, u1, u2, u3, u4, u5, u6, u7, u8, _, u10, _, rfl, TT.set12⟩
              | i + 13, h => omega
            rintro L a' w5 hall ⟨u0, u1, u2, u3, u4, u5, u6, u7, u8, u9, u10, u11, rfl, TT⟩
            obtain ⟨bm, cm, rfl, rfl, hbm, hxm, hnm, hb5⟩ := TT.fin hall
            clear TT hall
            simp only [List.drop_succ_cons, List.drop_zero]
            refine wpList_nil ?_
            have hw4 : w.heap.size ≤ w4.heap.size := HR4.out.1.size
            have HR5 : Hid (LdW w b5 n X i w5) := Lib.hid (HR4.out.below hb5)
            obtain ⟨aoM, capM, eM, hoM⟩ := hnm
            injection eM with eM
            subst eM
            have hA0 : 0 ≤ tkA D := (takeN_bd HBY'.out).1
            clear HR4 hb5 HQ HC0 HTK HBY'
            cases hok : tkOk (n : Int) D with
            | false =>
              obtain ⟨g1, g2, g3⟩ := tk_n hok
              rw [g3]
              clear hoM hxm
              have hnb : ldI n X (i + 1) = ldI n X i := HNO.out (by rw [HBB.out, hok]; try rfl)
              go_wp2_with fail
              go_roundw
              case rel => exact ⟨i + 1, by omega, by go_num, _, rfl, by rw [hnb]; try exact hq, Lib.hid (HR5.out.same hnb)⟩
              case measure => simp [intOf]; omega
            | true =>
              obtain ⟨g1, g2, g3⟩ := tk_y hok
              rw [g3]
              rw [g1, g2] at hxm
              rw [g2] at hoM
              have m0 : w5.cell? ⟨bm, 0, none⟩ = some (.int .i64 (tkA D)) := by rw [cell_of_row _ _ _ _ _ _ hxm]; rfl
              have m1 : w5.cell? ⟨bm, 1, none⟩ = some (.slice aoM (tkK D) capM) := by rw [cell_of_row _ _ _ _ _ _ hxm]; rfl
              replace HBB : Hid (ldB n X i = decide (tkA D % 2 = (i : Int) % 2)) := Lib.hid (by rw [HBB.out, hok]; try rfl)
              clear g1 g2 g3 hxm
              generalize tkA D = G at HBB HTI HOL HUP hA0 m0
              by_cases hp : G % 2 = (i : Int) % 2
              · have HB1 : Hid (ldB n X i = true) := Lib.hid (by rw [HBB.out, decide_eq_true hp])
                have qp : (G % 2 != (i : Int) % 2) = false := by simpa using hp
                clear hp HBB
                obtain ⟨hB5, ⟨hwb, hbw, hzr⟩, ao5, cap5, hbx, _⟩ := HR5.out
                cases hf : ldI n X i with
                | none =>
                  have hqf : q = false := by simp [hq, hf]
                  clear hq
                  subst hqf
                  have hnew : ldI n X (i + 1) = some i := HNW.out HB1.out hf
                  go_wp2_with (refine @wpList_store_row _ _ _ _ _ _ _ rfl 26 (.tmp 5) (.tmp 71) rfl b5 #[.int .i64 G, .slice aoM (tkK D) capM] rfl rfl 26 _ hbx (by kernel_rfl) rfl (tb_one _ _ _ _) ?_; simp only [Act.put])
                  have HN : Hid (LdW w b5 n X (i + 1) (w5.setRow b5 #[.int .i64 G, .slice aoM (tkK D) capM])) := Lib.hid (by
                    unfold LdW
                    rw [hnew, HTI.out]
                    exact ⟨Twin.row_below hB5 (by omega) _, ⟨hwb, by simpa using hbw, (setRow_other _ _ _ _ (by omega)).trans hzr⟩, aoM, capM, setRow_heap _ _ _ _ _ _ hbx, Twin.owns_row (owns_mono hoM hw4) hbx (by decide) _⟩)
                  go_roundw
                  case rel => exact ⟨i + 1, by omega, by go_num, true, rfl, by rw [hnew]; rfl, HN⟩
                  case measure => simp [intOf]; omega
                | some j =>
                  have hqf : q = true := by simp [hq, hf]
                  have hqs : Hid (true = (ldI n X i).isSome) := Lib.hid (by rw [hf]; rfl)
                  clear hq
                  subst hqf
                  rw [hf] at hbx
                  have k0 : w5.cell? ⟨b5, 0, none⟩ = some (.int .i64 (ldT n X (some j)).gen) := by rw [cell_of_row _ _ _ _ _ _ hbx]; rfl
                  have HGJ : Hid ((ldT n X (some j)).gen = tkA (ldV n X j)) := Lib.hid rfl
                  replace HOL := Lib.hid (HOL.out j hf)
                  replace HUP := Lib.hid (HUP.out j HB1.out hf)
                  rw [← HGJ.out] at HOL HUP
                  generalize (ldT n X (some j)).gen = GJ at hbx k0 HOL HUP
                  by_cases hg : G ≤ GJ
                  ·
                    clear hbx
                    have hnb : ldI n X (i + 1) = ldI n X i := HOL.out hg
                    go_wp2_with fail
                    go_roundw
                    case rel => exact ⟨i + 1, by omega, by go_num, _, rfl, by rw [hnb]; exact hqs.out, Lib.hid (HR5.out.same hnb)⟩
                    case measure => simp [intOf]; omega
                  · have hg' : GJ < G := by omega
                    have hnew : ldI n X (i + 1) = some i := HUP.out hg'
                    go_wp2_with (refine @wpList_store_row _ _ _ _ _ _ _ rfl 26 (.tmp 5) (.tmp 71) rfl b5 #[.int .i64 G, .slice aoM (tkK D) capM] rfl rfl 26 _ hbx (by kernel_rfl) rfl (tb_one _ _ _ _) ?_; simp only [Act.put])
                    have HN : Hid (LdW w b5 n X (i + 1) (w5.setRow b5 #[.int .i64 G, .slice aoM (tkK D) capM])) := Lib.hid (by
                      unfold LdW
                      rw [hnew, HTI.out]
                      exact ⟨Twin.row_below hB5 (by omega) _, ⟨hwb, by simpa using hbw, (setRow_other _ _ _ _ (by omega)).trans hzr⟩, aoM, capM, setRow_heap _ _ _ _ _ _ hbx, Twin.owns_row (owns_mono hoM hw4) hbx (by decide) _⟩)
                    go_roundw
                    case rel => exact ⟨i + 1, by omega, by go_num, true, rfl, by rw [hnew]; rfl, HN⟩
                    case measure => simp [intOf]; omega
              · have qp : (G % 2 != (i : Int) % 2) = true := by simpa using hp
                have HB1 : Hid (ldB n X i = false) := Lib.hid (by rw [HBB.out, decide_eq_false hp])
                clear hp HBB
                have hnb : ldI n X (i + 1) = ldI n X i := HNO.out HB1.out
                go_wp2_with fail
                go_roundw
                case rel => exact ⟨i + 1, by omega, by go_num, _, rfl, by rw [hnb]; try exact hq, Lib.hid (HR5.out.same hnb)⟩
                case measure => simp [intOf]; omega
          · have ne : (E != 0) = true := by simpa using hE
            have hnb : ldI n X (i + 1) = ldI n X i := HNO.out (by rw [HBB.out, decide_eq_false hE]; rfl)
            clear hE
            go_wp2_with (refine @wpList_store_row _ _ _ _ _ _ _ rfl 22 (.tmp 10) (.tmp 38) rfl w3.heap.size (bl D).toArray rfl rfl 22 _ (heap_alloc_new _ _) (size_bl' _) rfl (bl_all _) ?_; rw [World.setRow_alloc_new]; simp only [Act.put])
            go_roundw
            case rel => exact ⟨i + 1, by omega, by go_num, _, rfl, by rw [hnb]; try exact hq, Lib.hid (HR4.out.same hnb)⟩
            case measure => simp [intOf]; omega
        · have e4 : i = 4 := by omega
          have hni : ¬ (i : Int) < 4 := by omega
          obtain ⟨hB, ⟨hwb, hbw, hzr⟩, ao5, cap5, hbx, ho5⟩ := hR.out
          rw [e4] at hbx ho5 hq
          clear hR e4
          cases hf : ldI n X 4 with
          | none =>
            have hqf : q = false := by simp [hq, hf]
            clear hq
            subst hqf
            go_wp2_with (refine @wpList_store_row _ _ _ _ _ _ _ rfl 26 (.tmp 2) (.tmp 75) rfl w.heap.size #[.int .i64 0, .slice none 0 0] rfl rfl 26 _ hzr (by kernel_rfl) rfl (tb_one _ _ _ _) ?_; simp only [Act.put])
            have hrz := setRow_heap wr w.heap.size _ #[.int .i64 0, .slice none 0 0] 26 (0, 0) hzr
            try rw [Exit.noGoto_ret]
            refine bodyPost_ret (results_ld rfl rfl rfl hrz rfl) rfl ?_
            exact ⟨⟨_, by rw [HER.out, hf]; rfl, by rw [HFD.out, hf]; exact tab_none _ _ _ _⟩, Twin.row_below hB (Nat.le_refl _) _⟩
          | some j =>
            have hqf : q = true := by simp [hq, hf]
            clear hq
            subst hqf
            rw [hf] at hbx ho5
            have HTJ : Hid (FD = some j) := Lib.hid (by rw [HFD.out, hf])
            have HE0 : Hid (ER = 0) := Lib.hid (by rw [HER.out, hf]; rfl)
            have hTF : Hid (ldT n X FD = ldT n X (some j)) := Lib.hid (by rw [HTJ.out])
            have k0 : wr.cell? ⟨b5, 0, none⟩ = some (.int .i64 (ldT n X (some j)).gen) := by rw [cell_of_row _ _ _ _ _ _ hbx]; rfl
            have k1 : wr.cell? ⟨b5, 1, none⟩ = some (.slice ao5 (ldT n X (some j)).k cap5) := by rw [cell_of_row _ _ _ _ _ _ hbx]; rfl
            generalize ldT n X (some j) = M at hbx ho5 k0 k1 hTF
            go_wp2_with (refine @wpList_store_row _ _ _ _ _ _ _ rfl 26 (.tmp 2) (.tmp 76) rfl w.heap.size #[.int .i64 M.gen, .slice ao5 M.k cap5] rfl rfl 26 _ hzr (by kernel_rfl) rfl (tb_one _ _ _ _) ?_; simp only [Act.put])
            have hrz := setRow_heap wr w.heap.size _ #[.int .i64 M.gen, .slice ao5 M.k cap5] 26 (0, 0) hzr
            try rw [Exit.noGoto_ret]
            refine bodyPost_ret (results_ld rfl rfl rfl hrz rfl) rfl ?_
            exact ⟨⟨_, by rw [HE0.out], by rw [hTF.out]; exact ⟨ao5, cap5, rfl, Twin.owns_row ho5 hzr (by decide) _⟩⟩, Twin.row_below hB (Nat.le_refl _) _⟩
end Rm
end Go.Proofs.YtllejfnmbpjhaaaDoor
