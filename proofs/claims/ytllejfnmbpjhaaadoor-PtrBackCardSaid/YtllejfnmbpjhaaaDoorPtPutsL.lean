/- PtrPuts: the law's walk (made by tools/gen_pputs.py). -/
import Derived.Test.YtllejfnmbpjhaaaDoorPtMakes
import Derived.Test.YtllejfnmbpjhaaaDoorPtRefTake
namespace Go.Proofs.YtllejfnmbpjhaaaDoor
set_option maxRecDepth 20000
namespace Pt
open Go.RowKit Dk Eqb Byt

/-- two rows of bytes, a pointer, two pointers that were taken -/
structure PuS (ax : Option Addr) (cx : Nat) (ay : Option Addr) (cy n : Nat) (p V : Pn) (b0 b1 b2 Kx Ky : Nat) (F G : Nat → Int) (w0 w' : World) : Prop where
  x : Wd.Own w' Kx ax n cx F
  y : Wd.Own w' Ky ay n cy G
  p : w'.heap[b0]? = some (.cells (pV p).toArray 65 (0, 0))
  q : w'.heap[b1]? = some (.cells (pV V).toArray 65 (0, 0))
  r : w'.heap[b2]? = some (.cells (pV V).toArray 65 (0, 0))
  b : Below w0.heap.size w0 w'
structure PuW (ax : Option Addr) (cx : Nat) (ay : Option Addr) (cy n : Nat) (p V : Pn) (b0 b1 b2 Kx Ky : Nat) (f F : Nat → Int) (w0 : World) (c d : Bool) (w' : World) : Prop where
  ord : d = true → c = true
  ptr : w'.heap[b0]? = some (.cells (pV p).toArray 65 (0, 0))
  s0 : c = false → PuS ax cx ay cy n p V b0 b1 b2 Kx Ky f f w0 w'
  s1 : c = true → d = false → PuS ax cx ay cy n p V b0 b1 b2 Kx Ky F f w0 w'
  s2 : d = true → PuS ax cx ay cy n p V b0 b1 b2 Kx Ky F F w0 w'
/-- no block of the others is ax's or ay's -/
structure Apart (ax ay : Option Addr) (b0 b1 b2 Kx Ky : Nat) (w0 : World) : Prop where
  xy : ax.map (·.block) = none ∨ ax.map (·.block) ≠ ay.map (·.block)
  yx : ay.map (·.block) = none ∨ ay.map (·.block) ≠ ax.map (·.block)
  x0 : some b0 ≠ ax.map (·.block)
  x1 : some b1 ≠ ax.map (·.block)
  x2 : some b2 ≠ ax.map (·.block)
  y0 : some b0 ≠ ay.map (·.block)
  y1 : some b1 ≠ ay.map (·.block)
  y2 : some b2 ≠ ay.map (·.block)
  bx : w0.heap.size ≤ Kx
  by' : w0.heap.size ≤ Ky
section
variable {ax ay : Option Addr} {cx cy n : Nat} {p V : Pn} {b0 b1 b2 Kx Ky : Nat} {f F : Nat → Int} {w0 w' w'' : World}
theorem blk_of {w : World} {k : Nat} {o : Obj} (h : w.heap[k]? = some o) : k < w.heap.size := (Array.getElem?_eq_some_iff.1 h).1
theorem PuW.x0 (h : PuW ax cx ay cy n p V b0 b1 b2 Kx Ky f F w0 false false w') : Wd.Own w' Kx ax n cx f := (h.s0 rfl).x
theorem PuW.y1 (h : PuW ax cx ay cy n p V b0 b1 b2 Kx Ky f F w0 true false w') : Wd.Own w' Ky ay n cy f := (h.s1 rfl rfl).y
theorem PuW.one (A : Apart ax ay b0 b1 b2 Kx Ky w0) (h : PuW ax cx ay cy n p V b0 b1 b2 Kx Ky f F w0 false false w') (hG : Wd.Only w' w'' ax) (hO : Wd.Own w'' Kx ax n cx F) : PuW ax cx ay cy n p V b0 b1 b2 Kx Ky f F w0 true false w'' := by
  have s := h.s0 rfl
  have hp := (hG.block b0 (blk_of s.p) A.x0).trans s.p
  exact ⟨fun e => (by cases e), hp, fun e => (by cases e), fun _ _ => ⟨hO, s.y.other s.x hG A.yx, hp, (hG.block b1 (blk_of s.q) A.x1).trans s.q, (hG.block b2 (blk_of s.r) A.x2).trans s.r, (s.x.mono A.bx).under s.b hG s.b.size⟩, fun e => (by cases e)⟩
theorem PuW.two (A : Apart ax ay b0 b1 b2 Kx Ky w0) (h : PuW ax cx ay cy n p V b0 b1 b2 Kx Ky f F w0 true false w') (hG : Wd.Only w' w'' ay) (hO : Wd.Own w'' Ky ay n cy F) : PuW ax cx ay cy n p V b0 b1 b2 Kx Ky f F w0 true true w'' := by
  have s := h.s1 rfl rfl
  have hp := (hG.block b0 (blk_of s.p) A.y0).trans s.p
  exact ⟨fun _ => rfl, hp, fun e => (by cases e), fun _ e => (by cases e), fun _ => ⟨s.x.other s.y hG A.xy, hO, hp, (hG.block b1 (blk_of s.q) A.y1).trans s.q, (hG.block b2 (blk_of s.r) A.y2).trans s.r, (s.y.mono A.by').under s.b hG s.b.size⟩⟩
end
def PuInv (x0 x2 x3 x4 x6 x9 x10 x11 x12 x14 x15 x16 x17 x18 x19 x20 x21 x22 x23 x24 x25 x26 x27 x28 x29 x30 x31 x32 x41 x42 x43 x44 x45 x46 x47 x48 x49 x50 x51 x52 x53 x54 x55 x56 x57 x58 : Value) (ax : Option Addr) (cx : Nat) (ay : Option Addr) (cy n : Nat) (a : Int) (p V : Pn) (E : Int) (b0 b1 b2 Kx Ky : Nat) (f F : Nat → Int) (w0 : World) (L : Nat → Bool) (a' : Act) (w' : World) : Prop :=
  ∃ u0 u1 u2 u3 u4 u5 u6 u7 u8, a' = { tmps := #[x0, .int .i64 a, x2, x3, x4, .pointer (some ⟨b0, 0, none⟩), x6, .slice ax n cx, .slice ay n cy, x9, x10, x11, x12, u8, x14, x15, x16, x17, x18, x19, x20, x21, x22, x23, x24, x25, x26, x27, x28, x29, x30, x31, x32, u0, u1, u2, u3, u4, u5, u6, u7, x41, x42, x43, x44, x45, x46, x47, x48, x49, x50, x51, x52, x53, x54, x55, x56, x57, x58], defers := [] } ∧ (L 0 = true → u0 = .slice ax n cx) ∧ (L 1 = true → u1 = .int .i64 a) ∧ (L 2 = true → u2 = .agg (pV p).toArray) ∧ (L 3 = true → u3 = .int .i64 E) ∧ (L 4 = true → u4 = .slice ay n cy) ∧ (L 5 = true → u5 = .int .i64 a) ∧ (L 6 = true → u6 = .agg (pV p).toArray) ∧ (L 7 = true → u7 = .int .i64 E) ∧ (L 8 = true → u8 = .int .i64 E) ∧ PuW ax cx ay cy n p V b0 b1 b2 Kx Ky f F w0 (L 3) (L 7) w'
theorem PuInv_kl {L : Nat → Bool} {i k : Nat} {Q : Prop} (h : L k = true → Q) (h1 : (k == i) = false) : (k == i || L k) = true → Q := by
  rw [h1, Bool.false_or]
  exact h

theorem ppF_bytes {n : Nat} {a : Int} {p : Pn} {f : Nat → Int} (hf : ∀ i, i < n → 0 ≤ f i ∧ f i < 256) (hp : ∀ j, j < 32 → 0 ≤ p.S j ∧ p.S j < 256) : ∀ i, i < n → 0 ≤ ppF n a p f i ∧ ppF n a p f i < 256 := by
  have hput : ∀ (x k z : Int) (h : Nat → Int), (∀ i, i < n → 0 ≤ h i ∧ h i < 256) → ∀ i, i < n → 0 ≤ Wd.putF n x k z h i ∧ Wd.putF n x k z h i < 256 := by
    intro x k z h hh
    unfold Wd.putF
    split
    · exact fun i hi => mix_byte hh (fun i _ => Wd.byteAt_bd z i) i hi
    · exact hh
  unfold ppF
  split
  · exact fun i hi => mix_byte (hput _ _ _ _ (hput _ _ _ _ hf)) hp i hi
  · exact hf

attribute [local go_sem] zvP
end Pt
end Go.Proofs.YtllejfnmbpjhaaaDoor
