import Derived.Test.YtebgaafaokiigaaGreatDoorPVlC
import Derived.Test.YtebgaafaokiigaaGreatDoorPJDn
import Derived.Test.YtebgaafaokiigaaGreatDoorPJRc
import Derived.Test.YtebgaafaokiigaaGreatDoorPJSpB
import Derived.Test.YtebgaafaokiigaaGreatDoorPQTail2
/- vol: the reference's Copy and Same (made by tools/gen_vlcopy.py). -/
namespace Go.Proofs.YtebgaafaokiigaaGreatDoor
set_option maxRecDepth 20000
namespace Vl
open Go.RowKit Dk Gm Eqb Byt Rm

/-- lists of one's own -/
def OwD (w : World) (base n m : Nat) (S : Nat → Sec) (C : Nat → Wr) (sa : Option Addr) (sc : Nat) (ca : Option Addr) (cc : Nat) : Prop :=
  w.ownsRow base 74 130 (.slice sa n sc) n (flat (fun i => secV (S i)) n) ∧ w.ownsRow base 139 129 (.slice ca m cc) m (flat (fun i => wrV (C i)) m)
def OwT (w : World) (base k : Nat) (F T : Nat → Int) (pa : Option Addr) (cap : Nat) : Prop := w.ownsRow base 134 2 (.slice pa k cap) k (flat (prV F T) k)
theorem own_only {w w' : World} {base : Nat} {t : TypeId} {q : Nat} {v : Value} {n : Nat} {l : List Value} {b : Nat} (h : w.ownsRow base t q v n l) (hg : w.grownBy w' (some b)) (hb : b < base) : w'.ownsRow base t q v n l :=
  h.kept hg (by
    cases e : v.ownBlock with
    | none => exact .inl rfl
    | some c => exact .inr fun hc => by injection hc with hc; have := (h.lt c e).1; omega)
theorem owns_more {w : World} {B B' : Nat} {e : TypeId} {k n : Nat} {v : Value} {xs : List Value} (h : w.ownsRow B e k v n xs) (hb : B' ≤ B) : w.ownsRow B' e k v n xs := by
  refine ⟨h.1, ?_⟩
  rcases h.2 with h2 | ⟨g, cap, cur, hv, hb', h5⟩
  · exact .inl h2
  · exact .inr ⟨g, cap, cur, hv, by omega, h5⟩
/-- a volume's copy: its lists are its own -/
def CpM (w : World) (base : Nat) (n m : Nat) (S : Nat → Sec) (C : Nat → Wr) (_fu : Int) (_d : Bool) (_gen : Int) (k : Nat) (F T : Nat → Int) (_A _B _Z : Int) (kk : Nat) (f : Nat → Int) (sa : Option Addr) (sc : Nat) (ca : Option Addr) (cc : Nat) (pa : Option Addr) (cap : Nat) (ao : Option Addr) (kc : Nat) : Prop :=
  OwD w base n m S C sa sc ca cc ∧ OwT w base k F T pa cap ∧ Sp.OwnS w base ao kk kc f
def CqD (w : World) (base : Nat) (n m : Nat) (S : Nat → Sec) (C : Nat → Wr) (fu : Int) (d : Bool) (_gen : Int) (_k : Nat) (_F _T : Nat → Int) (_A _B _Z : Int) (_kk : Nat) (_f : Nat → Int) (u : Value) : Prop := ∃ sa sc ca cc, u = .agg #[.slice sa n sc, .slice ca m cc, .int .i64 fu, .bool d] ∧ OwD w base n m S C sa sc ca cc
def CqT (w : World) (base : Nat) (_n _m : Nat) (_S : Nat → Sec) (_C : Nat → Wr) (_fu : Int) (_d : Bool) (gen : Int) (k : Nat) (F T : Nat → Int) (_A _B _Z : Int) (_kk : Nat) (_f : Nat → Int) (u : Value) : Prop := ∃ pa cap, u = .agg #[.int .i64 gen, .slice pa k cap] ∧ OwT w base k F T pa cap
def CqS (w : World) (base : Nat) (_n _m : Nat) (_S : Nat → Sec) (_C : Nat → Wr) (_fu : Int) (_d : Bool) (_gen : Int) (_k : Nat) (_F _T : Nat → Int) (A B Z : Int) (kk : Nat) (f : Nat → Int) (u : Value) : Prop := ∃ ao kc, u = .agg #[.int .i64 A, .int .i64 B, .int .i64 Z, .slice ao kk kc] ∧ Sp.OwnS w base ao kk kc f
def CqA (w : World) (base : Nat) (n m : Nat) (S : Nat → Sec) (C : Nat → Wr) (fu : Int) (d : Bool) (gen : Int) (k : Nat) (F T : Nat → Int) (A B Z : Int) (kk : Nat) (f : Nat → Int) (u : Value) : Prop := ∃ sa sc ca cc pa cap ao kc, u = .agg #[.slice sa n sc, .slice ca m cc, .int .i64 fu, .bool d, .int .i64 gen, .slice pa k cap, .int .i64 A, .int .i64 B, .int .i64 Z, .slice ao kk kc] ∧ CpM w base n m S C fu d gen k F T A B Z kk f sa sc ca cc pa cap ao kc
def CqF (w : World) (base b : Nat) (n m : Nat) (S : Nat → Sec) (C : Nat → Wr) (fu : Int) (d : Bool) (gen : Int) (k : Nat) (F T : Nat → Int) (A B Z : Int) (kk : Nat) (f : Nat → Int) : Prop := ∃ sa sc ca cc pa cap ao kc, Vb w b (.slice sa n sc) (.slice ca m cc) (.int .i64 fu) (.bool d) (.int .i64 gen) (.slice pa k cap) (.int .i64 A) (.int .i64 B) (.int .i64 Z) (.slice ao kk kc) ∧ CpM w base n m S C fu d gen k F T A B Z kk f sa sc ca cc pa cap ao kc
section
variable {w w' : World} {base base' b : Nat} {n m : Nat} {S : Nat → Sec} {C : Nat → Wr} {fu : Int} {d : Bool} {gen : Int} {k : Nat} {F T : Nat → Int} {A B Z : Int} {kk : Nat} {f : Nat → Int} {u : Value} {sa ca pa ao : Option Addr} {sc cc cap kc : Nat}
theorem CpM.below (h : CpM w base n m S C fu d gen k F T A B Z kk f sa sc ca cc pa cap ao kc) (hb : Below w.heap.size w w') : CpM w' base n m S C fu d gen k F T A B Z kk f sa sc ca cc pa cap ao kc :=
  ⟨⟨owns_below h.1.1 hb, owns_below h.1.2 hb⟩, owns_below h.2.1 hb, h.2.2.below hb⟩
theorem CpM.only (h : CpM w base n m S C fu d gen k F T A B Z kk f sa sc ca cc pa cap ao kc) (hg : w.grownBy w' (some b)) (hb : b < base) : CpM w' base n m S C fu d gen k F T A B Z kk f sa sc ca cc pa cap ao kc :=
  ⟨⟨own_only h.1.1 hg hb, own_only h.1.2 hg hb⟩, own_only h.2.1 hg hb, own_only h.2.2 hg hb⟩
theorem CqD.below (h : CqD w base n m S C fu d gen k F T A B Z kk f u) (hb : Below w.heap.size w w') : CqD w' base n m S C fu d gen k F T A B Z kk f u := by
  obtain ⟨sa, sc, ca, cc, e, h⟩ := h
  exact ⟨sa, sc, ca, cc, e, owns_below h.1 hb, owns_below h.2 hb⟩
theorem CqT.below (h : CqT w base n m S C fu d gen k F T A B Z kk f u) (hb : Below w.heap.size w w') : CqT w' base n m S C fu d gen k F T A B Z kk f u := by
  obtain ⟨pa, cap, e, h⟩ := h
  exact ⟨pa, cap, e, owns_below h hb⟩
theorem CqS.below (h : CqS w base n m S C fu d gen k F T A B Z kk f u) (hb : Below w.heap.size w w') : CqS w' base n m S C fu d gen k F T A B Z kk f u := by
  obtain ⟨ao, kc, e, h⟩ := h
  exact ⟨ao, kc, e, h.below hb⟩
theorem CqA.below (h : CqA w base n m S C fu d gen k F T A B Z kk f u) (hb : Below w.heap.size w w') : CqA w' base n m S C fu d gen k F T A B Z kk f u := by
  obtain ⟨sa, sc, ca, cc, pa, cap, ao, kc, e, h⟩ := h
  exact ⟨sa, sc, ca, cc, pa, cap, ao, kc, e, h.below hb⟩
theorem CqF.below (h : CqF w base b n m S C fu d gen k F T A B Z kk f) (hb : Below w.heap.size w w') : CqF w' base b n m S C fu d gen k F T A B Z kk f := by
  obtain ⟨sa, sc, ca, cc, pa, cap, ao, kc, e, h⟩ := h
  exact ⟨sa, sc, ca, cc, pa, cap, ao, kc, e.below hb e.lt, h.below hb⟩
end
/-- the whole box is written -/
theorem vb_set {w : World} {b : Nat} {o0 o1 o2 o3 o4 o5 o6 o7 o8 o9 : Value} (h : Vb w b o0 o1 o2 o3 o4 o5 o6 o7 o8 o9) (v0 v1 v2 v3 v4 v5 v6 v7 v8 v9 : Value) : Vb (w.setCells b 0 [v0, v1, v2, v3, v4, v5, v6, v7, v8, v9]) b v0 v1 v2 v3 v4 v5 v6 v7 v8 v9 := by
  unfold Vb at *
  simp only [World.setCells]
  have s0 := heap_setCell_same w b 0 _ _ v0 h
  have s1 := heap_setCell_same _ b (0 + 1) _ _ v1 s0
  have s2 := heap_setCell_same _ b (0 + 1 + 1) _ _ v2 s1
  have s3 := heap_setCell_same _ b (0 + 1 + 1 + 1) _ _ v3 s2
  have s4 := heap_setCell_same _ b (0 + 1 + 1 + 1 + 1) _ _ v4 s3
  have s5 := heap_setCell_same _ b (0 + 1 + 1 + 1 + 1 + 1) _ _ v5 s4
  have s6 := heap_setCell_same _ b (0 + 1 + 1 + 1 + 1 + 1 + 1) _ _ v6 s5
  have s7 := heap_setCell_same _ b (0 + 1 + 1 + 1 + 1 + 1 + 1 + 1) _ _ v7 s6
  have s8 := heap_setCell_same _ b (0 + 1 + 1 + 1 + 1 + 1 + 1 + 1 + 1) _ _ v8 s7
  have s9 := heap_setCell_same _ b (0 + 1 + 1 + 1 + 1 + 1 + 1 + 1 + 1 + 1) _ _ v9 s8
  rw [s9]
  simp only [List.setIfInBounds_toArray, List.set_cons_succ, List.set_cons_zero]
theorem vb_there {w : World} {b : Nat} {o0 o1 o2 o3 o4 o5 o6 o7 o8 o9 : Value} (h : Vb w b o0 o1 o2 o3 o4 o5 o6 o7 o8 o9) : w.there b 0 10 := fun j hj => by
  refine ⟨?_, h.fr _⟩
  rw [cell_of_row w b _ _ _ _ h, Array.getElem?_eq_getElem (by simpa using hj)]
  rfl
theorem set_only (w : World) (b o : Nat) (vs : List Value) : w.grownBy (w.setCells b o vs) (some b) := by
  obtain ⟨h1, h2, h3⟩ := flags_setCells b vs o w
  exact ⟨h1, h2, h3, by rw [size_setCells]; exact Nat.le_refl _, fun k _ hn => block_setCells b k (by intro e; exact hn (by rw [e])) vs o w⟩
theorem undV : Tryz.prog.underlying 34 = some (.struct (Tryz.prog.fieldsOf 34)) := by kernel_rfl
theorem Vb.results {w : World} {b : Nat} {v0 v1 v2 v3 v4 v5 v6 v7 v8 v9 : Value} (h : Vb w b v0 v1 v2 v3 v4 v5 v6 v7 v8 v9) {tmps : Array Value} {fn : Func} {s : Nat} (hf : fn.results = #[.cell s 34]) (h2 : tmps.getD s undef = .pointer (some ⟨b, 0, none⟩)) : (Go.results fn tmps).run Tryz.prog w = .ok (.agg #[v0, v1, v2, v3, v4, v5, v6, v7, v8, v9]) w := by
  have h2' : tmps[s]?.getD undef = .pointer (some ⟨b, 0, none⟩) := by simpa using h2
  have hv := run_loadVar_row (P := Tryz.prog) w b 34 34 #[v0, v1, v2, v3, v4, v5, v6, v7, v8, v9] (0, 0) _ h undV rfl (by show _ = some 10; kernel_rfl)
  simp [Go.results, hf, h2', asAddr, hv]
theorem zvV (w : World) : (zeroValue 34).run Tryz.prog w = .ok (.agg #[.slice none 0 0, .slice none 0 0, .int .i64 0, .bool false, .int .i64 0, .slice none 0 0, .int .i64 0, .int .i64 0, .int .i64 0, .slice none 0 0]) w :=
  (zero_of_info (P := Tryz.prog) (t := 34) (v := .agg #[.slice none 0 0, .slice none 0 0, .int .i64 0, .bool false, .int .i64 0, .slice none 0 0, .int .i64 0, .int .i64 0, .int .i64 0, .slice none 0 0]) (n := 10) (by kernel_rfl)).1 w

/-- Copy, in whatever order: what holds at each moment -/
structure Cy (w W : World) (n m : Nat) (S : Nat → Sec) (C : Nat → Wr) (fu : Int) (d : Bool) (gen : Int) (k : Nat) (F T : Nat → Int) (A B Z : Int) (kk : Nat) (f : Nat → Int) (sa : Option Addr) (sc : Nat) (ca : Option Addr) (cc : Nat) (pa : Option Addr) (cap : Nat) (ao : Option Addr) (kc : Nat) (L : Nat → Bool) (u0 u1 u2 u3 u4 u5 u6 u7 u8 u9 : Value) (w' : World) : Prop where
  a0 : L 0 = true → L 10 = false → u0 = .pointer (some ⟨w.heap.size, 0, none⟩)
  a1 : L 1 = true → L 10 = false → u1 = .agg #[.slice sa n sc, .slice ca m cc, .int .i64 fu, .bool d]
  a2 : L 2 = true → L 10 = false → CqD w' W.heap.size n m S C fu d gen k F T A B Z kk f u2
  a3 : L 3 = true → L 10 = false → u3 = .pointer (some ⟨w.heap.size, 4, none⟩)
  a4 : L 4 = true → L 10 = false → u4 = .agg #[.int .i64 gen, .slice pa k cap]
  a5 : L 5 = true → L 10 = false → CqT w' W.heap.size n m S C fu d gen k F T A B Z kk f u5
  a6 : L 6 = true → L 10 = false → u6 = .pointer (some ⟨w.heap.size, 6, none⟩)
  a7 : L 7 = true → L 10 = false → u7 = .agg #[.int .i64 A, .int .i64 B, .int .i64 Z, .slice ao kk kc]
  a8 : L 8 = true → L 10 = false → CqS w' W.heap.size n m S C fu d gen k F T A B Z kk f u8
  a9 : L 9 = true → L 10 = false → CqA w' W.heap.size n m S C fu d gen k F T A B Z kk f u9
  be : L 10 = false → Below W.heap.size W w'
  bw : Below w.heap.size w w'
  nt : L 10 = true → (∀ j, j < 10 → L j = true) ∧ CqF w' W.heap.size (w.heap.size + 1) n m S C fu d gen k F T A B Z kk f
section
variable {w W : World} {n m : Nat} {S : Nat → Sec} {C : Nat → Wr} {fu : Int} {d : Bool} {gen : Int} {k : Nat} {F T : Nat → Int} {A B Z : Int} {kk : Nat} {f : Nat → Int} {sa : Option Addr} {sc : Nat} {ca : Option Addr} {cc : Nat} {pa : Option Addr} {cap : Nat} {ao : Option Addr} {kc : Nat} {L : Nat → Bool} {u0 u1 u2 u3 u4 u5 u6 u7 u8 u9 : Value} {w' w'' : World}
theorem below_of_only {b : Nat} {a c : World} (hg : a.grownBy c (some b)) {K : Nat} (hb : K ≤ b) (hK : K ≤ a.heap.size) : Below K a c :=
  ⟨hg.os, hg.tape, hg.output, hg.size, fun k hk => hg.block k (by omega) (by simp; omega)⟩
theorem Cy.no {i : Nat} (h : Cy w W n m S C fu d gen k F T A B Z kk f sa sc ca cc pa cap ao kc L u0 u1 u2 u3 u4 u5 u6 u7 u8 u9 w') (hi : i < 10) (hL : L i = false) : L 10 = false := by
  cases e : L 10 with
  | false => rfl
  | true => exact absurd ((h.nt e).1 i hi) (by rw [hL]; decide)
theorem Cy.keep {i : Nat} (h : Cy w W n m S C fu d gen k F T A B Z kk f sa sc ca cc pa cap ao kc L u0 u1 u2 u3 u4 u5 u6 u7 u8 u9 w') (hi : i < 10) (hL : L i = false) {Q : Prop} : (fun j => j == i || L j) 10 = true → Q := fun e => by
  have h10 := h.no hi hL
  have : (10 == i) = false := by simp; omega
  simp only [this, h10, Bool.or_false] at e
  cases e
theorem Cy.ten {i : Nat} (_hi : i < 10) (h : (fun j => j == i || L j) 10 = false) : L 10 = false := by
  simpa using (Bool.or_eq_false_iff.1 h).2
theorem Cy.at' {i q : Nat} {Q : Prop} (_hq : q < 10) (h : L q = true → L 10 = false → Q) (hne : q ≠ i) (hi : i < 10) : (fun j => j == i || L j) q = true → (fun j => j == i || L j) 10 = false → Q := fun e1 e2 => by
  have : (q == i) = false := by simpa using hne
  simp only [this, Bool.false_or] at e1
  exact h e1 (Cy.ten hi e2)
theorem Cy.set0 (h : Cy w W n m S C fu d gen k F T A B Z kk f sa sc ca cc pa cap ao kc L u0 u1 u2 u3 u4 u5 u6 u7 u8 u9 w') (hL : L 0 = false) : Cy w W n m S C fu d gen k F T A B Z kk f sa sc ca cc pa cap ao kc (fun j => j == 0 || L j) (.pointer (some ⟨w.heap.size, 0, none⟩)) u1 u2 u3 u4 u5 u6 u7 u8 u9 w' :=
  ⟨fun _ _ => rfl, Cy.at' (by omega) h.a1 (by omega) (by omega), Cy.at' (by omega) h.a2 (by omega) (by omega), Cy.at' (by omega) h.a3 (by omega) (by omega), Cy.at' (by omega) h.a4 (by omega) (by omega), Cy.at' (by omega) h.a5 (by omega) (by omega), Cy.at' (by omega) h.a6 (by omega) (by omega), Cy.at' (by omega) h.a7 (by omega) (by omega), Cy.at' (by omega) h.a8 (by omega) (by omega), Cy.at' (by omega) h.a9 (by omega) (by omega), fun e => h.be (Cy.ten (by omega) e), h.bw, h.keep (by omega) hL⟩
theorem Cy.set1 (h : Cy w W n m S C fu d gen k F T A B Z kk f sa sc ca cc pa cap ao kc L u0 u1 u2 u3 u4 u5 u6 u7 u8 u9 w') (hL : L 1 = false) : Cy w W n m S C fu d gen k F T A B Z kk f sa sc ca cc pa cap ao kc (fun j => j == 1 || L j) u0 (.agg #[.slice sa n sc, .slice ca m cc, .int .i64 fu, .bool d]) u2 u3 u4 u5 u6 u7 u8 u9 w' :=
  ⟨Cy.at' (by omega) h.a0 (by omega) (by omega), fun _ _ => rfl, Cy.at' (by omega) h.a2 (by omega) (by omega), Cy.at' (by omega) h.a3 (by omega) (by omega), Cy.at' (by omega) h.a4 (by omega) (by omega), Cy.at' (by omega) h.a5 (by omega) (by omega), Cy.at' (by omega) h.a6 (by omega) (by omega), Cy.at' (by omega) h.a7 (by omega) (by omega), Cy.at' (by omega) h.a8 (by omega) (by omega), Cy.at' (by omega) h.a9 (by omega) (by omega), fun e => h.be (Cy.ten (by omega) e), h.bw, h.keep (by omega) hL⟩
theorem Cy.set2 (h : Cy w W n m S C fu d gen k F T A B Z kk f sa sc ca cc pa cap ao kc L u0 u1 u2 u3 u4 u5 u6 u7 u8 u9 w') (hL : L 2 = false) {v : Value} (hv : CqD w'' W.heap.size n m S C fu d gen k F T A B Z kk f v) (hb : Below w'.heap.size w' w'') : Cy w W n m S C fu d gen k F T A B Z kk f sa sc ca cc pa cap ao kc (fun j => j == 2 || L j) u0 u1 v u3 u4 u5 u6 u7 u8 u9 w'' :=
  ⟨Cy.at' (by omega) h.a0 (by omega) (by omega), Cy.at' (by omega) h.a1 (by omega) (by omega), fun _ _ => hv, Cy.at' (by omega) h.a3 (by omega) (by omega), Cy.at' (by omega) h.a4 (by omega) (by omega), Cy.at' (by omega) (fun e1 e2 => (h.a5 e1 e2).below hb) (by omega) (by omega), Cy.at' (by omega) h.a6 (by omega) (by omega), Cy.at' (by omega) h.a7 (by omega) (by omega), Cy.at' (by omega) (fun e1 e2 => (h.a8 e1 e2).below hb) (by omega) (by omega), Cy.at' (by omega) (fun e1 e2 => (h.a9 e1 e2).below hb) (by omega) (by omega), fun e => (h.be (Cy.ten (by omega) e)).trans (hb.mono (h.be (Cy.ten (by omega) e)).size), h.bw.trans (hb.mono h.bw.size), h.keep (by omega) hL⟩
theorem Cy.set3 (h : Cy w W n m S C fu d gen k F T A B Z kk f sa sc ca cc pa cap ao kc L u0 u1 u2 u3 u4 u5 u6 u7 u8 u9 w') (hL : L 3 = false) : Cy w W n m S C fu d gen k F T A B Z kk f sa sc ca cc pa cap ao kc (fun j => j == 3 || L j) u0 u1 u2 (.pointer (some ⟨w.heap.size, 4, none⟩)) u4 u5 u6 u7 u8 u9 w' :=
  ⟨Cy.at' (by omega) h.a0 (by omega) (by omega), Cy.at' (by omega) h.a1 (by omega) (by omega), Cy.at' (by omega) h.a2 (by omega) (by omega), fun _ _ => rfl, Cy.at' (by omega) h.a4 (by omega) (by omega), Cy.at' (by omega) h.a5 (by omega) (by omega), Cy.at' (by omega) h.a6 (by omega) (by omega), Cy.at' (by omega) h.a7 (by omega) (by omega), Cy.at' (by omega) h.a8 (by omega) (by omega), Cy.at' (by omega) h.a9 (by omega) (by omega), fun e => h.be (Cy.ten (by omega) e), h.bw, h.keep (by omega) hL⟩
theorem Cy.set4 (h : Cy w W n m S C fu d gen k F T A B Z kk f sa sc ca cc pa cap ao kc L u0 u1 u2 u3 u4 u5 u6 u7 u8 u9 w') (hL : L 4 = false) : Cy w W n m S C fu d gen k F T A B Z kk f sa sc ca cc pa cap ao kc (fun j => j == 4 || L j) u0 u1 u2 u3 (.agg #[.int .i64 gen, .slice pa k cap]) u5 u6 u7 u8 u9 w' :=
  ⟨Cy.at' (by omega) h.a0 (by omega) (by omega), Cy.at' (by omega) h.a1 (by omega) (by omega), Cy.at' (by omega) h.a2 (by omega) (by omega), Cy.at' (by omega) h.a3 (by omega) (by omega), fun _ _ => rfl, Cy.at' (by omega) h.a5 (by omega) (by omega), Cy.at' (by omega) h.a6 (by omega) (by omega), Cy.at' (by omega) h.a7 (by omega) (by omega), Cy.at' (by omega) h.a8 (by omega) (by omega), Cy.at' (by omega) h.a9 (by omega) (by omega), fun e => h.be (Cy.ten (by omega) e), h.bw, h.keep (by omega) hL⟩
theorem Cy.set5 (h : Cy w W n m S C fu d gen k F T A B Z kk f sa sc ca cc pa cap ao kc L u0 u1 u2 u3 u4 u5 u6 u7 u8 u9 w') (hL : L 5 = false) {v : Value} (hv : CqT w'' W.heap.size n m S C fu d gen k F T A B Z kk f v) (hb : Below w'.heap.size w' w'') : Cy w W n m S C fu d gen k F T A B Z kk f sa sc ca cc pa cap ao kc (fun j => j == 5 || L j) u0 u1 u2 u3 u4 v u6 u7 u8 u9 w'' :=
  ⟨Cy.at' (by omega) h.a0 (by omega) (by omega), Cy.at' (by omega) h.a1 (by omega) (by omega), Cy.at' (by omega) (fun e1 e2 => (h.a2 e1 e2).below hb) (by omega) (by omega), Cy.at' (by omega) h.a3 (by omega) (by omega), Cy.at' (by omega) h.a4 (by omega) (by omega), fun _ _ => hv, Cy.at' (by omega) h.a6 (by omega) (by omega), Cy.at' (by omega) h.a7 (by omega) (by omega), Cy.at' (by omega) (fun e1 e2 => (h.a8 e1 e2).below hb) (by omega) (by omega), Cy.at' (by omega) (fun e1 e2 => (h.a9 e1 e2).below hb) (by omega) (by omega), fun e => (h.be (Cy.ten (by omega) e)).trans (hb.mono (h.be (Cy.ten (by omega) e)).size), h.bw.trans (hb.mono h.bw.size), h.keep (by omega) hL⟩
theorem Cy.set6 (h : Cy w W n m S C fu d gen k F T A B Z kk f sa sc ca cc pa cap ao kc L u0 u1 u2 u3 u4 u5 u6 u7 u8 u9 w') (hL : L 6 = false) : Cy w W n m S C fu d gen k F T A B Z kk f sa sc ca cc pa cap ao kc (fun j => j == 6 || L j) u0 u1 u2 u3 u4 u5 (.pointer (some ⟨w.heap.size, 6, none⟩)) u7 u8 u9 w' :=
  ⟨Cy.at' (by omega) h.a0 (by omega) (by omega), Cy.at' (by omega) h.a1 (by omega) (by omega), Cy.at' (by omega) h.a2 (by omega) (by omega), Cy.at' (by omega) h.a3 (by omega) (by omega), Cy.at' (by omega) h.a4 (by omega) (by omega), Cy.at' (by omega) h.a5 (by omega) (by omega), fun _ _ => rfl, Cy.at' (by omega) h.a7 (by omega) (by omega), Cy.at' (by omega) h.a8 (by omega) (by omega), Cy.at' (by omega) h.a9 (by omega) (by omega), fun e => h.be (Cy.ten (by omega) e), h.bw, h.keep (by omega) hL⟩
theorem Cy.set7 (h : Cy w W n m S C fu d gen k F T A B Z kk f sa sc ca cc pa cap ao kc L u0 u1 u2 u3 u4 u5 u6 u7 u8 u9 w') (hL : L 7 = false) : Cy w W n m S C fu d gen k F T A B Z kk f sa sc ca cc pa cap ao kc (fun j => j == 7 || L j) u0 u1 u2 u3 u4 u5 u6 (.agg #[.int .i64 A, .int .i64 B, .int .i64 Z, .slice ao kk kc]) u8 u9 w' :=
  ⟨Cy.at' (by omega) h.a0 (by omega) (by omega), Cy.at' (by omega) h.a1 (by omega) (by omega), Cy.at' (by omega) h.a2 (by omega) (by omega), Cy.at' (by omega) h.a3 (by omega) (by omega), Cy.at' (by omega) h.a4 (by omega) (by omega), Cy.at' (by omega) h.a5 (by omega) (by omega), Cy.at' (by omega) h.a6 (by omega) (by omega), fun _ _ => rfl, Cy.at' (by omega) h.a8 (by omega) (by omega), Cy.at' (by omega) h.a9 (by omega) (by omega), fun e => h.be (Cy.ten (by omega) e), h.bw, h.keep (by omega) hL⟩
theorem Cy.set8 (h : Cy w W n m S C fu d gen k F T A B Z kk f sa sc ca cc pa cap ao kc L u0 u1 u2 u3 u4 u5 u6 u7 u8 u9 w') (hL : L 8 = false) {v : Value} (hv : CqS w'' W.heap.size n m S C fu d gen k F T A B Z kk f v) (hb : Below w'.heap.size w' w'') : Cy w W n m S C fu d gen k F T A B Z kk f sa sc ca cc pa cap ao kc (fun j => j == 8 || L j) u0 u1 u2 u3 u4 u5 u6 u7 v u9 w'' :=
  ⟨Cy.at' (by omega) h.a0 (by omega) (by omega), Cy.at' (by omega) h.a1 (by omega) (by omega), Cy.at' (by omega) (fun e1 e2 => (h.a2 e1 e2).below hb) (by omega) (by omega), Cy.at' (by omega) h.a3 (by omega) (by omega), Cy.at' (by omega) h.a4 (by omega) (by omega), Cy.at' (by omega) (fun e1 e2 => (h.a5 e1 e2).below hb) (by omega) (by omega), Cy.at' (by omega) h.a6 (by omega) (by omega), Cy.at' (by omega) h.a7 (by omega) (by omega), fun _ _ => hv, Cy.at' (by omega) (fun e1 e2 => (h.a9 e1 e2).below hb) (by omega) (by omega), fun e => (h.be (Cy.ten (by omega) e)).trans (hb.mono (h.be (Cy.ten (by omega) e)).size), h.bw.trans (hb.mono h.bw.size), h.keep (by omega) hL⟩
theorem Cy.set9 (h : Cy w W n m S C fu d gen k F T A B Z kk f sa sc ca cc pa cap ao kc L u0 u1 u2 u3 u4 u5 u6 u7 u8 u9 w') (hL : L 9 = false) {v : Value} (hv : CqA w' W.heap.size n m S C fu d gen k F T A B Z kk f v) : Cy w W n m S C fu d gen k F T A B Z kk f sa sc ca cc pa cap ao kc (fun j => j == 9 || L j) u0 u1 u2 u3 u4 u5 u6 u7 u8 v w' :=
  ⟨Cy.at' (by omega) h.a0 (by omega) (by omega), Cy.at' (by omega) h.a1 (by omega) (by omega), Cy.at' (by omega) h.a2 (by omega) (by omega), Cy.at' (by omega) h.a3 (by omega) (by omega), Cy.at' (by omega) h.a4 (by omega) (by omega), Cy.at' (by omega) h.a5 (by omega) (by omega), Cy.at' (by omega) h.a6 (by omega) (by omega), Cy.at' (by omega) h.a7 (by omega) (by omega), Cy.at' (by omega) h.a8 (by omega) (by omega), fun _ _ => hv, fun e => h.be (Cy.ten (by omega) e), h.bw, h.keep (by omega) hL⟩
theorem Cy.fin (h : Cy w W n m S C fu d gen k F T A B Z kk f sa sc ca cc pa cap ao kc L u0 u1 u2 u3 u4 u5 u6 u7 u8 u9 w') (_h10 : L 10 = false) (hall : ∀ j, j < 10 → L j = true) {vs : List Value} (hf : CqF (w'.setCells (w.heap.size + 1) 0 vs) W.heap.size (w.heap.size + 1) n m S C fu d gen k F T A B Z kk f) : Cy w W n m S C fu d gen k F T A B Z kk f sa sc ca cc pa cap ao kc (fun j => j == 10 || L j) u0 u1 u2 u3 u4 u5 u6 u7 u8 u9 (w'.setCells (w.heap.size + 1) 0 vs) :=
  ⟨fun _ e => by simp at e, fun _ e => by simp at e, fun _ e => by simp at e, fun _ e => by simp at e, fun _ e => by simp at e, fun _ e => by simp at e, fun _ e => by simp at e, fun _ e => by simp at e, fun _ e => by simp at e, fun _ e => by simp at e, fun e => by simp at e, h.bw.trans (below_of_only (set_only _ _ _ _) (by omega) h.bw.size), fun _ => ⟨fun j hj => by simp [hall j hj], hf⟩⟩
end
def CyInv (w W : World) (n m : Nat) (S : Nat → Sec) (C : Nat → Wr) (fu : Int) (d : Bool) (gen : Int) (k : Nat) (F T : Nat → Int) (A B Z : Int) (kk : Nat) (f : Nat → Int) (sa : Option Addr) (sc : Nat) (ca : Option Addr) (cc : Nat) (pa : Option Addr) (cap : Nat) (ao : Option Addr) (kc : Nat) (L : Nat → Bool) (a' : Act) (w' : World) : Prop :=
  ∃ u0 u1 u2 u3 u4 u5 u6 u7 u8 u9, a' = { tmps := #[.agg #[.slice sa n sc, .slice ca m cc, .int .i64 fu, .bool d, .int .i64 gen, .slice pa k cap, .int .i64 A, .int .i64 B, .int .i64 Z, .slice ao kk kc], .pointer (some ⟨w.heap.size, 0, none⟩), .pointer (some ⟨w.heap.size + 1, 0, none⟩), u0, u1, u2, u3, u4, u5, u6, u7, u8, u9], defers := [] } ∧ Cy w W n m S C fu d gen k F T A B Z kk f sa sc ca cc pa cap ao kc L u0 u1 u2 u3 u4 u5 u6 u7 u8 u9 w'
set_option maxRecDepth 100000 in
set_option maxHeartbeats 4000000 in
theorem Copy_any (n m : Nat) (S : Nat → Sec) (C : Nat → Wr) (fu : Int) (d : Bool) (gen : Int) (k : Nat) (F T : Nat → Int) (A B Z : Int) (kk : Nat) (f : Nat → Int) (sa : Option Addr) (sc : Nat) (ca : Option Addr) (cc : Nat) (pa : Option Addr) (cap : Nat) (ao : Option Addr) (kc : Nat) (g : Nat) (w : World) (nb : n * 130 ≤ 140737488355328) (mb : m * 136 ≤ 140737488355328) (kb : k * 16 ≤ 140737488355328)
    (hss : Lay w w.heap.size g sa n sc 130 (fun i => secV (S i))) (hc : Lay w w.heap.size g ca m cc 129 (fun i => wrV (C i))) (hl : Lay w w.heap.size g pa k cap 2 (Rm.prV F T)) (hs : Sp.St w w.heap.size ao kk kc f) :
    Calls Tryz.prog 9 #[.agg #[.slice sa n sc, .slice ca m cc, .int .i64 fu, .bool d, .int .i64 gen, .slice pa k cap, .int .i64 A, .int .i64 B, .int .i64 Z, .slice ao kk kc]] w fun e w' => ∃ sa sc ca cc pa cap ao kc, e = .returned (.agg #[.slice sa n sc, .slice ca m cc, .int .i64 fu, .bool d, .int .i64 gen, .slice pa k cap, .int .i64 A, .int .i64 B, .int .i64 Z, .slice ao kk kc]) ∧ CpM w' w.heap.size n m S C fu d gen k F T A B Z kk f sa sc ca cc pa cap ao kc ∧ Below w.heap.size w w' := by
  obtain ⟨W, hW, hB0, hs0, hX0, hY0⟩ : ∃ W, W = (w.alloc (.cells #[.slice sa n sc, .slice ca m cc, .int .i64 fu, .bool d, .int .i64 gen, .slice pa k cap, .int .i64 A, .int .i64 B, .int .i64 Z, .slice ao kk kc] 34)).alloc (.cells #[.slice none 0 0, .slice none 0 0, .int .i64 0, .bool false, .int .i64 0, .slice none 0 0, .int .i64 0, .int .i64 0, .int .i64 0, .slice none 0 0] 34) ∧ Below w.heap.size w W ∧ W.heap.size = w.heap.size + 2 ∧ Vb W w.heap.size (.slice sa n sc) (.slice ca m cc) (.int .i64 fu) (.bool d) (.int .i64 gen) (.slice pa k cap) (.int .i64 A) (.int .i64 B) (.int .i64 Z) (.slice ao kk kc) ∧
      Vb W (w.heap.size + 1) (.slice none 0 0) (.slice none 0 0) (.int .i64 0) (.bool false) (.int .i64 0) (.slice none 0 0) (.int .i64 0) (.int .i64 0) (.int .i64 0) (.slice none 0 0) := by
    refine ⟨_, rfl, ((Below.refl _ _).alloc (Nat.le_refl _) _).alloc (by simp) _, by simp, (Below.heap_alloc _ _ _ (by simp)).trans (heap_alloc_new w _), ?_⟩
    have := heap_alloc_new (w.alloc (.cells #[.slice sa n sc, .slice ca m cc, .int .i64 fu, .bool d, .int .i64 gen, .slice pa k cap, .int .i64 A, .int .i64 B, .int .i64 Z, .slice ao kk kc] 34)) (.cells #[.slice none 0 0, .slice none 0 0, .int .i64 0, .bool false, .int .i64 0, .slice none 0 0, .int .i64 0, .int .i64 0, .int .i64 0, .slice none 0 0] 34)
    rwa [World.size_alloc] at this
  have HCD := Lib.hid (fun w' (h : Below W.heap.size W w') => Dk.copy_any sa ca n sc m cc g S C fu d w' nb mb ((hss.below (hB0.trans (h.mono hB0.size))).more (hB0.trans (h.mono hB0.size)).size) ((hc.below (hB0.trans (h.mono hB0.size))).more (hB0.trans (h.mono hB0.size)).size))
  have HCT := Lib.hid (fun w' (h : Below W.heap.size W w') => Rm.refcopy_any gen k F T pa cap g w' ((hl.below (hB0.trans (h.mono hB0.size))).more (hB0.trans (h.mono hB0.size)).size) kb)
  have HCS := Lib.hid (fun w' (h : Below W.heap.size W w') => Sp.Copy_any A B Z ao kk kc f w' (hs.later (hB0.trans (h.mono hB0.size))))
  have HX := Lib.hid (fun w' (h : Below W.heap.size W w') => hX0.below h (show w.heap.size < W.heap.size by omega))
  have HY := Lib.hid (fun w' (h : Below W.heap.size W w') => hY0.below h (show w.heap.size + 1 < W.heap.size by omega))
  clear hX0 hY0 hss hc hl hs
  go_enter Tryz.func9, Tryz.ntmps9
  go_wp2_with fail
  rw [← hW]
  clear hW
  refine QuietTail2.regionInv (n := 11) (Inv := CyInv w W n m S C fu d gen k F T A B Z kk f sa sc ca cc pa cap ao kc) (by kernel_rfl) (by decide) (by kernel_rfl) ⟨_, _, _, _, _, _, _, _, _, _, rfl, ⟨by simp, by simp, by simp, by simp, by simp, by simp, by simp, by simp, by simp, by simp, fun _ => ⟨rfl, rfl, rfl, Nat.le_refl _, fun _ _ => rfl⟩, hB0.trans ⟨rfl, rfl, rfl, Nat.le_refl _, fun _ _ => rfl⟩, by simp⟩⟩ ?step ?fin
  case step =>
    rintro i o hi ho L a' w' ⟨u0, u1, u2, u3, u4, u5, u6, u7, u8, u9, rfl, TT⟩ hL hpre
    match i, hi with
    | 0, _ =>
      simp at ho
      subst ho
      have h10 := TT.no (by omega) hL
      go_simp
      exact ⟨_, u1, u2, u3, u4, u5, u6, u7, u8, u9, rfl, TT.set0 hL⟩
    | 1, _ =>
      simp at ho
      subst ho
      have h10 := TT.no (by omega) hL
      obtain rfl := TT.a0 (hpre 0 (by kernel_rfl)) h10
      have hv := HX.out w' (TT.be h10)
      have k0 := hv.c0
      have k1 := hv.c1
      have k2 := hv.c2
      have k3 := hv.c3
      clear hv
      go_simp
      exact ⟨_, _, u2, u3, u4, u5, u6, u7, u8, u9, rfl, TT.set1 hL⟩
    | 2, _ =>
      simp at ho
      subst ho
      have h10 := TT.no (by omega) hL
      obtain rfl := TT.a1 (hpre 1 (by kernel_rfl)) h10
      go_simp
      refine (HCD.out w' (TT.be h10)).mono ?_
      rintro _ w'' ⟨v, rfl, ⟨sa', sc', ca', cc', rfl, h1, h2⟩, hb⟩
      exact ⟨u0, _, _, u3, u4, u5, u6, u7, u8, u9, rfl, TT.set2 hL ⟨sa', sc', ca', cc', rfl, owns_more h1 (TT.be h10).size, owns_more h2 (TT.be h10).size⟩ hb⟩
    | 3, _ =>
      simp at ho
      subst ho
      have h10 := TT.no (by omega) hL
      go_simp
      exact ⟨u0, u1, u2, _, u4, u5, u6, u7, u8, u9, rfl, TT.set3 hL⟩
    | 4, _ =>
      simp at ho
      subst ho
      have h10 := TT.no (by omega) hL
      obtain rfl := TT.a3 (hpre 3 (by kernel_rfl)) h10
      have hv := HX.out w' (TT.be h10)
      have k4 := hv.c4
      have k5 := hv.c5
      clear hv
      go_simp
      exact ⟨u0, u1, u2, _, _, u5, u6, u7, u8, u9, rfl, TT.set4 hL⟩
    | 5, _ =>
      simp at ho
      subst ho
      have h10 := TT.no (by omega) hL
      obtain rfl := TT.a4 (hpre 4 (by kernel_rfl)) h10
      go_simp
      refine (HCT.out w' (TT.be h10)).mono ?_
      rintro _ w'' ⟨⟨v, rfl, pa', cap', rfl, h1⟩, hb⟩
      exact ⟨u0, u1, u2, u3, _, _, u6, u7, u8, u9, rfl, TT.set5 hL ⟨pa', cap', rfl, owns_more h1 (TT.be h10).size⟩ hb⟩
    | 6, _ =>
      simp at ho
      subst ho
      have h10 := TT.no (by omega) hL
      go_simp
      exact ⟨u0, u1, u2, u3, u4, u5, _, u7, u8, u9, rfl, TT.set6 hL⟩
    | 7, _ =>
      simp at ho
      subst ho
      have h10 := TT.no (by omega) hL
      obtain rfl := TT.a6 (hpre 6 (by kernel_rfl)) h10
      have hv := HX.out w' (TT.be h10)
      have k6 := hv.c6
      have k7 := hv.c7
      have k8 := hv.c8
      have k9 := hv.c9
      clear hv
      go_simp
      exact ⟨u0, u1, u2, u3, u4, u5, _, _, u8, u9, rfl, TT.set7 hL⟩
    | 8, _ =>
      simp at ho
      subst ho
      have h10 := TT.no (by omega) hL
      obtain rfl := TT.a7 (hpre 7 (by kernel_rfl)) h10
      go_simp
      refine (HCS.out w' (TT.be h10)).mono ?_
      rintro _ w'' ⟨ao', kc', rfl, h1, hb⟩
      exact ⟨u0, u1, u2, u3, u4, u5, u6, _, _, u9, rfl, TT.set8 hL ⟨ao', kc', rfl, owns_more h1 (TT.be h10).size⟩ hb⟩
    | 9, _ =>
      simp at ho
      subst ho
      have h10 := TT.no (by omega) hL
      obtain ⟨sa', sc', ca', cc', rfl, h1⟩ := TT.a2 (hpre 2 (by kernel_rfl)) h10
      obtain ⟨pa', cap', rfl, h2⟩ := TT.a5 (hpre 5 (by kernel_rfl)) h10
      obtain ⟨ao', kc', rfl, h3⟩ := TT.a8 (hpre 8 (by kernel_rfl)) h10
      go_simp
      exact ⟨u0, u1, _, u3, u4, _, u6, u7, _, _, rfl, TT.set9 hL ⟨sa', sc', ca', cc', pa', cap', ao', kc', rfl, h1, h2, h3⟩⟩
    | 10, _ =>
      simp at ho
      subst ho
      have hall : ∀ j, j < 10 → L j = true := fun j hj => by
        match j, hj with
        | 0, _ => exact hpre 0 (by kernel_rfl)
        | 1, _ => exact hpre 1 (by kernel_rfl)
        | 2, _ => exact hpre 2 (by kernel_rfl)
        | 3, _ => exact hpre 3 (by kernel_rfl)
        | 4, _ => exact hpre 4 (by kernel_rfl)
        | 5, _ => exact hpre 5 (by kernel_rfl)
        | 6, _ => exact hpre 6 (by kernel_rfl)
        | 7, _ => exact hpre 7 (by kernel_rfl)
        | 8, _ => exact hpre 8 (by kernel_rfl)
        | 9, _ => exact hpre 9 (by kernel_rfl)
        | j + 10, h => omega
      obtain ⟨sa', sc', ca', cc', pa', cap', ao', kc', rfl, hm⟩ := TT.a9 (hpre 9 (by kernel_rfl)) hL
      have hy := HY.out w' (TT.be hL)
      refine wp_store_mid 34 (.tmp 2) (.tmp 12) rfl (w.heap.size + 1) 0 _ rfl rfl (vb_there hy) (by show _ = some 10; kernel_rfl) (by simp [Value.oneCell']) ?_
      simp only [Act.put]
      exact ⟨u0, u1, u2, u3, u4, u5, u6, u7, u8, _, rfl, TT.fin hL hall ⟨sa', sc', ca', cc', pa', cap', ao', kc', vb_set hy _ _ _ _ _ _ _ _ _ _, hm.only (set_only _ _ _ _) (by omega)⟩⟩
    | j + 11, h => omega
  case fin =>
    rintro L a' w' hall ⟨u0, u1, u2, u3, u4, u5, u6, u7, u8, u9, rfl, TT⟩
    obtain ⟨_, sa', sc', ca', cc', pa', cap', ao', kc', hv, hm⟩ := TT.nt (hall 10 (by omega))
    have hbw := TT.bw
    refine wpList_nil ?_
    go_wp2_with fail
    refine bodyPost_ret (hv.results rfl rfl) rfl ?_
    exact ⟨sa', sc', ca', cc', pa', cap', ao', kc', rfl, ⟨⟨owns_more hm.1.1 hB0.size, owns_more hm.1.2 hB0.size⟩, owns_more hm.2.1 hB0.size, owns_more hm.2.2 hB0.size⟩, hbw⟩
end Vl
end Go.Proofs.YtebgaafaokiigaaGreatDoor
