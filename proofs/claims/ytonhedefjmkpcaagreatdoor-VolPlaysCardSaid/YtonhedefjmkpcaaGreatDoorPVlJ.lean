import Derived.Test.YtonhedefjmkpcaaGreatDoorPVlI
import Derived.Test.YtonhedefjmkpcaaGreatDoorPQTail2
/- vol: what the calls on disk, table and space come to, of a volume at a place. -/
namespace Go.Proofs.YtonhedefjmkpcaaGreatDoor
set_option maxRecDepth 20000
namespace Vl
open Go.RowKit Dk Gm Eqb Rm Vm Di

theorem hasVol_ne {w : World} {V : Pl} {n k : Nat} {X : Dst} {M : Tab} {A B Z : Int} {f : Nat → Int} (h : HasVol w V n X M A B Z k f) : V.b ≠ 0 := by
 obtain ⟨_, ao, kc, ⟨_, _, _, _, h0⟩, _⟩ := h
 exact h0
theorem hasV_c9 {w : World} {V : Pl} {n k kc : Nat} {X : Dst} {M : Tab} {A B Z : Int} {ao : Option Addr} (h : HasV w (V.hd (Vm.spC A B Z ao k kc)) n X M) : w.cell? ⟨V.b, V.o + 9, none⟩ = some (.slice ao k kc) := by
 obtain ⟨pa, cap, ⟨sa, sc, ca, cc, hh⟩, _, _⟩ := h
 have h1 := Pl.at_hd.1 (Pl.at_hd.1 hh.bx)
 simp only [Vm.spC, List.cons_append, List.nil_append] at h1
 exact h1.cell (j := 9) (by simp)
/-- the states' list is new, or where it was -/
def Loc (w : World) (V : Pl) (w' : World) : Prop := ∀ q o s k c, w'.cell? ⟨V.b, V.o + 9, none⟩ = some (.slice (some ⟨q, o, s⟩) k c) → w.heap.size ≤ q ∨ ∃ k2 c2, w.cell? ⟨V.b, V.o + 9, none⟩ = some (.slice (some ⟨q, o, s⟩) k2 c2)
/-- a call on the volume: it has turned, and what else there was stays -/
structure Tv (w : World) (V : Pl) (n : Nat) (X : Dst) (M : Tab) (A B Z : Int) (k : Nat) (f : Nat → Int) (w' : World) : Prop where
 v : HasVol w' V n X M A B Z k f
 g : w.grownBy w' (some V.b)
 l : Loc w V w'
/-- the volume's states don't lie in block b -/
def Off (w : World) (V : Pl) (b : Nat) : Prop := V.b ≠ b ∧ ∀ q o s k c, w.cell? ⟨V.b, V.o + 9, none⟩ = some (.slice (some ⟨q, o, s⟩) k c) → q ≠ b
section
variable {w w' w'' : World} {V : Pl} {n k : Nat} {X X' : Dst} {M M' : Tab} {A B Z : Int} {f f' : Nat → Int}
theorem Loc.below (hb : Below w.heap.size w w') (hV : V.b < w.heap.size) : Loc w V w' := fun _ _ _ k c h => .inr ⟨k, c, by rw [← h]; exact (hb.cell hV).symm⟩
theorem Loc.trans (h : Loc w V w') (h' : Loc w' V w'') (hs : w.heap.size ≤ w'.heap.size) : Loc w V w'' := fun q o s k c e => by
 rcases h' q o s k c e with h1 | ⟨k2, c2, h1⟩
 ·exact .inl (by omega)
 ·exact h q o s k2 c2 h1
theorem Loc.same (h : w'.cell? ⟨V.b, V.o + 9, none⟩ = w.cell? ⟨V.b, V.o + 9, none⟩) : Loc w V w' := fun _ _ _ k c e => .inr ⟨k, c, by rw [← h]; exact e⟩
theorem Tv.below (h : Tv w V n X M A B Z k f w') (hb : Below w'.heap.size w' w'') : Tv w V n X M A B Z k f w'' :=
 ⟨h.v.below hb, Dk.only_trans h.g (Dk.only_below hb), h.l.trans (Loc.below hb h.v.lt) h.g.size⟩
theorem Tv.of (h : HasVol w V n X M A B Z k f) (hb : Below w.heap.size w w') : Tv w V n X M A B Z k f w' := ⟨h.below hb, Dk.only_below hb, Loc.below hb h.lt⟩
theorem Tv.trans (h : Tv w V n X M A B Z k f w') (h' : Tv w' V n X' M' A B Z k f' w'') : Tv w V n X' M' A B Z k f' w'' := ⟨h'.v, Dk.only_trans h.g h'.g, h.l.trans h'.l h.g.size⟩
theorem Off.loc {b : Nat} (h : Off w V b) (hb : b < w.heap.size) (hl : Loc w V w') : Off w' V b := ⟨h.1, fun q o s k c e => by
 rcases hl q o s k c e with h1 | ⟨k2, c2, h1⟩
 ·omega
 ·exact h.2 q o s k2 c2 h1⟩
theorem Off.new {b : Nat} (h : HasVol w V n X M A B Z k f) (hk : 0 < k) (hb : w.heap.size ≤ b) : Off w V b := by
 have hl := h.lt
 obtain ⟨_, ao, kc, hv, hs⟩ := h
 refine ⟨by omega, fun q o s k2 c e => ?_⟩
 rw [hasV_c9 hv] at e
 injection e with e
 injection e with e1
 obtain ⟨b', off, e2, hb', _⟩ := Sp.bytes_tab hs.lies hk
 rw [e2] at e1
 injection e1 with e1
 injection e1 with e1
 omega
/-- another block of another type is written -/
theorem hasVol_only {b : Nat} {cur : Array Value} {t : TypeId} {fr : Nat × Nat} (h : HasVol w V n X M A B Z k f) (_hk : 0 < k) (ho : Off w V b) (hb : w.heap[b]? = some (.cells cur t fr)) (t1 : t ≠ 63) (t2 : t ≠ 204)
  (hM : M.k = 0 ∨ ((∃ s, Rm.rightB s M.gen M.k M.F M.T = true) ∧ ∀ (i : Nat) (z : Int), cur[i]? = some (.int .i64 z) → z < 8)) (hg : w.grownBy w' (some b)) : HasVol w' V n X M A B Z k f ∧ Off w' V b := by
 have hl := h.lt
 have hc9 : w'.cell? ⟨V.b, V.o + 9, none⟩ = w.cell? ⟨V.b, V.o + 9, none⟩ := World.cell?_of_block (hg.block V.b hl (by simpa using ho.1))
 refine ⟨?_, ho.1, fun q o s k c e => ho.2 q o s k c (by rw [← hc9]; exact e)⟩
 obtain ⟨hN, ao, kc, hv, hs⟩ := h
 have c9 := hasV_c9 hv
 obtain ⟨pa, cap, ⟨sa, sc, ca, cc, hh⟩, hl2, h0⟩ := hv
 have lay : ∀ {ao : Option Addr} {k c z : Nat} {T : Nat → List Value}, Lay w w.heap.size V.b ao k c z T → (k = 0 ∨ ∀ q o s, ao = some ⟨q, o, s⟩ → q ≠ b) → Lay w' w'.heap.size V.b ao k c z T := by
  intro ao k c z T hl hz
  refine Lay.more (B := w.heap.size) ⟨hl.room, hl.nil, ?_⟩ hg.size
  rcases hl.rows with h0 | ⟨q, off, e, hq, hqg, hr⟩
  ·exact .inl h0
  ·rcases hz with h0 | hz
   ·exact .inl h0
   ·exact .inr ⟨q, off, e, hq, hqg, fun i hi j v hv => (World.cell?_of_block (hg.block q hq (by simpa using hz q off _ e))).trans (hr i hi j v hv)⟩
 have ts := hh.ts.ne hb t1
 have tc := hh.tc.ne hb t2
 have tyk : ∀ {ao : Option Addr} {k c z : Nat} {T : Nat → List Value} {t : TypeId}, Lay w w.heap.size V.b ao k c z T → Ty w k ao t → (k = 0 ∨ ∀ q o s, ao = some ⟨q, o, s⟩ → q ≠ b) → Ty w' k ao t := by
  intro ao k c z T t hl ht hz
  rcases hz with h0 | hz
  ·exact .inl h0
  ·exact ht.grown2 (g := V.b) hg hl fun q o e => .inr (by simpa using hz q o _ e)
 refine ⟨hN, ao, kc, ⟨pa, cap, ⟨sa, sc, ca, cc, hh.bx.block (hg.block V.b hl (by simpa using ho.1)), lay hh.ss ts, lay hh.cs tc, hh.nb, hh.mb, tyk hh.ss hh.ts ts, tyk hh.cs hh.tc tc⟩, ?_, h0⟩, ?_⟩
 ·rcases hM with hM | ⟨⟨s, hr⟩, hz⟩
  ·exact lay hl2 (.inl hM)
  ·refine Lay.more (B := w.heap.size) ⟨hl2.room, hl2.nil, ?_⟩ hg.size
   rcases hl2.rows with h0 | ⟨q, off, e, hq, hqg, hrr⟩
   ·exact .inl h0
   ·refine .inr ⟨q, off, e, hq, hqg, fun i hi => ?_⟩
    have hqB : q ≠ b := by
     intro hqB
     subst hqB
     have h3 := hrr i hi 1 (.int .i64 (M.T i)) rfl
     rw [cell_of_row w q _ cur t fr hb] at h3
     have h4 := hz _ _ h3
     have := right_at hr i hi
     omega
    exact fun j v hj => (World.cell?_of_block (hg.block q hq (by simpa using hqB))).trans (hrr i hi j v hj)
 ·refine ⟨⟨hs.lies.room, hs.lies.nil, fun hne => ?_⟩, hs.byte, hs.room⟩
  obtain ⟨q, off, e, hq, hc⟩ := hs.lies.cells hne
  subst e
  have hqb := ho.2 q off none _ _ c9
  exact ⟨q, off, rfl, by have := hg.size; omega, fun i hi => (World.cell?_of_block (a := ⟨q, off + i, none⟩) (hg.block q hq (by simpa using hqb))).trans (hc i hi)⟩
theorem turn_loc {l : List Value} (hl : l.length = 6) (hk : 0 < k) (hb : V.b < w.heap.size) (hT : Sp.Turn w (V.tl l) A B Z k f w') : Loc w V w' := fun q o s k2 c2 e => by
 obtain ⟨⟨ao, cap, hx, hs⟩, _, hloc⟩ := hT
 have e3 := hx.c3
 rw [(tl_place V hl).1, (tl_place V hl).2] at e3
 rw [show V.o + 6 + 3 = V.o + 9 by omega] at e3
 rw [e3] at e
 injection e with e
 injection e with e1 e2 e4
 obtain ⟨b', off, e5, _⟩ := Sp.bytes_tab hs.lies hk
 rw [e5] at e1
 injection e1 with e1
 injection e1 with e1 e6 e7
 subst e1 e6 e7 e5
 rcases hloc b' off cap hx (by rw [(tl_place V hl).2]; exact hb) with h1 | ⟨cap', h1⟩
 ·exact .inl h1
 ·refine .inr ⟨k, cap', ?_⟩
  have := h1.c3
  rw [(tl_place V hl).1, (tl_place V hl).2] at this
  rw [show V.o + 6 + 3 = V.o + 9 by omega] at this
  exact this
theorem put_v (h : HasVol w V n X M A B Z k f) (hkp : Rm.Kp w) (hok : Ok 23 X) (hm : TabOk M) (D : Nat → Int) (a c : Int) (hD : byt D) (hok2 : Ok 23 (wRes n X M a D).2.1) (hm2 : TabOk (wRes n X M a D).2.2) :
  Calls Tryz.prog 112 #[.pointer (some ⟨V.b, V.o, none⟩), .pointer (some ⟨V.b, V.o + 4, none⟩), .agg (bl D).toArray, .int .i64 a, .int .i64 c] w
   fun e w' => e = .returned (.tuple #[.agg (Pt.pV (pRes n X M D a c).p).toArray, .int .i64 (pRes n X M D a c).e]) ∧ Tv w V n (pRes n X M D a c).X (pRes n X M D a c).M A B Z k f w' := by
 obtain ⟨gen, kt, F, T⟩ := M
 obtain ⟨ao, kc, hv, hd⟩ := h.disk
 refine (put_d (g := V.hd (Vm.spC A B Z ao k kc)) hkp hok gen kt F T hv hm D a c hD hok2 hm2).mono ?_
 rintro e w' ⟨he, hg, hV⟩
 exact ⟨he, hd w' _ _ hg hV, hg, Loc.same ((hasV_c9 hV).trans (hasV_c9 hv).symm)⟩
theorem get_v (h : HasVol w V n X M A B Z k f) (hkp : Rm.Kp w) (hok : Ok 23 X) (hm : TabOk M) (p : Pt.Pn) (hyA : byt (tV n X M p.A)) (hyB : byt (tV n X M p.B)) :
  Calls Tryz.prog 63 #[.pointer (some ⟨V.b, V.o, none⟩), .pointer (some ⟨V.b, V.o + 4, none⟩), .agg (Pt.pV p).toArray] w
   fun e w' => e = .returned (.tuple #[.agg (bl (gRes n X M p).V).toArray, .int .i64 (gRes n X M p).h, .int .i64 (gRes n X M p).e]) ∧ Tv w V n (gRes n X M p).X (gRes n X M p).M A B Z k f w' := by
 obtain ⟨gen, kt, F, T⟩ := M
 obtain ⟨ao, kc, hv, hd⟩ := h.disk
 refine (get_d (g := V.hd (Vm.spC A B Z ao k kc)) hkp hok gen kt F T hv hm p hyA hyB).mono ?_
 rintro e w' ⟨he, hg, hV⟩
 exact ⟨he, hd w' _ _ hg hV, hg, Loc.same ((hasV_c9 hV).trans (hasV_c9 hv).symm)⟩
theorem take_v (h : HasVol w V n X M A B Z k f) (hk : 0 < k) (hB : Sp.i64 B) (x : Int) :
  Calls Tryz.prog 111 #[.pointer (some ⟨V.b, V.o + 6, none⟩), .int .i64 x] w
   fun e w' => e = .returned (.tuple #[.int .i64 (Sp.tkp A B Z k f x), .int .i64 (Sp.tkq A B Z k f x), .int .i64 (Sp.tkE A B Z k f x)]) ∧ Tv w V n X M A B Z k (Sp.tkF A B Z k f x) w' := by
 obtain ⟨l, ao, kc, hl, hb, hs, ht⟩ := h.space
 have := Sp.Take_any (V.tl l) A B Z x ao k kc f w hb hB hs
 rw [(tl_place V hl).1, (tl_place V hl).2] at this
 exact this.mono fun e w' ⟨he, hT⟩ => ⟨he, ht w' _ hT, hT.only, turn_loc hl hk h.lt hT⟩
theorem drop_v (h : HasVol w V n X M A B Z k f) (hk : 0 < k) (hB : Sp.i64 B) (p : Pt.Pn) (hpA : Sp.i64 p.A) (hpB : Sp.i64 p.B) :
  Calls Tryz.prog 64 #[.pointer (some ⟨V.b, V.o + 6, none⟩), .agg (Pt.pV p).toArray] w
   fun e w' => e = .returned (.int .i64 (Sp.drE A B Z k f p)) ∧ Tv w V n X M A B Z k (Sp.drF A B Z k f p) w' := by
 obtain ⟨l, ao, kc, hl, hb, hs, ht⟩ := h.space
 have := Sp.Drop_any (V.tl l) A B Z p ao k kc f w hb hB hs hpA hpB
 rw [(tl_place V hl).1, (tl_place V hl).2] at this
 exact this.mono fun e w' ⟨he, hT⟩ => ⟨he, ht w' _ hT, hT.only, turn_loc hl hk h.lt hT⟩
theorem sweep_v (h : HasVol w V n X M A B Z k f) (hk : 0 < k) (hB : Sp.i64 B) :
  Calls Tryz.prog 56 #[.pointer (some ⟨V.b, V.o + 6, none⟩)] w
   fun e w' => e = .returned (.int .i64 (Sp.okE (Sp.formB A B Z k f))) ∧ Tv w V n X M A B Z k (Sp.swF Sp.swN A B Z k f) w' := by
 obtain ⟨l, ao, kc, hl, hb, hs, ht⟩ := h.space
 have := Sp.Sweep_any (V.tl l) A B Z ao k kc f w hb hB hs
 rw [(tl_place V hl).1, (tl_place V hl).2] at this
 exact this.mono fun e w' ⟨he, hT⟩ => ⟨he, ht w' _ hT, hT.only, turn_loc hl hk h.lt hT⟩
end
end Vl
end Go.Proofs.YtonhedefjmkpcaaGreatDoor
/- vol: one call on the volume whose answer goes into a new variable, in whatever order. -/
namespace Go.Proofs.YtonhedefjmkpcaaGreatDoor
set_option maxRecDepth 20000
namespace Vl
open Go.RowKit Dk Gm Eqb Rm Vm Di

/-- what holds at each moment: is the call done, the variable there, and set? -/
structure Wd (base : World) (V : Pl) (n : Nat) (X : Dst) (M : Tab) (X' : Dst) (M' : Tab) (A B Z : Int) (k : Nat) (f : Nat → Int) (T : TypeId) (old new : Array Value) (bc ba bs : Bool) (u : Value) (w' : World) : Prop where
 g : base.grownBy w' (some V.b)
 l : Loc base V w'
 p0 : bc = false → HasVol w' V n X M A B Z k f
 p1 : bc = true → HasVol w' V n X' M' A B Z k f
 al : ba = true → ∃ bk, u = .pointer (some ⟨bk, 0, none⟩) ∧ base.heap.size ≤ bk ∧ Off w' V bk ∧ w'.heap[bk]? = some (.cells (if bs then new else old) T (0, 0))
 or' : bs = true → bc = true ∧ ba = true
section
variable {base : World} {V : Pl} {n : Nat} {X X' : Dst} {M M' : Tab} {A B Z : Int} {k : Nat} {f : Nat → Int} {T : TypeId} {old new : Array Value} {bc ba bs : Bool} {u : Value} {w' w'' : World}
theorem Wd.start (h : HasVol base V n X M A B Z k f) : Wd base V n X M X' M' A B Z k f T old new false false false u { base with drawn := base.drawn + 1 } :=
 ⟨⟨rfl, rfl, rfl, Nat.le_refl _, fun _ _ _ => rfl⟩, fun _ _ _ k c e => .inr ⟨k, c, e⟩, fun _ => h.below ⟨rfl, rfl, rfl, Nat.le_refl _, fun _ _ => rfl⟩, (fun e => by cases e), (fun e => by cases e), (fun e => by cases e)⟩
theorem Wd.call (h : Wd base V n X M X' M' A B Z k f T old new bc ba bs u w') (hc : bc = false) (ht : Tv w' V n X' M' A B Z k f w'') : Wd base V n X M X' M' A B Z k f T old new true ba bs u w'' := by
 have hbs : bs = false := by
  cases e : bs with
  | false => rfl
  | true => exact absurd (h.or' e).1 (by rw [hc]; decide)
 subst hbs
 refine ⟨Dk.only_trans h.g ht.g, h.l.trans ht.l h.g.size, (fun e => by cases e), fun _ => ht.v, fun e => ?_, (fun e => by cases e)⟩
 obtain ⟨bk, e1, h1, h2, h3⟩ := h.al e
 have hlt := (Array.getElem?_eq_some_iff.1 h3).1
 exact ⟨bk, e1, h1, h2.loc hlt ht.l, (ht.g.block bk hlt (by simpa using h2.1.symm)).trans h3⟩
theorem Wd.alloc (h : Wd base V n X M X' M' A B Z k f T old new bc ba bs u w') (ha : ba = false) (hk : 0 < k) : Wd base V n X M X' M' A B Z k f T old new bc true bs (.pointer (some ⟨w'.heap.size, 0, none⟩)) (w'.alloc (.cells old T)) := by
 have hbs : bs = false := by
  cases e : bs with
  | false => rfl
  | true => exact absurd (h.or' e).2 (by rw [ha]; decide)
 subst hbs
 have hb : Below w'.heap.size w' (w'.alloc (.cells old T)) := (Below.refl _ _).alloc (Nat.le_refl _) _
 have hv : V.b < w'.heap.size ∧ Off w' V w'.heap.size := by
  cases e : bc with
  | false => exact ⟨(h.p0 e).lt, Off.new (h.p0 e) hk (Nat.le_refl _)⟩
  | true => exact ⟨(h.p1 e).lt, Off.new (h.p1 e) hk (Nat.le_refl _)⟩
 refine ⟨Dk.only_trans h.g (Dk.only_below hb), h.l.trans (Loc.below hb hv.1) h.g.size, fun e => (h.p0 e).below hb, fun e => (h.p1 e).below hb, fun _ => ⟨w'.heap.size, rfl, h.g.size, ?_, heap_alloc_new _ _⟩, (fun e => by cases e)⟩
 refine ⟨hv.2.1, fun q o s k c e => hv.2.2 q o s k c ?_⟩
 rw [← e]
 exact (hb.cell hv.1).symm
theorem Wd.store {bk : Nat} (h : Wd base V n X M X' M' A B Z k f T old new true true false (.pointer (some ⟨bk, 0, none⟩)) w') (hk : 0 < k) (t1 : T ≠ 63) (t2 : T ≠ 204)
  (hM : M'.k = 0 ∨ ((∃ s, Rm.rightB s M'.gen M'.k M'.F M'.T = true) ∧ ∀ (i : Nat) (z : Int), old[i]? = some (.int .i64 z) → z < 8)) : Wd base V n X M X' M' A B Z k f T old new true true true (.pointer (some ⟨bk, 0, none⟩)) (w'.setRow bk new) := by
 obtain ⟨bk', e1, h1, h2, h3⟩ := h.al rfl
 injection e1 with e1
 injection e1 with e1
 injection e1 with e1
 subst e1
 obtain ⟨hf1, hf2⟩ := hasVol_only (h.p1 rfl) hk h2 h3 t1 t2 hM (grown_row new)
 exact ⟨grown_only h.g h1 (grown_row _), h.l.trans (Loc.same (World.cell?_of_block (setRow_other _ _ _ _ h2.1))) h.g.size, (fun e => by cases e), fun _ => hf1, fun _ => ⟨bk, rfl, h1, hf2, setRow_heap _ _ _ _ _ _ h3⟩, fun _ => ⟨rfl, rfl⟩⟩
theorem Wd.row {bk : Nat} (h : Wd base V n X M X' M' A B Z k f T old new bc ba bs (.pointer (some ⟨bk, 0, none⟩)) w') (ha : ba = true) (hs : bs = false) : w'.heap[bk]? = some (.cells old T (0, 0)) := by
 obtain ⟨bk', e1, h1, h2, h3⟩ := h.al ha
 injection e1 with e1
 injection e1 with e1
 injection e1 with e1
 subst e1
 rw [hs] at h3
 exact h3
theorem Off.below {b : Nat} {w : World} (h : Off w V b) (hV : V.b < w.heap.size) (hb : Below w.heap.size w w') : Off w' V b :=
 ⟨h.1, fun q o s k c e => h.2 q o s k c (by rw [← e]; exact (hb.cell hV).symm)⟩
end
end Vl
end Go.Proofs.YtonhedefjmkpcaaGreatDoor
