/- ditto: a law's disk and table, and what the calls do to them. -/
import Derived.Test.YtllejfnmbpjhaaaGreatDoorDiN
import Derived.Test.YtllejfnmbpjhaaaGreatDoorDiPut
import Derived.Test.YtllejfnmbpjhaaaGreatDoorDiGet
namespace Go.Proofs.YtllejfnmbpjhaaaGreatDoor
set_option maxRecDepth 20000
namespace Di
open Go.RowKit Dk Byt Eqb Rm

/-- a law's disk of 60 sectors in block g, its table in block b -/
structure LwS (w0 : World) (g b : Nat) (X : Dst) (w : World) : Prop where
  be : Below w0.heap.size w0 w
  d : HasD w g 60 X
  t : HasT w b g aM0
  kp : Rm.Kp w
  hg : w0.heap.size ≤ g
  hb : w0.heap.size ≤ b
  ne : g ≠ b
  pos : 0 < w0.heap.size
section
variable {w0 w w' : World} {g b : Nat} {X X' : Dst}
theorem LwS.turn (h : LwS w0 g b X w) (ht : Two w w' g b) (hd : HasD w' g 60 X') (hm : HasT w' b g aM0) : LwS w0 g b X' w' :=
  have hg := h.hg
  have hb := h.hb
  ⟨⟨ht.os.trans h.be.os, ht.tape.trans h.be.tape, ht.output.trans h.be.output, Nat.le_trans h.be.size ht.size, fun k hk => (ht.block k (Nat.lt_of_lt_of_le hk h.be.size) (by omega) (by omega)).trans (h.be.block k hk)⟩,
    hd, hm, kp_two h.kp ht (h.kp.ne h.d) (kp_ne_t h.kp h.t), h.hg, h.hb, h.ne, h.pos⟩
theorem LwS.below (h : LwS w0 g b X w) (hb : Below w.heap.size w w') : LwS w0 g b X w' := h.turn (two_of_below hb) (h.d.below hb) (hasT_below h.t hb)
theorem LwS.only (h : LwS w0 g b X w) {B : Nat} {cur : Array Value} {t : TypeId} {fr : Nat × Nat} (hB : w.heap[B]? = some (.cells cur t fr)) (hc : cur.size ≤ 128) (hz : ∀ (i : Nat) (z : Int), cur[i]? = some (.int .i64 z) → z < 8) (h1 : w0.heap.size ≤ B) (h2 : g ≠ B) (h3 : b ≠ B) (hgr : w.grownBy w' (some B)) : LwS w0 g b X w' := by
  refine ⟨below_only h.be h1 hgr, hasD_only h.d hB hc h2 hgr, hasT_only (s := ((60 : Nat) : Int)) h.t rt0 hB hz h3 hgr, h.kp.grown hgr (fun e => ?_), h.hg, h.hb, h.ne, h.pos⟩
  have := h.pos
  omega
end

theorem hasT_grown {w w' : World} {b g : Nat} {M : Tab} (h : HasT w b g M) (hg : w.grownBy w' (some g)) (hne : b ≠ g) : HasT w' b g M := by
  obtain ⟨pa, cap, h1, h2⟩ := h
  exact ⟨pa, cap, (hg.block b (Array.getElem?_eq_some_iff.1 h1).1 (by simpa using hne)).trans h1, (h2.grown hg (Nat.le_refl _)).more hg.size⟩
/-- what a law's call comes to: its answer, the disk behind it -/
def LwD (w0 w : World) (g b : Nat) (v : Value) (X : Dst) (e : Ending) (w' : World) : Prop := e = .returned v ∧ Two w w' g b ∧ LwS w0 g b X w'
section
variable {w0 w : World} {g b : Nat} {X : Dst}
theorem lflush (h : LwS w0 g b X w) (hu : Up X) (hm : X.m ≤ 100) : Calls Tryz.prog 18 #[.pointer (some ⟨g, 0, none⟩)] w (LwD w0 w g b (.int .i64 0) (dFl 60 X)) := by
  refine (flush_d h.d (hu.ok (k := 0) (by omega))).mono ?_
  rintro e w' ⟨he, hg, hd⟩
  rw [hu.fl.1] at he
  exact ⟨he, Two.of hg, h.turn (Two.of hg) hd (hasT_grown h.t hg h.ne.symm)⟩
theorem lhit (h : LwS w0 g b X w) (hu : Up X) (hm : X.m = 0) (a k p y : Int) (ha : 0 ≤ a ∧ a < 60) (hk : hitsB k p = true) : Calls Tryz.prog 19 #[.pointer (some ⟨g, 0, none⟩), .int .i64 a, .int .i64 k, .int .i64 p, .int .u8 y] w (LwD w0 w g b (.int .i64 0) (hX X a k p y)) := by
  obtain ⟨sa, sc, ca, cc, hh⟩ := h.d
  refine (hit_any g sa ca 60 sc X.m cc X.S X.C X.f X.d a k p y w hh).mono ?_
  rintro e w' ⟨he, hg, sa', sc', ca', cc', hh'⟩
  rw [(hu.hit hm y ha hk).1] at he
  exact ⟨he, Two.of hg, h.turn (Two.of hg) ⟨sa', sc', ca', cc', hh'⟩ (hasT_grown h.t hg h.ne.symm)⟩
theorem tb0 : TabOk aM0 := ⟨by show 0 ≤ _; omega, fun i hi => by have hi' : i < 0 := hi; omega⟩
theorem lget (h : LwS w0 g b X w) (hu : Up X) (hm : X.m ≤ 100) (p : Pt.Pn) (hyA : byt (tV 60 X aM0 p.A)) (hyB : byt (tV 60 X aM0 p.B)) (hM : (gRes 60 X aM0 p).M = aM0) :
    Calls Tryz.prog 9 #[.pointer (some ⟨g, 0, none⟩), .pointer (some ⟨b, 0, none⟩), .agg (Pt.pV p).toArray] w (LwD w0 w g b (.tuple #[.agg (bl (gRes 60 X aM0 p).V).toArray, .int .i64 (gRes 60 X aM0 p).h, .int .i64 (gRes 60 X aM0 p).e]) (gRes 60 X aM0 p).X) := by
  refine (get_d h.d h.kp (hu.ok (k := 23) (by omega)) 0 0 zF zF h.t tb0 h.ne p hyA hyB).mono ?_
  rintro e w' ⟨he, ht, hd, hm'⟩
  have hm2 : HasT w' b g (gRes 60 X aM0 p).M := hm'
  rw [hM] at hm2
  exact ⟨he, ht, h.turn ht hd hm2⟩
theorem lread (h : LwS w0 g b X w) (x : Int) (pa : Option Addr) (cap : Nat) (hl : Lay w w.heap.size g pa 0 cap 2 (prV zF zF)) :
    Calls Tryz.prog 44 #[.pointer (some ⟨g, 0, none⟩), .agg #[.int .i64 0, .slice pa 0 cap], .int .i64 x] w (LwD w0 w g b (.tuple #[.agg (bl (tV 60 X aM0 x)).toArray, .int .i64 (tE 60 X aM0 x)]) X) := by
  refine (read_d h.d 0 0 zF zF pa cap g x hl (by omega) tb0.2).mono ?_
  rintro e w' ⟨he, hb⟩
  exact ⟨he, two_of_below hb, h.below hb⟩
theorem of2 (V : Nat → Int) : Pt.ofE V 3 25 = 0 := by unfold Pt.ofE; rw [if_pos ⟨hole3 _ _, right3 _⟩]
theorem of1 (V : Nat → Int) : Pt.ofE V 3 (-1) = 0 := by unfold Pt.ofE; rw [if_pos ⟨hole3 _ _, right31 _⟩]
theorem p_res2 (hu : Up X) (h3 : nw X 3 = false) (h25 : nw X 25 = false) (V : Nat → Int) : pRes 60 X aM0 V 3 25 = ⟨⟨3, 25, Pt.sumD V⟩, 0, dWr 60 (dWr 60 X 3 V) 25 V, aM0⟩ := by
  obtain ⟨_, u1, _, n1⟩ := hu.wr (a := 3) (by decide) h3 V
  have w1 := w_up hu (.inl rfl) h3 V
  have w2 := w_up u1 (x := 25) (.inr rfl) (by rw [n1]; exact h25) V
  have e2 : wRes 60 (wRes 60 X aM0 3 V).2.1 (wRes 60 X aM0 3 V).2.2 25 V = (0, dWr 60 (dWr 60 X 3 V) 25 V, aM0) := by rw [w1]; exact w2
  rw [p_two (of2 V) (hom2 hu _) (by rw [w1]) (by decide) (by rw [e2]), e2]
theorem p_res1 (hu : Up X) (h3 : nw X 3 = false) (V : Nat → Int) : pRes 60 X aM0 V 3 (-1) = ⟨⟨3, -1, Pt.sumD V⟩, 0, dWr 60 X 3 V, aM0⟩ := by
  have w1 := w_up hu (.inl rfl) h3 V
  rw [p_one (of1 V) (hom1 hu _) (by rw [w1]) rfl, w1]
theorem lput (h : LwS w0 g b X w) (hu : Up X) (hm : X.m ≤ 100) (h3 : nw X 3 = false) (h25 : nw X 25 = false) (V : Nat → Int) (hV : byt V) :
    Calls Tryz.prog 17 #[.pointer (some ⟨g, 0, none⟩), .pointer (some ⟨b, 0, none⟩), .agg (bl V).toArray, .int .i64 3, .int .i64 25] w (LwD w0 w g b (.tuple #[.agg (Pt.pV ⟨3, 25, Pt.sumD V⟩).toArray, .int .i64 0]) (dWr 60 (dWr 60 X 3 V) 25 V)) := by
  obtain ⟨_, u1, m1, _⟩ := hu.wr (a := 3) (by decide) h3 V
  have w1 := w_up hu (.inl rfl) h3 V
  refine (put_d h.d h.kp (hu.ok (k := 23) (by omega)) 0 0 zF zF h.t tb0 h.ne V 3 25 hV (by show Ok 23 (wRes 60 X aM0 3 V).2.1; rw [w1]; exact u1.ok (k := 23) (by omega)) (by show TabOk (wRes 60 X aM0 3 V).2.2; rw [w1]; exact tb0)).mono ?_
  rintro e w' hp
  have hp' : Puts w g b 60 (pRes 60 X aM0 V 3 25) e w' := hp
  rw [p_res2 hu h3 h25 V] at hp'
  obtain ⟨he, ht, hd, hm'⟩ := hp'
  exact ⟨he, ht, h.turn ht hd hm'⟩
theorem lput1 (h : LwS w0 g b X w) (hu : Up X) (hm : X.m ≤ 100) (h3 : nw X 3 = false) (V : Nat → Int) (hV : byt V) :
    Calls Tryz.prog 17 #[.pointer (some ⟨g, 0, none⟩), .pointer (some ⟨b, 0, none⟩), .agg (bl V).toArray, .int .i64 3, .int .i64 (-1)] w (LwD w0 w g b (.tuple #[.agg (Pt.pV ⟨3, -1, Pt.sumD V⟩).toArray, .int .i64 0]) (dWr 60 X 3 V)) := by
  obtain ⟨_, u1, m1, _⟩ := hu.wr (a := 3) (by decide) h3 V
  have w1 := w_up hu (.inl rfl) h3 V
  refine (put_d h.d h.kp (hu.ok (k := 23) (by omega)) 0 0 zF zF h.t tb0 h.ne V 3 (-1) hV (by show Ok 23 (wRes 60 X aM0 3 V).2.1; rw [w1]; exact u1.ok (k := 23) (by omega)) (by show TabOk (wRes 60 X aM0 3 V).2.2; rw [w1]; exact tb0)).mono ?_
  rintro e w' hp
  have hp' : Puts w g b 60 (pRes 60 X aM0 V 3 (-1)) e w' := hp
  rw [p_res1 hu h3 V] at hp'
  obtain ⟨he, ht, hd, hm'⟩ := hp'
  exact ⟨he, ht, h.turn ht hd hm'⟩
end
/-- the disk behind a Put of two copies and a flush -/
def cX2 (V : Nat → Int) : Dst := dWr 60 (dWr 60 fX1 3 V) 25 V
def cX3 (V : Nat → Int) : Dst := dFl 60 (cX2 V)
theorem chain2 (V : Nat → Int) : Up (cX2 V) ∧ (cX2 V).m = 2 ∧ Up (cX3 V) ∧ (cX3 V).m = 0 ∧ ∀ x, Sx x → lk (cX3 V) x = (false, V) ∧ nw (cX3 V) x = false := by
  unfold cX3 cX2
  obtain ⟨_, u0, m0, h0⟩ := fresh_up
  obtain ⟨e1, u1, m1, n1⟩ := u0.wr (a := 3) (by decide) (h0 3 (.inl rfl)).2 V
  obtain ⟨e2, u2, m2, n2⟩ := u1.wr (a := 25) (by decide) (by rw [n1]; exact (h0 25 (.inr rfl)).2) V
  obtain ⟨e3, u3, m3, n3⟩ := u2.fl
  refine ⟨u2, by show (dWr 60 (dWr 60 fX1 3 V) 25 V).m = 2; rw [m2, m1, m0], u3, m3, fun x hx => ⟨?_, ?_⟩⟩
  · rw [lk_flush e3 u2.f hx.bd.1]
    rcases hx with rfl | rfl
    · rw [lk_other (by decide)]
      exact lk_same e1
    · exact lk_same e2
  · rw [n3]
    rw [n2, n1]
    exact (h0 x hx).2
def bX2 (V : Nat → Int) : Dst := dWr 60 fX1 3 V
def bX3 (V : Nat → Int) : Dst := dFl 60 (bX2 V)
theorem chain1 (V : Nat → Int) : Up (bX2 V) ∧ (bX2 V).m = 1 ∧ Up (bX3 V) ∧ (bX3 V).m = 0 ∧ lk (bX3 V) 3 = (false, V) ∧ lk (bX3 V) 25 = (false, fun _ => 0) ∧ nw (bX3 V) 3 = false ∧ nw (bX3 V) 25 = false := by
  unfold bX3 bX2
  obtain ⟨_, u0, m0, h0⟩ := fresh_up
  obtain ⟨e1, u1, m1, n1⟩ := u0.wr (a := 3) (by decide) (h0 3 (.inl rfl)).2 V
  obtain ⟨e3, u3, m3, n3⟩ := u1.fl
  refine ⟨u1, by show (dWr 60 fX1 3 V).m = 1; rw [m1, m0], u3, m3, ?_, ?_, ?_, ?_⟩
  · rw [lk_flush e3 u1.f (by decide)]
    exact lk_same e1
  · rw [lk_flush e3 u1.f (by decide)]
    rw [lk_other (by decide)]
    exact (h0 25 (.inr rfl)).1
  · rw [n3]
    rw [n1]
    exact (h0 3 (.inl rfl)).2
  · rw [n3]
    rw [n1]
    exact (h0 25 (.inr rfl)).2
end Di
end Go.Proofs.YtllejfnmbpjhaaaGreatDoor
