/- remap: a disk's state as one; half, home. -/
import Derived.Test.YtllejfnmbpjhaaaDoorRmPut
import Derived.Test.YtllejfnmbpjhaaaDoorDkHit2
import Derived.Test.YtllejfnmbpjhaaaDoorJDl
namespace Go.Proofs.YtllejfnmbpjhaaaDoor
set_option maxRecDepth 20000
namespace Rm
open Go.RowKit Dk Byt

/-- what a disk has, but for its sectors' count -/
structure Dst where
  m : Nat
  S : Nat → Sec
  C : Nat → Wr
  f : Int
  d : Bool
def HasD (w : World) (g n : Nat) (X : Dst) : Prop := ∃ sa sc ca cc, Has w g sa ca n sc X.m cc X.S X.C X.f X.d
def Ok (k : Nat) (X : Dst) : Prop := (X.m + k) * 136 ≤ 140737488355328 ∧ i64 X.f
def dWr (n : Nat) (X : Dst) (a : Int) (D : Nat → Int) : Dst := ⟨wrM n X.m X.S X.C X.f X.d a, X.S, wrC n X.m X.S X.C X.f X.d a D, wrF n X.m X.C X.f X.d a, wrD n X.m X.C X.f X.d a⟩
def dWrE (n : Nat) (X : Dst) (a : Int) : Int := wrE n X.m X.S X.C X.f X.d a
def dFl (n : Nat) (X : Dst) : Dst := ⟨flM n X.m X.C X.f X.d, flS n X.m X.S X.C X.f X.d, X.C, flF n X.m X.C X.f X.d, flD n X.m X.C X.f X.d⟩
def dFlE (n : Nat) (X : Dst) : Int := flE n X.m X.C X.f X.d
/-- what a call comes to that may turn the disk -/
def Did (w : World) (g n : Nat) (E : Int) (X : Dst) (e : Ending) (w' : World) : Prop := e = .returned (.int .i64 E) ∧ w.grownBy w' (some g) ∧ HasD w' g n X
theorem act_i64 {f : Int} {d : Bool} (h : i64 f) : i64 (actF f d) := by
  unfold i64 at *
  unfold actF
  split
  · exact h
  · split
    · omega
    · exact h
theorem Ok.wr {k n : Nat} {X : Dst} {a : Int} {D : Nat → Int} (h : Ok (k + 1) X) : Ok k (dWr n X a D) := by
  obtain ⟨h1, h2⟩ := h
  constructor
  · show (wrM n X.m X.S X.C X.f X.d a + k) * 136 ≤ _
    have : wrM n X.m X.S X.C X.f X.d a ≤ X.m + 1 := by unfold wrM; split <;> omega
    omega
  · show i64 (wrF n X.m X.C X.f X.d a)
    unfold wrF
    split
    · exact act_i64 h2
    · exact h2
theorem Ok.fl {k n : Nat} {X : Dst} (h : Ok k X) : Ok k (dFl n X) := by
  obtain ⟨h1, h2⟩ := h
  constructor
  · show (flM n X.m X.C X.f X.d + k) * 136 ≤ _
    have : flM n X.m X.C X.f X.d ≤ X.m := by unfold flM; split <;> omega
    omega
  · show i64 (flF n X.m X.C X.f X.d)
    unfold flF
    split
    · exact act_i64 h2
    · exact h2
theorem Ok.less {k k' : Nat} {X : Dst} (h : Ok k X) (hk : k' ≤ k) : Ok k' X := ⟨by have := h.1; omega, h.2⟩
theorem write_d {w : World} {g n : Nat} {X : Dst} (h : HasD w g n X) (hk : Ok 1 X) (a : Int) (D : Nat → Int) : Calls Tryd.prog 55 #[.pointer (some ⟨g, 0, none⟩), .int .i64 a, .agg (bl D).toArray] w (Did w g n (dWrE n X a) (dWr n X a D)) := by
  obtain ⟨sa, sc, ca, cc, hh⟩ := h
  exact write_any g sa ca n sc X.m cc X.S X.C X.f X.d a D w hh hk.2 hk.1
theorem flush_d {w : World} {g n : Nat} {X : Dst} (h : HasD w g n X) (hk : Ok 0 X) : Calls Tryd.prog 39 #[.pointer (some ⟨g, 0, none⟩)] w (Did w g n (dFlE n X) (dFl n X)) := by
  obtain ⟨sa, sc, ca, cc, hh⟩ := h
  exact flush_any g sa ca n sc X.m cc X.S X.C X.f X.d w hh hk.2
theorem HasD.below {w w' : World} {g n : Nat} {X : Dst} (h : HasD w g n X) (hb : Below w.heap.size w w') : HasD w' g n X := by
  obtain ⟨sa, sc, ca, cc, hh⟩ := h
  exact ⟨sa, sc, ca, cc, hh.below hb⟩
theorem HasD.lt {w : World} {g n : Nat} {X : Dst} (h : HasD w g n X) : g < w.heap.size := by
  obtain ⟨sa, sc, ca, cc, hh⟩ := h
  exact hh.bx.lt
theorem HasD.n47 {w : World} {g n : Nat} {X : Dst} (h : HasD w g n X) : n ≤ 140737488355328 := by
  obtain ⟨sa, sc, ca, cc, hh⟩ := h
  exact hh.n47.1

/-- how many sectors one half of the disk has; 0: it has none -/
def hfN (n : Nat) (X : Dst) : Int := if formedB n X.m X.C then halfN n else 0
theorem hfN_bd (n : Nat) (X : Dst) : 0 ≤ hfN n X ∧ hfN n X ≤ 2038 := by
  unfold hfN
  have := halfN_bd n
  split <;> omega

set_option maxRecDepth 100000 in
set_option maxHeartbeats 1000000 in
theorem half_d {w : World} {g n : Nat} {X : Dst} (h : HasD w g n X) : Calls Tryd.prog 66 #[.pointer (some ⟨g, 0, none⟩)] w fun e w' => e = .returned (.int .i64 (hfN n X)) ∧ Below w.heap.size w w' := by
  obtain ⟨sa, sc, ca, cc, hh⟩ := h
  have HH := Lib.hid hh
  have c0 := hh.bx.c0
  have c1 := hh.bx.c1
  have c2 := hh.bx.c2
  have c3 := hh.bx.c3
  have hgl := hh.bx.lt
  have h47 := hh.n47
  have HF := Lib.hid (Formed_any sa ca n sc X.m cc g X.C X.f X.d w h47.1 h47.2 hh.cs)
  have HV : Hid (hfN n X = if formedB n X.m X.C then halfN n else 0) := Lib.hid rfl
  clear hh
  obtain ⟨h1, h2⟩ := h47
  generalize hfN n X = V at HV ⊢
  generalize formedB n X.m X.C = b at HF HV
  cases b with
  | false =>
    go_enter Tryd.func66, Tryd.ntmps66
    go_wp2_with fail
    refine HF.out.mono ?_
    rintro _ w1 ⟨rfl, hb⟩
    dsimp only
    go_wp2_with fail
    go_ret
    exact ⟨by rw [HV.out]; rfl, hb⟩
  | true =>
    go_enter Tryd.func66, Tryd.ntmps66
    go_wp2_with fail
    refine HF.out.mono ?_
    rintro _ w1 ⟨rfl, hb⟩
    have k0 := (hb.cell (p := ⟨g, 0, none⟩) hgl).trans c0
    clear c0 c1 c2 c3
    dsimp only
    go_wp2_with fail
    refine (half_any n w1).mono ?_
    rintro _ w2 ⟨rfl, hb2⟩
    dsimp only
    go_wp2_with fail
    go_ret
    exact ⟨by rw [HV.out]; rfl, hb.trans (hb2.mono hb.size)⟩
end Rm
end Go.Proofs.YtllejfnmbpjhaaaDoor
