/- disk: Arm, and the reference's; New, and the reference's. -/
import Derived.Test.YtlhncceajpdahaaDkAct
namespace Go.Proofs.Ytlhncceajpdahaa
namespace Dk
open Go.RowKit

theorem Has.below {w w' : World} {g : Nat} {sa ca : Option Addr} {n sc m cc : Nat} {S : Nat → Sec} {C : Nat → Wr} {f : Int} {d : Bool} (h : Has w g sa ca n sc m cc S C f d) (hb : Below w.heap.size w w') : Has w' g sa ca n sc m cc S C f d :=
  h.turn (only_below hb) (h.bx.below hb)
theorem Has.n47 {w : World} {g : Nat} {sa ca : Option Addr} {n sc m cc : Nat} {S : Nat → Sec} {C : Nat → Wr} {f : Int} {d : Bool} (h : Has w g sa ca n sc m cc S C f d) : n ≤ 140737488355328 ∧ m ≤ 140737488355328 := by
  have := h.nb
  have := h.mb
  omega
theorem Has.formed {w : World} {g : Nat} {sa ca : Option Addr} {n sc m cc : Nat} {S : Nat → Sec} {C : Nat → Wr} {f : Int} {d : Bool} (h : Has w g sa ca n sc m cc S C f d) :
    Calls Try.prog 12 #[.pointer (some ⟨g, 0, none⟩)] w fun e w' => e = .returned (.bool (formedB n m C)) ∧ Below w.heap.size w w' :=
  formed_any g sa ca n sc m cc C f d w h.bx h.n47.1 h.n47.2 h.cs
def armOk (n m : Nat) (C : Nat → Wr) (k : Int) : Bool := formedB n m C && decide (-1 ≤ k)
def armE (n m : Nat) (C : Nat → Wr) (k : Int) : Int := if armOk n m C k then 0 else 1
def armF (n m : Nat) (C : Nat → Wr) (k f : Int) : Int := if armOk n m C k then k else f

set_option maxHeartbeats 1000000 in
theorem arm_any (g : Nat) (sa ca : Option Addr) (n sc m cc : Nat) (S : Nat → Sec) (C : Nat → Wr) (f : Int) (d : Bool) (k : Int) (w : World) (h : Has w g sa ca n sc m cc S C f d) :
    Calls Try.prog 6 #[.pointer (some ⟨g, 0, none⟩), .int .i64 k] w (Turns w g (armE n m C k) n m S C (armF n m C k f) d) := by
  have hF := h.formed
  have HH := Lib.hid h
  have nb := h.nb
  have mb := h.mb
  clear h
  unfold Turns
  cases hf : formedB n m C with
  | false =>
    have hok : armOk n m C k = false := by unfold armOk; rw [hf]; rfl
    have e1 : armE n m C k = 1 := by unfold armE; rw [hok]; rfl
    have e2 : armF n m C k f = f := by unfold armF; rw [hok]; rfl
    rw [e1, e2]
    rw [hf] at hF
    clear e1 e2 hok hf
    go_enter Try.func6, Try.ntmps6
    go_wp2_with fail
    refine hF.mono ?_
    rintro _ w1 ⟨rfl, hb⟩
    dsimp only
    go_wp2_with fail
    go_ret
    exact ⟨rfl, only_below hb, sa, sc, ca, cc, HH.out.below hb⟩
  | true =>
    rw [hf] at hF
    by_cases hk : -1 ≤ k
    · have hok : armOk n m C k = true := by unfold armOk; rw [hf, decide_eq_true hk]; rfl
      have e1 : armE n m C k = 0 := by unfold armE; rw [hok]; rfl
      have e2 : armF n m C k f = k := by unfold armF; rw [hok]; rfl
      rw [e1, e2]
      clear e1 e2 hok hf
      go_enter Try.func6, Try.ntmps6
      go_wp2_with fail
      refine hF.mono ?_
      rintro _ w1 ⟨rfl, hb⟩
      dsimp only
      go_wp2_with fail
      refine (renew_any g sa ca n sc m cc S C f d w1 (HH.out.below hb)).mono ?_
      rintro _ w2 ⟨⟨v, rfl⟩, hg, sa', sc', ca', cc', hM⟩
      have k2 := hM.bx.fr 2
      have c2 := hM.bx.c2
      dsimp only
      go_wp2_with fail
      go_ret
      exact ⟨rfl, only_trans (only_trans (only_below hb) hg) (only_put _ _ _ _), sa', sc', ca', cc', (hM.turn (only_put _ _ _ _) (hM.bx.s2 _)).has nb mb⟩
    · have hok : armOk n m C k = false := by unfold armOk; rw [hf, decide_eq_false hk]; rfl
      have e1 : armE n m C k = 1 := by unfold armE; rw [hok]; rfl
      have e2 : armF n m C k f = f := by unfold armF; rw [hok]; rfl
      rw [e1, e2]
      clear e1 e2 hok hf
      have hk' : k < -1 := by omega
      clear hk
      go_enter Try.func6, Try.ntmps6
      go_wp2_with fail
      refine hF.mono ?_
      rintro _ w1 ⟨rfl, hb⟩
      dsimp only
      go_wp2_with fail
      go_ret
      exact ⟨rfl, only_below hb, sa, sc, ca, cc, HH.out.below hb⟩

end Dk
end Go.Proofs.Ytlhncceajpdahaa
