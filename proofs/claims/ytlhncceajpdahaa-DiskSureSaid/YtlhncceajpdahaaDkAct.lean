/- disk: act, Arm, Flush's and Crash's closures; the reference's act and Arm. -/
import Derived.Test.YtlhncceajpdahaaDkRenew
namespace Go.Proofs.Ytlhncceajpdahaa
namespace Dk
open Go.RowKit

def actE (f : Int) (d : Bool) : Int := if d = true ∨ f = 0 then 3 else 0
def actF (f : Int) (d : Bool) : Int := if d = true then f else if 0 < f then f - 1 else f
def actD (f : Int) (d : Bool) : Bool := d || decide (f = 0)

/-- what a call that may turn a disk comes to: answer E; only block g, and new memory -/
def Turns (w : World) (g : Nat) (E : Int) (n m : Nat) (S : Nat → Sec) (C : Nat → Wr) (f : Int) (d : Bool) (e : Ending) (w' : World) : Prop :=
  e = .returned (.int .i64 E) ∧ w.grownBy w' (some g) ∧ ∃ sa sc ca cc, Has w' g sa ca n sc m cc S C f d

theorem Has.turn {w w' : World} {g : Nat} {sa ca : Option Addr} {n sc m cc : Nat} {S : Nat → Sec} {C : Nat → Wr} {f : Int} {d : Bool} {f' : Int} {d' : Bool} (h : Has w g sa ca n sc m cc S C f d) (hg : w.grownBy w' (some g)) (hx : Bx w' g (.slice sa n sc) (.slice ca m cc) (.int .i64 f') (.bool d')) : Has w' g sa ca n sc m cc S C f' d' :=
  ⟨hx, (h.ss.grown hg (Nat.le_refl _)).more hg.size, (h.cs.grown hg (Nat.le_refl _)).more hg.size, h.nb, h.mb⟩
theorem Mine.turn {w w' : World} {B g : Nat} {sa ca : Option Addr} {n sc m cc : Nat} {S : Nat → Sec} {C : Nat → Wr} {f : Int} {d : Bool} {f' : Int} {d' : Bool} (h : Mine w B g sa ca n sc m cc S C f d) (hg : w.grownBy w' (some g)) (hx : Bx w' g (.slice sa n sc) (.slice ca m cc) (.int .i64 f') (.bool d')) : Mine w' B g sa ca n sc m cc S C f' d' :=
  ⟨hx, h.ss.kept hg (by cases e : (Value.slice sa n sc).ownBlock with
    | none => exact .inl rfl
    | some b => exact .inr fun hb => by injection hb with hb; have := (h.ss.lt b e).1; have := h.far; omega), h.cs.kept hg (by cases e : (Value.slice ca m cc).ownBlock with
    | none => exact .inl rfl
    | some b => exact .inr fun hb => by injection hb with hb; have := (h.cs.lt b e).1; have := h.far; omega), h.far⟩

/-- what act comes to: where it answers OK the lists are its own -/
def Acts (w : World) (g : Nat) (n m : Nat) (S : Nat → Sec) (C : Nat → Wr) (f : Int) (d : Bool) (e : Ending) (w' : World) : Prop :=
  e = .returned (.int .i64 (actE f d)) ∧ w.grownBy w' (some g) ∧ (∃ sa sc ca cc, Has w' g sa ca n sc m cc S C (actF f d) (actD f d)) ∧ (actE f d = 0 → ∃ sa sc ca cc, Mine w' w.heap.size g sa ca n sc m cc S C (actF f d) (actD f d))

set_option maxHeartbeats 1000000 in
theorem act_any (g : Nat) (sa ca : Option Addr) (n sc m cc : Nat) (S : Nat → Sec) (C : Nat → Wr) (f : Int) (d : Bool) (w : World) (h : Has w g sa ca n sc m cc S C f d) (hf : -9223372036854775808 ≤ f ∧ f ≤ 9223372036854775807) :
    Calls Try.prog 14 #[.pointer (some ⟨g, 0, none⟩)] w (Acts w g n m S C f d) := by
  have HH := Lib.hid h
  have d3 := h.bx.c3
  clear h
  obtain ⟨hf0, hf1⟩ := hf
  cases d with
  | true =>
    have e1 : actE f true = 3 := rfl
    have e2 : actF f true = f := rfl
    have e3 : actD f true = true := rfl
    unfold Acts
    rw [e1, e2, e3]
    go_enter Try.func14, Try.ntmps14
    go_wp2_with fail
    go_ret
    exact ⟨rfl, World.grownBy.refl _ _, ⟨sa, sc, ca, cc, HH.out⟩, fun h => by cases h⟩
  | false =>
    have hr := renew_any g sa ca n sc m cc S C f false w HH.out
    have nb := HH.out.nb
    have mb := HH.out.mb
    clear HH
    rcases (show f = 0 ∨ (f ≠ 0 ∧ 0 < f) ∨ (f ≠ 0 ∧ f < 0) by omega) with hz | ⟨hz, hp⟩ | ⟨hz, hp⟩
    · have e1 : actE f false = 3 := by unfold actE; rw [if_pos (.inr hz)]
      have e2 : actF f false = f := by unfold actF; rw [if_neg (by simp), if_neg (by omega)]
      have e3 : actD f false = true := by unfold actD; rw [decide_eq_true hz]; rfl
      unfold Acts
      rw [e1, e2, e3]
      clear e1 e2 e3
      subst hz
      go_enter Try.func14, Try.ntmps14
      go_wp2_with fail
      refine hr.mono ?_
      rintro _ w1 ⟨⟨v, rfl⟩, hg, sa', sc', ca', cc', hM⟩
      have c2 := hM.bx.c2
      have c3 := hM.bx.c3
      have k3 := hM.bx.fr 3
      dsimp only
      go_wp2_with fail
      go_ret
      exact ⟨rfl, only_trans hg (only_put _ _ _ _), ⟨sa', sc', ca', cc', (hM.turn (only_put _ _ _ _) (hM.bx.s3 _)).has nb mb⟩, fun h => by cases h⟩
    · have e1 : actE f false = 0 := by unfold actE; rw [if_neg (by simp [hz])]
      have e2 : actF f false = f - 1 := by unfold actF; rw [if_neg (by simp), if_pos hp]
      have e3 : actD f false = false := by unfold actD; rw [decide_eq_false hz]; rfl
      unfold Acts
      rw [e1, e2, e3]
      clear e1 e2 e3
      have hz' : (f == 0) = false := by simpa using hz
      clear hz
      go_enter Try.func14, Try.ntmps14
      go_wp2_with fail
      refine hr.mono ?_
      rintro _ w1 ⟨⟨v, rfl⟩, hg, sa', sc', ca', cc', hM⟩
      have c2 := hM.bx.c2
      have c3 := hM.bx.c3
      have k2 := hM.bx.fr 2
      dsimp only
      go_wp2_with fail
      go_ret
      have hN := hM.turn (only_put _ _ _ _) (hM.bx.s2 (.int .i64 (f - 1)))
      exact ⟨rfl, only_trans hg (only_put _ _ _ _), ⟨sa', sc', ca', cc', hN.has nb mb⟩, fun _ => ⟨sa', sc', ca', cc', hN⟩⟩
    · have e1 : actE f false = 0 := by unfold actE; rw [if_neg (by simp [hz])]
      have e2 : actF f false = f := by unfold actF; rw [if_neg (by simp), if_neg (by omega)]
      have e3 : actD f false = false := by unfold actD; rw [decide_eq_false hz]; rfl
      unfold Acts
      rw [e1, e2, e3]
      clear e1 e2 e3
      have hz' : (f == 0) = false := by simpa using hz
      clear hz
      go_enter Try.func14, Try.ntmps14
      go_wp2_with fail
      refine hr.mono ?_
      rintro _ w1 ⟨⟨v, rfl⟩, hg, sa', sc', ca', cc', hM⟩
      have c2 := hM.bx.c2
      have c3 := hM.bx.c3
      dsimp only
      go_wp2_with fail
      go_ret
      exact ⟨rfl, hg, ⟨sa', sc', ca', cc', hM.has nb mb⟩, fun _ => ⟨sa', sc', ca', cc', hM⟩⟩

end Dk
end Go.Proofs.Ytlhncceajpdahaa
