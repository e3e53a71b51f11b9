/- disk: Flush and Crash, and the reference's. -/
import Derived.Test.YtlhncceajpdahaaDkLay
namespace Go.Proofs.Ytlhncceajpdahaa
namespace Dk
open Go.RowKit

theorem formed_n {n m : Nat} {C : Nat → Wr} (h : formedB n m C = true) : 1 ≤ n ∧ inAll n C m = true := by
  unfold formedB at h
  simp only [Bool.and_eq_true, decide_eq_true_eq] at h
  exact ⟨h.1.1, h.2⟩
theorem Mine.some {w : World} {B g : Nat} {sa ca : Option Addr} {n sc m cc : Nat} {S : Nat → Sec} {C : Nat → Wr} {f : Int} {d : Bool} (h : Mine w B g sa ca n sc m cc S C f d) (hn : 1 ≤ n) : ∃ b, sa = .some ⟨b, 0, none⟩ := by
  obtain ⟨b, c, e, _⟩ := owns_form h.ss hn
  injection e with e
  exact ⟨b, e⟩
theorem stS_congr {S : Nat → Sec} {C : Nat → Wr} {k k' : Nat → Bool} (h : ∀ i, k i = k' i) (m : Nat) : stS S C k m = stS S C k' m := by rw [funext h]

def flOk (n m : Nat) (C : Nat → Wr) (f : Int) (d : Bool) : Bool := formedB n m C && decide (actE f d = 0)
def flE (n m : Nat) (C : Nat → Wr) (f : Int) (d : Bool) : Int := if formedB n m C then actE f d else 1
def flM (n m : Nat) (C : Nat → Wr) (f : Int) (d : Bool) : Nat := if flOk n m C f d then 0 else m
def flS (n m : Nat) (S : Nat → Sec) (C : Nat → Wr) (f : Int) (d : Bool) : Nat → Sec := if flOk n m C f d then stS S C (fun _ => true) m else S
def flF (n m : Nat) (C : Nat → Wr) (f : Int) (d : Bool) : Int := if formedB n m C then actF f d else f
def flD (n m : Nat) (C : Nat → Wr) (f : Int) (d : Bool) : Bool := if formedB n m C then actD f d else d
theorem actE_cases (f : Int) (d : Bool) : actE f d = 0 ∨ actE f d = 3 := by unfold actE; split <;> simp

set_option maxHeartbeats 1000000 in
theorem flush_any (g : Nat) (sa ca : Option Addr) (n sc m cc : Nat) (S : Nat → Sec) (C : Nat → Wr) (f : Int) (d : Bool) (w : World) (h : Has w g sa ca n sc m cc S C f d) (hf : -9223372036854775808 ≤ f ∧ f ≤ 9223372036854775807) :
    Calls Try.prog 7 #[.pointer (some ⟨g, 0, none⟩)] w (Turns w g (flE n m C f d) n (flM n m C f d) (flS n m S C f d) C (flF n m C f d) (flD n m C f d)) := by
  have hF := h.formed
  have HH := Lib.hid h
  have nb := h.nb
  have mb := h.mb
  clear h
  unfold Turns flE flM flS flF flD flOk
  cases hfm : formedB n m C with
  | false =>
    rw [hfm] at hF
    clear hfm
    simp only [Bool.false_and, Bool.false_eq_true, if_false]
    go_enter Try.func7, Try.ntmps7
    go_wp2_with fail
    refine hF.mono ?_
    rintro _ w1 ⟨rfl, hb⟩
    dsimp only
    go_wp2_with fail
    go_ret
    exact ⟨rfl, only_below hb, sa, sc, ca, cc, HH.out.below hb⟩
  | true =>
    rw [hfm] at hF
    obtain ⟨hn, hC⟩ := formed_n hfm
    clear hfm
    have HC := Lib.hid hC
    clear hC
    have hA : ∀ w1, Has w1 g sa ca n sc m cc S C f d → Calls Try.prog 14 #[.pointer (some ⟨g, 0, none⟩)] w1 (Acts w1 g n m S C f d) := fun w1 h1 => act_any g sa ca n sc m cc S C f d w1 h1 hf
    have HA := Lib.hid hA
    clear hA
    unfold Acts at HA
    simp only [Bool.true_and, if_true]
    generalize hfa : actF f d = fa at HA ⊢
    generalize hda : actD f d = da at HA ⊢
    have hc := actE_cases f d
    generalize hea : actE f d = ea at HA hc ⊢
    clear hfa hda hea
    rcases hc with rfl | rfl
    · simp only [decide_true, if_true]
      go_enter Try.func7, Try.ntmps7
      go_wp2_with fail
      refine hF.mono ?_
      rintro _ w1 ⟨rfl, hb⟩
      dsimp only
      go_wp2_with fail
      refine (HA.out w1 (HH.out.below hb)).mono ?_
      rintro _ w2 ⟨rfl, hg2, _, hM⟩
      obtain ⟨sa2, sc2, ca2, cc2, hM⟩ := hM (by first | trivial | rfl)
      obtain ⟨b, rfl⟩ := hM.some hn
      dsimp only
      go_wp2_with fail
      refine (settleF_any w1.heap.size g b ca2 n sc2 m cc2 S C fa da (fun _ => true) w2 hM hn nb mb HC.out (fun _ => rfl)).mono ?_
      rintro _ w3 ⟨⟨v, rfl⟩, hN, hH⟩
      dsimp only
      go_wp2_with fail
      go_ret
      exact ⟨rfl, only_trans (only_below hb) (hN.only hg2), _, _, _, _, hH⟩
    · simp only [show decide ((3 : Int) = 0) = false from rfl, Bool.false_eq_true, if_false]
      go_enter Try.func7, Try.ntmps7
      go_wp2_with fail
      refine hF.mono ?_
      rintro _ w1 ⟨rfl, hb⟩
      dsimp only
      go_wp2_with fail
      refine (HA.out w1 (HH.out.below hb)).mono ?_
      rintro _ w2 ⟨rfl, hg2, hH, _⟩
      dsimp only
      go_wp2_with fail
      go_ret
      exact ⟨rfl, only_trans (only_below hb) hg2, hH⟩

def crE (n m : Nat) (C : Nat → Wr) : Int := if formedB n m C then 0 else 1
def crM (n m : Nat) (C : Nat → Wr) : Nat := if formedB n m C then 0 else m
def crS (n m : Nat) (S : Nat → Sec) (C : Nat → Wr) (k : Nat → Bool) : Nat → Sec := if formedB n m C then stS S C k m else S
def crF (n m : Nat) (C : Nat → Wr) (f : Int) : Int := if formedB n m C then -1 else f
def crD (n m : Nat) (C : Nat → Wr) (d : Bool) : Bool := if formedB n m C then false else d

theorem Keeps.below {w w' : World} {B g : Nat} {ka : Option Addr} {kn : Nat} {kf : Nat → Bool} (h : Keeps w B g ka kn kf) (hb : Below w.heap.size w w') (hB : B ≤ w.heap.size) : Keeps w' B g ka kn kf := h.near (.of_below hb hB)
theorem Keeps.mono {w : World} {B B' g : Nat} {ka : Option Addr} {kn : Nat} {kf : Nat → Bool} (h : Keeps w B g ka kn kf) (hB : B ≤ B') : Keeps w B' g ka kn kf :=
  h.imp id fun ⟨q, o, e, hq, hg, hc⟩ => ⟨q, o, e, by omega, hg, hc⟩
theorem near_only {g : Nat} {w w' : World} (h : w.grownBy w' (some g)) : Near w.heap.size g w w' := ⟨h.os, h.tape, h.output, h.size, fun k hk hn => h.block k hk (by simpa using hn)⟩

set_option maxHeartbeats 1000000 in
theorem crash_any (g : Nat) (sa ca : Option Addr) (n sc m cc : Nat) (S : Nat → Sec) (C : Nat → Wr) (f : Int) (d : Bool) (ka : Option Addr) (kn kc : Nat) (kf : Nat → Bool) (w : World) (h : Has w g sa ca n sc m cc S C f d) (hkp : Keeps w w.heap.size g ka kn kf) (hkn : kn ≤ 140737488355328) :
    Calls Try.prog 9 #[.pointer (some ⟨g, 0, none⟩), .slice ka kn kc] w (Turns w g (crE n m C) n (crM n m C) (crS n m S C (keepB kn kf)) C (crF n m C f) (crD n m C d)) := by
  have HK := Lib.hid hkp
  have HH := Lib.hid h
  have nb := h.nb
  have mb := h.mb
  clear h hkp
  unfold Turns crE crM crS crF crD
  have hb0 : Below w.heap.size w (w.alloc (.cells #[.slice ka kn kc] 23)) := (Below.refl _ _).alloc (Nat.le_refl _) _
  have hc0 : (w.alloc (.cells #[.slice ka kn kc] 23)).cell? ⟨w.heap.size, 0, none⟩ = some (.slice ka kn kc) := World.cell?_alloc_new _ _ _ 0
  have hs0 : (w.alloc (.cells #[.slice ka kn kc] 23)).heap.size = w.heap.size + 1 := by simp
  have hF := (HH.out.below hb0).formed
  have hgw := HH.out.bx.lt
  cases hfm : formedB n m C with
  | false =>
    rw [hfm] at hF
    clear hfm
    simp only [Bool.false_eq_true, if_false]
    go_enter Try.func9, Try.ntmps9
    go_wp2_with fail
    refine hF.mono ?_
    rintro _ w1 ⟨rfl, hb⟩
    dsimp only
    go_wp2_with fail
    go_ret
    have hb1 : Below w.heap.size w w1 := hb0.trans (hb.mono (by simp))
    exact ⟨rfl, only_below hb1, sa, sc, ca, cc, HH.out.below hb1⟩
  | true =>
    rw [hfm] at hF
    obtain ⟨hn, hC⟩ := formed_n hfm
    clear hfm
    have HC := Lib.hid hC
    clear hC
    simp only [if_true]
    go_enter Try.func9, Try.ntmps9
    go_wp2_with fail
    generalize hW : w.alloc (.cells #[.slice ka kn kc] 23) = W at hb0 hc0 hs0 hF ⊢
    clear hW
    refine hF.mono ?_
    rintro _ w1 ⟨rfl, hb⟩
    have hb1 : Below w.heap.size w w1 := hb0.trans (hb.mono (by omega))
    have hc1 : w1.cell? ⟨w.heap.size, 0, none⟩ = some (.slice ka kn kc) := (hb.cell (show w.heap.size < W.heap.size by omega)).trans hc0
    have hs1 := hb.size
    dsimp only
    go_wp2_with fail
    refine (renew_any g sa ca n sc m cc S C f d w1 (HH.out.below hb1)).mono ?_
    rintro _ w2 ⟨⟨v, rfl⟩, hg2, sa2, sc2, ca2, cc2, hM⟩
    obtain ⟨b, rfl⟩ := hM.some hn
    have hc2 : w2.cell? ⟨w.heap.size, 0, none⟩ = some (.slice ka kn kc) := (World.cell?_of_block (w := w1) (hg2.block w.heap.size (by omega) (by simp; omega))).trans hc1
    have hk1 : Keeps w1 w1.heap.size g ka kn kf := (HK.out.below hb1 (Nat.le_refl _)).mono (by omega)
    have hk2 : Keeps w2 w1.heap.size g ka kn kf := hk1.near (near_only hg2)
    dsimp only
    go_wp2_with fail
    refine (settleC_any w1.heap.size g b ca2 n sc2 m cc2 S C f d w.heap.size kn kc ka kf w2 hM hn nb mb HC.out hc2 (by omega) (by omega) hk2 hkn).mono ?_
    rintro _ w3 ⟨⟨v, rfl⟩, hN, hH⟩
    have hx := hH.bx
    have c2 := hx.c2
    have c3 := hx.c3
    have k2 := hx.fr 2
    have k3 := hx.fr 3
    dsimp only
    go_wp2_with fail
    go_ret
    refine ⟨rfl, ?_, some ⟨b, 0, none⟩, sc2, none, 0, ?_⟩
    · exact only_trans (only_below hb1) (only_trans (only_trans (hN.only hg2) (only_put _ _ _ _)) (only_put _ _ _ _))
    · exact hH.turn (only_trans (only_put _ _ _ _) (only_put _ _ _ _)) ((hx.s2 _).s3 _)

end Dk
end Go.Proofs.Ytlhncceajpdahaa
