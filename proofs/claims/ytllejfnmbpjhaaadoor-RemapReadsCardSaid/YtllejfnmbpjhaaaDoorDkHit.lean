/- disk: Hit (under way): hits; one cell of a sector written. -/
import Derived.Test.YtllejfnmbpjhaaaDoorJDl
namespace Go.Proofs.YtllejfnmbpjhaaaDoor
set_option maxRecDepth 20000
namespace Dk
open Go.RowKit

/-- a kind of hit, and one that may be at that place -/
def hitsB (kind place : Int) : Bool := if kind = 1 then decide (0 ≤ place) && decide (place < 128) else decide (kind = 2) || decide (kind = 3)

set_option maxRecDepth 100000 in
set_option maxHeartbeats 1000000 in
theorem hits_any (kind place : Int) (w : World) :
    Calls Tryd.prog 86 #[.int .i64 kind, .int .i64 place] w fun e w' => e = .returned (.bool (hitsB kind place)) ∧ Below w.heap.size w w' := by
  by_cases h1 : kind = 1
  · subst h1
    by_cases h2 : 0 ≤ place
    · have e : hitsB 1 place = decide (place < 128) := by unfold hitsB; rw [if_pos rfl, decide_eq_true h2]; rfl
      rw [e]
      go_enter Tryd.func86, Tryd.ntmps86
      go_wp2_with fail
      go_ret
      exact ⟨rfl, Below.refl _ _⟩
    · have e : hitsB 1 place = false := by unfold hitsB; rw [if_pos rfl, decide_eq_false h2]; rfl
      rw [e]
      have h3 : place < 0 := by omega
      go_enter Tryd.func86, Tryd.ntmps86
      go_wp2_with fail
      go_ret
      exact ⟨rfl, Below.refl _ _⟩
  · have b1 : (kind == 1) = false := by simpa using h1
    by_cases h2 : kind = 2
    · subst h2
      go_enter Tryd.func86, Tryd.ntmps86
      go_wp2_with fail
      go_ret
      exact ⟨rfl, Below.refl _ _⟩
    · have b2 : (kind == 2) = false := by simpa using h2
      by_cases h3 : kind = 3
      · subst h3
        go_enter Tryd.func86, Tryd.ntmps86
        go_wp2_with fail
        go_ret
        exact ⟨rfl, Below.refl _ _⟩
      · have b3 : (kind == 3) = false := by simpa using h3
        have e : hitsB kind place = false := by unfold hitsB; rw [if_neg h1, decide_eq_false h2, decide_eq_false h3]; rfl
        rw [e]
        go_enter Tryd.func86, Tryd.ntmps86
        go_wp2_with fail
        go_ret
        exact ⟨rfl, Below.refl _ _⟩

/-- one cell of a sector is written -/
theorem Rw.poke {w : World} {b n : Nat} {S : Nat → Sec} (h : Rw w b n S) {p j : Nat} (hp : p < n) (hj : j < 130) (v : Value) (s : Sec) (hs : (secV (S p)).set j v = secV s) : Rw (w.setCell ⟨b, p * 130 + j, none⟩ v) b n (upd S p s) := by
  refine ⟨fun i hi => ?_, fun k => by rw [World.frozen?_setCell]; exact h.free k⟩
  unfold upd
  by_cases e : i = p
  · subst e
    rw [if_pos rfl, ← hs]
    exact range_setCell_same (h.rows i hi) (by rw [secV_length]; exact hj) v
  · rw [if_neg e]
    refine range_setCell_out (h.rows i hi) ?_ v
    rw [secV_length]
    omega
theorem Rw.lay {w : World} {b n sc B g : Nat} {S : Nat → Sec} (h : Rw w b n S) (hn : n ≤ sc) (hb : b < B) (hg : b ≠ g) : Lay w B g (some ⟨b, 0, none⟩) n sc 130 (fun i => secV (S i)) :=
  ⟨hn, (fun e => by cases e), .inr ⟨b, 0, rfl, hb, hg, fun i hi => by rw [Nat.zero_add]; exact h.rows i hi⟩⟩
theorem Lay.setCell {w : World} {B g : Nat} {ao : Option Addr} {n cap k : Nat} {T : Nat → List Value} (h : Lay w B g ao n cap k T) {b off : Nat} (hb : ∀ q o, ao = some ⟨q, o, none⟩ → n = 0 ∨ q ≠ b) (v : Value) : Lay (w.setCell ⟨b, off, none⟩ v) B g ao n cap k T :=
  ⟨h.room, h.nil, by
    rcases h.rows with h0 | ⟨q, o, e, h1, h2, hr⟩
    · exact .inl h0
    · rcases hb q o e with h0 | hqb
      · exact .inl h0
      · exact .inr ⟨q, o, e, h1, h2, fun i hi j u hu => (World.cell?_of_block (w := w) (Below.heap_setCell _ _ _ _ hqb)).trans (hr i hi j u hu)⟩⟩
theorem grown_new {w w' : World} {g b off : Nat} {v : Value} (h : w.grownBy w' (some g)) (hb : w.heap.size ≤ b) : w.grownBy (w'.setCell ⟨b, off, none⟩ v) (some g) :=
  ⟨h.os, h.tape, h.output, by rw [World.size_setCell]; exact h.size, fun k hk hr => (Below.heap_setCell _ _ _ _ (by simp only []; omega)).trans (h.block k hk hr)⟩
/-- sectors of one's own, of a disk that is one's own -/
theorem Mine.rw {w : World} {B g : Nat} {sa ca : Option Addr} {n sc m cc : Nat} {S : Nat → Sec} {C : Nat → Wr} {f : Int} {d : Bool} (h : Mine w B g sa ca n sc m cc S C f d) (hn : 1 ≤ n) :
    ∃ b, sa = Option.some ⟨b, 0, none⟩ ∧ B ≤ b ∧ b < w.heap.size ∧ n ≤ sc ∧ Rw w b n S ∧ ∀ q o, ca = Option.some ⟨q, o, none⟩ → m = 0 ∨ q ≠ b := by
  obtain ⟨b, sc', e, h1, h2, h3, h4⟩ := owns_form h.ss hn
  injection e with e1 _ e3
  subst e1 e3
  refine ⟨b, rfl, h1, h2, h3, h4, fun q o hq => ?_⟩
  rcases Nat.eq_zero_or_pos m with h0 | h0
  · exact .inl h0
  · right
    rintro rfl
    subst hq
    rcases h.cs.2 with ⟨hv, hm0⟩ | ⟨q', cap, cur, hv, _, hc, _⟩
    · omega
    · injection hv with hv _ _
      injection hv with hv
      injection hv with hv1 hv2
      subst hv1 hv2
      rcases h.ss.2 with ⟨hv, hm0⟩ | ⟨b', cap', cur', hv', _, hc', _⟩
      · omega
      · injection hv' with hv' _ _
        injection hv' with hv'
        injection hv' with hv1 hv2
        subst hv1
        rw [hc] at hc'
        injection hc' with hc'
        injection hc' with _ hc' _
        cases hc'
end Dk
end Go.Proofs.YtllejfnmbpjhaaaDoor
