/- DiskSure: a step that is played. -/
import Derived.Test.YtlhncceajpdahaaDsKit
namespace Go.Proofs.Ytlhncceajpdahaa
namespace Dk
open Go.RowKit

structure Played (fuse : Int) (i m : Nat) (S : Nat → Sec) (C : Nat → Wr) (f : Int) (d : Bool) : Prop where
  hm : m ≤ i
  all : inAll 4 C m = true
  rd : ∀ k, k < 4 → (S k).noRead = false
  wt : ∀ k, k < 4 → (S k).noWrite = false
  hf : (fuse < 0 ∧ f = -1 ∧ d = false) ∨ (0 ≤ fuse ∧ (i : Int) ≤ fuse ∧ f = fuse - i ∧ d = false) ∨ (0 ≤ fuse ∧ fuse < i ∧ f = 0 ∧ d = true)
structure Kept (m : Nat) (S : Nat → Sec) (C : Nat → Wr) (L : Nat → List Int) (Z : Nat → Int) : Prop where
  hz : ∀ k, k < 4 → Z k = (S k).data 0
  hl : ∀ k, k < 4 → L k = lat C k m
section
variable {fuse : Int} {i m : Nat} {S : Nat → Sec} {C : Nat → Wr} {f : Int} {d : Bool} {L : Nat → List Int} {Z : Nat → Int}
theorem Played.formed (h : Played fuse i m S C f d) : formedB 4 m C = true := by unfold formedB; rw [h.all]; rfl
theorem Played.act_ok (h : Played fuse i m S C f d) (hd : ¬ (0 ≤ fuse ∧ fuse ≤ i)) : actE f d = 0 ∧ ((fuse < 0 ∧ actF f d = -1 ∧ actD f d = false) ∨ (0 ≤ fuse ∧ ((i + 1 : Nat) : Int) ≤ fuse ∧ actF f d = fuse - (i + 1 : Nat) ∧ actD f d = false) ∨ (0 ≤ fuse ∧ fuse < (i + 1 : Nat) ∧ actF f d = 0 ∧ actD f d = true)) := by
  rcases h.hf with ⟨h1, h2, h3⟩ | ⟨h1, h2, h3, h4⟩ | ⟨h1, h2, h3, h4⟩
  · subst h2 h3; refine ⟨by decide, .inl ⟨h1, by decide, by decide⟩⟩
  · subst h4
    have hf0 : f ≠ 0 := by omega
    have hfp : 0 < f := by omega
    refine ⟨by unfold actE; simp [hf0], .inr (.inl ⟨h1, by omega, ?_, ?_⟩)⟩
    · unfold actF; simp [hfp]; omega
    · unfold actD; simp [hf0]
  · omega
theorem Played.act_no (h : Played fuse i m S C f d) (hd : 0 ≤ fuse ∧ fuse ≤ i) : actE f d = 3 ∧ ((fuse < 0 ∧ actF f d = -1 ∧ actD f d = false) ∨ (0 ≤ fuse ∧ ((i + 1 : Nat) : Int) ≤ fuse ∧ actF f d = fuse - (i + 1 : Nat) ∧ actD f d = false) ∨ (0 ≤ fuse ∧ fuse < (i + 1 : Nat) ∧ actF f d = 0 ∧ actD f d = true)) := by
  rcases h.hf with ⟨h1, h2, h3⟩ | ⟨h1, h2, h3, h4⟩ | ⟨h1, h2, h3, h4⟩
  · omega
  · subst h4
    have hf0 : f = 0 := by omega
    subst hf0
    exact ⟨by decide, .inr (.inr ⟨h1, by omega, by decide, by decide⟩)⟩
  · subst h3 h4
    exact ⟨by decide, .inr (.inr ⟨h1, by omega, by decide, by decide⟩)⟩
theorem Played.f63 (h : Played fuse i m S C f d) (hf : fuse ≤ 9223372036854775807) (hi : i ≤ 200) : -9223372036854775808 ≤ f ∧ f ≤ 9223372036854775807 := by
  rcases h.hf with ⟨h1, h2, h3⟩ | ⟨h1, h2, h3, h4⟩ | ⟨h1, h2, h3, h4⟩ <;> omega

/-- what a step comes to -/
def Step (w : World) (g : Nat) (E : Int) (fuse : Int) (i m : Nat) (S : Nat → Sec) (C : Nat → Wr) (e : Ending) (w' : World) : Prop :=
  e = .returned (.int .i64 E) ∧ w.grownBy w' (some g) ∧ ∃ f d, Played fuse i m S C f d ∧ ∃ sa sc ca cc, Has w' g sa ca 4 sc m cc S C f d
variable {w w' : World} {g : Nat} {e : Ending}
theorem Played.flush_ok (h : Played fuse i m S C f d) (hd : ¬ (0 ≤ fuse ∧ fuse ≤ i)) (ht : Turns w g (flE 4 m C f d) 4 (flM 4 m C f d) (flS 4 m S C f d) C (flF 4 m C f d) (flD 4 m C f d) e w') : Step w g 0 fuse (i + 1) 0 (stS S C (fun _ => true) m) C e w' := by
  obtain ⟨h1, h2⟩ := h.act_ok hd
  have e0 : flOk 4 m C f d = true := by unfold flOk; rw [h.formed, h1]; rfl
  have e1 : flE 4 m C f d = 0 := by unfold flE; rw [h.formed, h1]; rfl
  have e2 : flM 4 m C f d = 0 := by unfold flM; rw [e0]; rfl
  have e3 : flS 4 m S C f d = stS S C (fun _ => true) m := by unfold flS; rw [e0]; rfl
  have e4 : flF 4 m C f d = actF f d := by unfold flF; rw [h.formed]; rfl
  have e5 : flD 4 m C f d = actD f d := by unfold flD; rw [h.formed]; rfl
  rw [e1, e2, e3, e4, e5] at ht
  obtain ⟨a, b, c⟩ := ht
  exact ⟨a, b, _, _, ⟨by omega, rfl, fun k hk => st_read (h.rd k hk) m, fun k hk => (st_write m).trans (h.wt k hk), h2⟩, c⟩
theorem Played.flush_no (h : Played fuse i m S C f d) (hd : 0 ≤ fuse ∧ fuse ≤ i) (ht : Turns w g (flE 4 m C f d) 4 (flM 4 m C f d) (flS 4 m S C f d) C (flF 4 m C f d) (flD 4 m C f d) e w') : Step w g 3 fuse (i + 1) m S C e w' := by
  obtain ⟨h1, h2⟩ := h.act_no hd
  have e0 : flOk 4 m C f d = false := by unfold flOk; rw [h.formed, h1]; rfl
  have e1 : flE 4 m C f d = 3 := by unfold flE; rw [h.formed, h1]; rfl
  have e2 : flM 4 m C f d = m := by unfold flM; rw [e0]; rfl
  have e3 : flS 4 m S C f d = S := by unfold flS; rw [e0]; rfl
  have e4 : flF 4 m C f d = actF f d := by unfold flF; rw [h.formed]; rfl
  have e5 : flD 4 m C f d = actD f d := by unfold flD; rw [h.formed]; rfl
  rw [e1, e2, e3, e4, e5] at ht
  obtain ⟨a, b, c⟩ := ht
  have := h.hm
  exact ⟨a, b, _, _, ⟨by omega, h.all, h.rd, h.wt, h2⟩, c⟩
theorem Played.write_ok {p : Nat} {D : Nat → Int} (h : Played fuse i m S C f d) (hp : p < 4) (hd : ¬ (0 ≤ fuse ∧ fuse ≤ i)) (ht : Writes w g 4 m S C f d p D e w') : Step w g 0 fuse (i + 1) (m + 1) S (updC C m ⟨p, D⟩) e w' := by
  obtain ⟨h1, h2⟩ := h.act_ok hd
  have hh : hasB 4 (p : Int) = true := by simp [hasB]; omega
  have e0 : wrOk 4 m C p = true := by unfold wrOk; rw [h.formed, hh]; rfl
  have e1 : wrE 4 m S C f d p = 0 := by unfold wrE; rw [e0, h1, Int.toNat_natCast, h.wt p hp]; rfl
  unfold Writes wrM wrC wrF wrD at ht
  rw [e1, e0] at ht
  obtain ⟨a, b, c⟩ := ht
  have := h.hm
  exact ⟨a, b, _, _, ⟨by omega, inAll_upd m h.all hh, h.rd, h.wt, h2⟩, c⟩
theorem Played.write_no {p : Nat} {D : Nat → Int} (h : Played fuse i m S C f d) (hp : p < 4) (hd : 0 ≤ fuse ∧ fuse ≤ i) (ht : Writes w g 4 m S C f d p D e w') : Step w g 3 fuse (i + 1) m S C e w' := by
  obtain ⟨h1, h2⟩ := h.act_no hd
  have hh : hasB 4 (p : Int) = true := by simp [hasB]; omega
  have e0 : wrOk 4 m C p = true := by unfold wrOk; rw [h.formed, hh]; rfl
  have e1 : wrE 4 m S C f d p = 3 := by unfold wrE; rw [e0, h1]; rfl
  unfold Writes wrM wrC wrF wrD at ht
  rw [e1, e0] at ht
  obtain ⟨a, b, c⟩ := ht
  have := h.hm
  exact ⟨a, b, _, _, ⟨by omega, h.all, h.rd, h.wt, h2⟩, c⟩
theorem Kept.write {p : Nat} {D : Nat → Int} (h : Kept m S C L Z) : Kept (m + 1) S (updC C m ⟨p, D⟩) (fun j => if j = p then L p ++ [D 0] else L j) Z := by
  refine ⟨h.hz, fun k hk => ?_⟩
  rw [lat_upd]
  by_cases e : k = p
  · subst e
    rw [if_pos rfl, if_pos rfl, h.hl k hk]
  · rw [if_neg e, if_neg (by show ¬ ((p : Int) = (k : Int)); omega), h.hl k hk]
end

def one (x : Int) (j : Nat) : Int := if j = 0 then x else 0
theorem built_one (x : Int) : Try.prog.built 41 [(0, .int .u8 x)] = some (bl (one x)).toArray := by kernel_rfl
theorem set_one (x : Int) : ((bl fun _ => 0).set 0 (.int .u8 x)) = bl (one x) := by kernel_rfl
def stepV (a x : Int) (b : Bool) : List Value := [.int .u8 a, .int .u8 x, .bool b]
/-- is a byte, or one of those up to the j-th, the same -/
def foundB (x z : Int) (l : List Int) (j : Nat) : Bool := (x == z) || (l.take j).any fun y => (x == y)
theorem found_zero (x z : Int) (l : List Int) : foundB x z l 0 = (x == z) := by simp [foundB]
theorem found_succ {x z : Int} {l : List Int} {j : Nat} {y : Int} (h : l[j]? = some y) : foundB x z l (j + 1) = (foundB x z l j || (x == y)) := by
  have hj := (List.getElem?_eq_some_iff.1 h).1
  have hy := (List.getElem?_eq_some_iff.1 h).2
  unfold foundB
  rw [List.take_succ_eq_append_getElem hj, List.any_append, hy]
  simp [Bool.or_assoc]
theorem found_all {x z : Int} {l : List Int} (h : x = z ∨ x ∈ l) : foundB x z l l.length = true := by
  unfold foundB
  rw [List.take_length]
  rcases h with h | h
  · simp [h]
  · rw [Bool.or_eq_true]
    exact .inr (List.any_eq_true.2 ⟨x, h, by simp⟩)
end Dk
end Go.Proofs.Ytlhncceajpdahaa
