/- disk: the reference's lay. -/
import Derived.Test.YtlhncceajpdahaaDkSettle2
import Derived.Deep.RegionHeld3
namespace Go.Proofs.Ytlhncceajpdahaa
namespace Dk
open Go.RowKit

theorem owns_form {w : World} {B n : Nat} {S : Nat → Sec} {v : Value} (h : w.ownsRow B 53 130 v n (flat (fun i => secV (S i)) n)) (hn : 1 ≤ n) : ∃ b sc, v = .slice (some ⟨b, 0, none⟩) n sc ∧ B ≤ b ∧ b < w.heap.size ∧ n ≤ sc ∧ Rw w b n S := by
  have hlt := h.lt
  have h2 := h.2
  rcases h2 with ⟨_, h0⟩ | ⟨b, cap, cur, hv, hb, hc, hnc, _⟩
  · omega
  · subst hv
    obtain ⟨b', off, e, _, _, hr⟩ := (lay_own (g := w.heap.size) (fun i _ => secV_length _) h (.inr (Nat.le_refl _))).rows.resolve_left (by omega)
    injection e with e
    injection e with e1 e2
    subst e1 e2
    exact ⟨b, cap, rfl, hb, (hlt b rfl).2, hnc, fun i hi => by have := hr i hi; rwa [Nat.zero_add] at this, fun j => frozen_of_row w b j _ _ hc⟩

/-- append([]Sector{}, s...) -/
theorem fresh_sec {w : World} {ops : Array Oper} {rest : List Oper} {o : Oper} {a : Act} {Q : Exit → Act → World → Prop} (hgd : o.guard = none) (s x : Operand)
    (ho : o.op = .call { callee := .builtin .append, args := #[s, x], argTypes := #[25, 25] }) (g : Nat) (ao : Option Addr) (n cap : Nat) (S : Nat → Sec)
    (hs : a.eval s = .slice (some ⟨w.heap.size, 0, none⟩) 0 0) (hx : a.eval x = .slice ao n cap) (hl : Lay w w.heap.size g ao n cap 130 (fun i => secV (S i))) (hn : n * 130 ≤ 140737488355328)
    (h : ∀ v' w', w'.ownsRow w.heap.size 53 130 v' n (flat (fun i => secV (S i)) n) → Below w.heap.size w w' → wpList Try.prog ops Q rest (a.put o.dst v') w') : wpList Try.prog ops Q (o :: rest) a (w.alloc (.cells #[] 53)) := by
  obtain ⟨i0, hi, hz0, hz1, hz2⟩ := info_parts info_sec
  refine append_lay hgd s x 25 53 i0 _ 130 130 ho slice_sec hi hz0 hz1 hz2 (by rw [show (Value.agg (secV sec0).toArray).cells = (secV sec0).toArray from rfl, List.size_toArray, secV_length]) (by omega) w.heap.size _ [] 0 hs (World.ownsRow_lit w #[] 0 (Nat.le_refl _) (by decide) rfl) w.heap.size g ao n cap (fun i => secV (S i)) hx (hl.keep fun b hb _ => Below.heap_alloc _ _ _ hb) (fun i _ => secV_length _) (fun i _ => secV_one _) (maxLen_ge (by omega)) (by omega) (by simp) ?_
  intro v' w' hown hg
  refine h v' w' (by simpa using hown) (((Below.refl _ _).alloc (Nat.le_refl _) _).grown hg (by simp) ?_)
  intro k hk
  injection hk with hk
  subst hk
  exact Nat.le_refl _

theorem Rd.heap {B g b q qo n m : Nat} {v0 v1 v2 v3 : Value} {S : Nat → Sec} {C : Nat → Wr} {w wr wr' : World} (h : Rd B g b q qo n m v0 v1 v2 v3 S C w wr) (hh : ∀ k : Nat, wr'.heap[k]? = wr.heap[k]?) (hs : wr'.heap.size = wr.heap.size) (ho : wr'.os = wr.os) (ht : wr'.tape = wr.tape) (hp : wr'.output = wr.output) : Rd B g b q qo n m v0 v1 v2 v3 S C w wr' :=
  ⟨h.bx.block (hh g), h.rows.block (hh b), fun i hi j v hv => (World.cell?_of_block (w := wr) (hh q)).trans (h.cache i hi j v hv), h.near.trans ⟨ho, ht, hp, by rw [hs]; exact Nat.le_refl _, fun k _ _ => hh k⟩⟩

end Dk
end Go.Proofs.Ytlhncceajpdahaa
