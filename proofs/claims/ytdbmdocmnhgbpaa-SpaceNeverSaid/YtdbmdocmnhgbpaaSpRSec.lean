/- space: the reference's sectors, Drop, Mark (made by tools/gen_sprdr.py). -/
import Derived.Test.YtdbmdocmnhgbpaaSpDr
namespace Go.Proofs.Ytdbmdocmnhgbpaa
set_option maxRecDepth 20000
namespace Sp
open Go.RowKit Dk Eqb Byt

/-- a slice of ints, opened -/
theorem OwnI.open {w : World} {base : Nat} {v : Value} {xs : List Int} (h : OwnI w base v xs) : ∃ (pa : Option Addr) (m mc : Nat), v = .slice pa m mc ∧ m = xs.length ∧ (m = 0 ∨ ∃ pb po, pa = some ⟨pb, po, none⟩ ∧ base ≤ pb ∧ pb < w.heap.size ∧ ∀ i, i < m → w.cell? ⟨pb, po + i, none⟩ = some (.int .i64 (xs.getD i 0))) := by
  rcases h.slice with ⟨e1, e2⟩ | ⟨b8, c8, e1, hb8, hl8, hc8⟩
  · exact ⟨none, 0, 0, e1, by rw [e2]; rfl, .inl rfl⟩
  · refine ⟨some ⟨b8, 0, none⟩, _, c8, e1, rfl, .inr ⟨b8, 0, rfl, hb8, hl8, fun i hi => ?_⟩⟩
    rw [Nat.zero_add, hc8 i hi]
theorem sec_yes {x : Int} (h : (x == -1) = false) : sec1 x = [x] := by unfold sec1; rw [if_neg (by simpa using h)]
theorem sec_no {x : Int} (h : (x == -1) = true) : sec1 x = [] := by unfold sec1; rw [if_pos (by simpa using h)]
theorem secs_get (A B Z : Int) (p : Pt.Pn) {i : Nat} (h : i < (secs p).length) : (pls A B Z p).getD i 0 = plI A B Z ((secs p).getD i 0) := by
  rw [pls_map, List.getD_eq_getElem?_getD, List.getD_eq_getElem?_getD, List.getElem?_map, List.getElem?_eq_getElem h]
  rfl
theorem secs_bd {p : Pt.Pn} (hA : i64 p.A) (hB : i64 p.B) {i : Nat} (h : i < (secs p).length) : i64 ((secs p).getD i 0) := by
  have hm : (secs p).getD i 0 ∈ secs p := by
    rw [List.getD_eq_getElem?_getD, List.getElem?_eq_getElem h]
    exact List.getElem_mem h
  have k1 : ∀ {y x : Int}, y ∈ sec1 x → y = x := by
    intro y x h
    unfold sec1 at h
    split at h
    · cases h
    · simpa using h
  rcases List.mem_append.1 hm with h1 | h1
  · rw [k1 h1]; exact hA
  · rw [k1 h1]; exact hB
theorem pls_slen (A B Z : Int) (p : Pt.Pn) : (pls A B Z p).length = (secs p).length := by rw [pls_map, List.length_map]
/-- a place that is none -/
theorem plB_no {A B Z : Int} {p : Pt.Pn} {i : Nat} (h : i < (pls A B Z p).length) (h0 : (pls A B Z p).getD i 0 < 0) : plB A B Z p = false := by
  cases e : plB A B Z p with
  | false => rfl
  | true =>
    have := pls_ok e _ (show (pls A B Z p).getD i 0 ∈ pls A B Z p by
      rw [List.getD_eq_getElem?_getD, List.getElem?_eq_getElem h]
      exact List.getElem_mem h)
    omega
theorem plB_yes {A B Z : Int} {p : Pt.Pn} (hr : Pt.rightB p = true) (h : ∀ i, i < (pls A B Z p).length → 0 ≤ (pls A B Z p).getD i 0) : plB A B Z p = true := by
  have hm : ∀ y, y ∈ pls A B Z p → 0 ≤ y := by
    intro y hy
    obtain ⟨i, hi, rfl⟩ := List.getElem_of_mem hy
    have := h i hi
    rwa [List.getD_eq_getElem?_getD, List.getElem?_eq_getElem hi] at this
  have key : ∀ x, (∀ y, y ∈ pla A B Z x → 0 ≤ y) → okB A B Z x = true := by
    intro x hx
    unfold okB
    by_cases e : x = -1
    · rw [e]; rfl
    · have := hx (plI A B Z x) (by unfold pla; rw [if_neg e]; simp)
      simp [this]
  unfold plB
  rw [hr, key p.A fun y hy => hm y (List.mem_append.2 (.inl hy)), key p.B fun y hy => hm y (List.mem_append.2 (.inr hy))]
  rfl
theorem anyP_at {A B Z : Int} {p : Pt.Pn} {T : Nat → Bool} {i : Nat} (h : i < (pls A B Z p).length) (hT : T (plL A B Z p i) = true) : anyP A B Z p T = true := any_here (T := fun x => T x.toNat) h hT
theorem anyP_no {A B Z : Int} {p : Pt.Pn} {T : Nat → Bool} (h : ∀ i, i < (pls A B Z p).length → T (plL A B Z p i) = false) : anyP A B Z p T = false := by
  cases e : anyP A B Z p T with
  | false => rfl
  | true =>
    obtain ⟨y, hy, hT⟩ := List.any_eq_true.1 e
    obtain ⟨i, hi, rfl⟩ := List.getElem_of_mem hy
    have := h i hi
    unfold plL at this
    rw [List.getD_eq_getElem?_getD, List.getElem?_eq_getElem hi] at this
    simp only [Option.getD_some] at this
    rw [this] at hT
    cases hT

set_option maxHeartbeats 2000000 in
theorem sectors_any (p : Pt.Pn) (w : World) : Calls Try.prog 48 #[.agg (Pt.pV p).toArray] w fun e w' => ∃ v, e = .returned v ∧ OwnI w' w.heap.size v (secs p) ∧ Below w.heap.size w w' := by
  obtain ⟨hb0, hx0, hs0⟩ := Pt.box_pt w p
  obtain ⟨W, hW⟩ : ∃ W, W = w.alloc (.cells (Pt.pV p).toArray 44) := ⟨_, rfl⟩
  rw [← hW] at hb0 hx0 hs0
  have cA := Pt.cA_pt hx0
  have cB := Pt.cB_pt hx0
  have HB := Lib.hid hb0
  have HX := Lib.hid hx0
  have HS := Lib.hid hs0
  have HW := Lib.hid hW
  clear hb0 hx0 hs0 hW
  unfold secs
  cases h1 : p.A == -1 with
  | true =>
    have HA := Lib.hid (sec_no h1)
    have h1' : (p.A != -1) = false := by simp only [bne, h1]; rfl
    cases h2 : p.B == -1 with
    | true =>
      have HB2 := Lib.hid (sec_no h2)
      have h2' : (p.B != -1) = false := by simp only [bne, h2]; rfl
      go_enter Try.func48, Try.ntmps48
      go_wp2_with (rw [← HW.out])
      go_ret
      exact ⟨_, rfl, by rw [HA.out, HB2.out]; exact OwnI.nil _ _, HB.out⟩
    | false =>
      have HB2 := Lib.hid (sec_yes h2)
      have h2' : (p.B != -1) = true := by simp only [bne, h2]; rfl
      go_enter Try.func48, Try.ntmps48
      go_wp2_with (first | rw [← HW.out] | (at_builtin; refine append_i1 rfl (.tmp 15) (.tmp 18) rfl W.heap.size (.slice none 0 0) [] rfl (OwnI.nil _ _) W.heap.size 1 p.B rfl (World.cell?_alloc_new _ _ _ 0) (by simp) (by simp) ?_; intro v' w3 hown hg))
      go_ret
      exact ⟨v', rfl, by rw [HA.out, HB2.out]; exact hown.more (by have := HS.out; omega), ((HB.out.alloc (by have := HS.out; omega) _).grown hg (by have := HS.out; simp; omega) fun k hk => by cases hk)⟩
  | false =>
    have HA := Lib.hid (sec_yes h1)
    have h1' : (p.A != -1) = true := by simp only [bne, h1]; rfl
    cases h2 : p.B == -1 with
    | true =>
      have HB2 := Lib.hid (sec_no h2)
      have h2' : (p.B != -1) = false := by simp only [bne, h2]; rfl
      go_enter Try.func48, Try.ntmps48
      go_wp2_with (first | rw [← HW.out] | (at_builtin; refine append_i1 rfl (.tmp 7) (.tmp 10) rfl W.heap.size (.slice none 0 0) [] rfl (OwnI.nil _ _) W.heap.size 1 p.A rfl (World.cell?_alloc_new _ _ _ 0) (by simp) (by simp) ?_; intro v' w3 hown hg; have cB3 := Pt.cB_pt ((hg.block w.heap.size (by have := HS.out; simp; omega) (by intro e; cases e)).trans ((Below.heap_alloc _ _ _ (by have := HS.out; omega)).trans HX.out)); have HG := Lib.hid hg; clear hg))
      go_ret
      exact ⟨v', rfl, by rw [HA.out, HB2.out]; exact hown.more (by have := HS.out; omega), ((HB.out.alloc (by have := HS.out; omega) _).grown HG.out (by have := HS.out; simp; omega) fun k hk => by cases hk)⟩
    | false =>
      have HB2 := Lib.hid (sec_yes h2)
      have h2' : (p.B != -1) = true := by simp only [bne, h2]; rfl
      go_enter Try.func48, Try.ntmps48
      go_wp2_with (first | rw [← HW.out] | (at_builtin; refine append_i1 rfl (.tmp 7) (.tmp 10) rfl W.heap.size (.slice none 0 0) [] rfl (OwnI.nil _ _) W.heap.size 1 p.A rfl (World.cell?_alloc_new _ _ _ 0) (by simp) (by simp) ?_; intro v' w3 hown hg; have cB3 := Pt.cB_pt ((hg.block w.heap.size (by have := HS.out; simp; omega) (by intro e; cases e)).trans ((Below.heap_alloc _ _ _ (by have := HS.out; omega)).trans HX.out)); have hs3 := hg.size; have HG := Lib.hid ((HB.out.alloc (by have := HS.out; omega) _).grown hg (by have := HS.out; simp; omega) fun k hk => by cases hk); clear hg; have HO3 := Lib.hid hown; have hs3' : W.heap.size ≤ w3.heap.size := (by simp at hs3; omega); clear hown hs3) | (at_builtin; refine append_i1 rfl (.tmp 15) (.tmp 18) rfl W.heap.size v' [p.A] rfl (HO3.out.below ((Below.refl _ _).alloc (Nat.le_refl _) _)) w3.heap.size 1 p.B rfl (World.cell?_alloc_new _ _ _ 0) (by simp) (by simp; omega) ?_; intro v4 w4 hown4 hg4))
      go_ret
      exact ⟨v4, rfl, by rw [HA.out, HB2.out]; exact hown4.more (by have := HS.out; omega), (HG.out.alloc (by have := HS.out; omega) _).grown hg4 (by have := HS.out; simp; omega) fun k hk => by have := (World.ownsRow.lt HO3.out k hk).1; have := HS.out; omega⟩
end Sp
end Go.Proofs.Ytdbmdocmnhgbpaa
