import Derived.Test.YtebgaafaokiigaaGreatDoorPJSpB
/- space: what Take does, in numbers; slices of ints that grow. -/
namespace Go.Proofs.YtebgaafaokiigaaGreatDoor
set_option maxRecDepth 20000
namespace Sp
open Go.RowKit Dk Eqb Byt

theorem ff_bd {A : Int} {F : Nat → Int} {z : Nat} (hA : 0 ≤ A) : -1 ≤ ff A F z ∧ ff A F z < A + z := by
  have := fz_lt F z
  unfold ff
  split <;> omega
theorem ff_at {A : Int} {F : Nat → Int} {z : Nat} (_hA : 0 ≤ A) (h : ff A F z ≠ -1) : ∃ i : Nat, i < z ∧ ff A F z = A + i ∧ F i = 0 := by
  unfold ff at h ⊢
  by_cases e : fz F z < 0
  · rw [if_pos e] at h; exact absurd rfl h
  · rw [if_neg e] at h ⊢
    have := fz_lt F z
    obtain ⟨i, hi⟩ : ∃ i : Nat, fz F z = i := ⟨(fz F z).toNat, by omega⟩
    exact ⟨i, by omega, by rw [hi], fz_at hi⟩
def fA (A : Int) (z : Nat) (f : Nat → Int) : Int := ff A f z
def fB (B : Int) (z : Nat) (f : Nat → Int) : Int := ff B (fun i => f (z + i)) z
/-- the sectors that are taken -/
def tp0 (A B : Int) (z : Nat) (f : Nat → Int) (c : Nat) : Int := if c = 1 then (if fA A z f = -1 then fB B z f else fA A z f) else fA A z f
def tp1 (B : Int) (z : Nat) (f : Nat → Int) (c : Nat) : Int := if c = 1 then -1 else fB B z f
def tpP (A B : Int) (z : Nat) (f : Nat → Int) (c i : Nat) : Int := if i = 0 then tp0 A B z f c else tp1 B z f c
def tpL (A B : Int) (z : Nat) (f : Nat → Int) (c i : Nat) : Nat := (plI A B z (tpP A B z f c i)).toNat
def tpOk (A B : Int) (z : Nat) (f : Nat → Int) (c : Nat) : Bool := !(tp0 A B z f c == -1) && (c == 1 || !(tp1 B z f c == -1))
def tkN : Nat → Int := nx 2 0 0 0 0
/-- may it be taken at all -/
def tkB (A B Z : Int) (n : Nat) (f : Nat → Int) (x : Int) : Bool := formB A B Z n f && (x == 1 || x == 2)
def tkE (A B Z : Int) (n : Nat) (f : Nat → Int) (x : Int) : Int := if tkB A B Z n f x then (if tpOk A B Z.toNat f x.toNat then 0 else 9) else 1
def tkp (A B Z : Int) (n : Nat) (f : Nat → Int) (x : Int) : Int := if tkB A B Z n f x && tpOk A B Z.toNat f x.toNat then tp0 A B Z.toNat f x.toNat else 0
def tkq (A B Z : Int) (n : Nat) (f : Nat → Int) (x : Int) : Int := if tkB A B Z n f x && tpOk A B Z.toNat f x.toNat then tp1 B Z.toNat f x.toNat else 0
def tkF (A B Z : Int) (n : Nat) (f : Nat → Int) (x : Int) : Nat → Int := if tkB A B Z n f x && tpOk A B Z.toNat f x.toNat then bec tkN (tpL A B Z.toNat f x.toNat) f x.toNat else f

section
variable {A B : Int} {z n c : Nat} {f : Nat → Int}
theorem fA_pl (h : Ap A B z) (h1 : fA A z f ≠ -1) : ∃ i : Nat, i < z ∧ fA A z f = A + i ∧ plI A B z (fA A z f) = i ∧ f i = 0 := by
  obtain ⟨i, hi, e, e0⟩ := ff_at h.a0 h1
  have e' : fA A z f = A + i := e
  exact ⟨i, hi, e', by rw [e', plI_a (by omega)]; omega, e0⟩
theorem fB_pl (h : Ap A B z) (h1 : fB B z f ≠ -1) : ∃ i : Nat, z ≤ i ∧ i < 2 * z ∧ fB B z f = B + (i - z) ∧ plI A B z (fB B z f) = i ∧ f i = 0 := by
  obtain ⟨i, hi, e, e0⟩ := ff_at (by have := h.a0; have := h.ab; have := h.z1; omega) h1
  have e' : fB B z f = B + i := e
  have hab := h.ab
  exact ⟨z + i, by omega, by omega, by omega, by rw [e', plI_b (by omega) (by omega)]; omega, e0⟩
theorem fA_bd (h : Ap A B z) : -1 ≤ fA A z f ∧ fA A z f ≤ 4096 := by
  have h1 : -1 ≤ fA A z f ∧ fA A z f < A + z := ff_bd h.a0
  have := h.ab; have := h.b1; omega
theorem fB_bd (h : Ap A B z) : -1 ≤ fB B z f ∧ fB B z f ≤ 4096 := by
  have h1 : -1 ≤ fB B z f ∧ fB B z f < B + z := ff_bd (by have := h.a0; have := h.ab; have := h.z1; omega)
  have := h.b1; omega
theorem tpP_bd (h : Ap A B z) (i : Nat) : -1 ≤ tpP A B z f c i ∧ tpP A B z f c i ≤ 4096 := by
  have h1 := fA_bd (f := f) h
  have h2 := fB_bd (f := f) h
  unfold tpP tp0 tp1
  split
  · split
    · split <;> omega
    · omega
  · split <;> omega
/-- where a sector that is taken stands -/
theorem tpL_at (h : Ap A B z) (hc : c = 1 ∨ c = 2) {i : Nat} (hi : i < c) (hp : tpP A B z f c i ≠ -1) : plI A B z (tpP A B z f c i) = tpL A B z f c i ∧ tpL A B z f c i < 2 * z ∧ f (tpL A B z f c i) = 0 ∧ (c = 2 → (i = 0 → tpL A B z f c i < z) ∧ (i = 1 → z ≤ tpL A B z f c i)) := by
  have key : ∀ x : Int, tpP A B z f c i = x → (∃ k : Nat, k < 2 * z ∧ plI A B z x = k ∧ f k = 0 ∧ (c = 2 → (i = 0 → k < z) ∧ (i = 1 → z ≤ k))) → plI A B z (tpP A B z f c i) = tpL A B z f c i ∧ tpL A B z f c i < 2 * z ∧ f (tpL A B z f c i) = 0 ∧ (c = 2 → (i = 0 → tpL A B z f c i < z) ∧ (i = 1 → z ≤ tpL A B z f c i)) := by
    rintro x hx ⟨k, hk, hpl, h0, hz⟩
    have e : tpL A B z f c i = k := by unfold tpL; rw [hx, hpl, Int.toNat_natCast]
    rw [e, hx, hpl]
    exact ⟨rfl, hk, h0, hz⟩
  have useA : ∀ (_ : fA A z f ≠ -1), (i = 1 → c ≠ 2) → ∃ k : Nat, k < 2 * z ∧ plI A B z (fA A z f) = k ∧ f k = 0 ∧ (c = 2 → (i = 0 → k < z) ∧ (i = 1 → z ≤ k)) := by
    intro h1 h2
    obtain ⟨k, hk, _, hpl, h0⟩ := fA_pl h h1
    exact ⟨k, by omega, hpl, h0, fun hc2 => ⟨fun _ => hk, fun h3 => absurd hc2 (h2 h3)⟩⟩
  have useB : ∀ (_ : fB B z f ≠ -1), (i = 0 → c ≠ 2) → ∃ k : Nat, k < 2 * z ∧ plI A B z (fB B z f) = k ∧ f k = 0 ∧ (c = 2 → (i = 0 → k < z) ∧ (i = 1 → z ≤ k)) := by
    intro h1 h2
    obtain ⟨k, hk1, hk2, _, hpl, h0⟩ := fB_pl h h1
    exact ⟨k, hk2, hpl, h0, fun hc2 => ⟨fun h3 => absurd hc2 (h2 h3), fun _ => hk1⟩⟩
  rcases hc with rfl | rfl
  · obtain rfl : i = 0 := by omega
    by_cases e : fA A z f = -1
    · have hx : tpP A B z f 1 0 = fB B z f := by unfold tpP tp0; rw [if_pos rfl, if_pos rfl, if_pos e]
      rw [hx] at hp
      exact key _ hx (useB hp (by omega))
    · have hx : tpP A B z f 1 0 = fA A z f := by unfold tpP tp0; rw [if_pos rfl, if_pos rfl, if_neg e]
      exact key _ hx (useA e (by omega))
  · obtain rfl | rfl : i = 0 ∨ i = 1 := by omega
    · have hx : tpP A B z f 2 0 = fA A z f := by unfold tpP tp0; rw [if_pos rfl, if_neg (by omega)]
      rw [hx] at hp
      exact key _ hx (useA hp (by omega))
    · have hx : tpP A B z f 2 1 = fB B z f := by unfold tpP tp1; rw [if_neg (by omega), if_neg (by omega)]
      rw [hx] at hp
      exact key _ hx (useB hp (by omega))
theorem tpOk_yes (h : tpOk A B z f c = true) (_hc : c = 1 ∨ c = 2) : ∀ i, i < c → tpP A B z f c i ≠ -1 := by
  simp [tpOk] at h
  intro i hi
  unfold tpP
  split
  · exact h.1
  · rcases h.2 with h2 | h2
    · omega
    · exact h2
theorem tpOk_no {i : Nat} (hi : i < c) (hc : c = 1 ∨ c = 2) (h : tpP A B z f c i = -1) : tpOk A B z f c = false := by
  cases e : tpOk A B z f c with
  | false => rfl
  | true => exact absurd h (tpOk_yes e hc i hi)
theorem tpOk_all (hc : c = 1 ∨ c = 2) (h : ∀ i, i < c → tpP A B z f c i ≠ -1) : tpOk A B z f c = true := by
  have h0 := h 0 (by omega)
  unfold tpP at h0
  rw [if_pos rfl] at h0
  rcases hc with rfl | rfl
  · simp [tpOk, h0]
  · have h1 := h 1 (by omega)
    unfold tpP at h1
    rw [if_neg (by omega)] at h1
    simp [tpOk, h0, h1]
/-- what becomes of the states -/
theorem tk_bec1 (h : Ap A B z) (h0 : tpP A B z f 1 0 ≠ -1) : bec tkN (tpL A B z f 1) f 1 = put f (tpL A B z f 1 0) 2 := by
  have := (tpL_at h (.inl rfl) (by omega) h0).2.2.1
  rw [bec, bec, this]
  rfl
theorem tk_bec2 (h : Ap A B z) (h0 : tpP A B z f 2 0 ≠ -1) (h1 : tpP A B z f 2 1 ≠ -1) : bec tkN (tpL A B z f 2) f 2 = put (put f (tpL A B z f 2 0) 2) (tpL A B z f 2 1) 2 := by
  obtain ⟨_, _, e0, l0⟩ := tpL_at h (.inr rfl) (by omega) h0
  obtain ⟨_, _, e1, l1⟩ := tpL_at h (.inr rfl) (by omega) h1
  have hne : tpL A B z f 2 1 ≠ tpL A B z f 2 0 := by
    have := (l0 rfl).1 rfl
    have := (l1 rfl).2 rfl
    omega
  have hx : put f (tpL A B z f 2 0) 2 (tpL A B z f 2 1) = 0 := by unfold put; rw [if_neg hne, e1]
  rw [bec, bec, bec, e0, show tkN (0 : Int).toNat = 2 from rfl, hx]
  rfl
end
/-- ints in a row -/
def ints (xs : List Int) : List Value := xs.map (Value.int .i64)
theorem ints_append (xs ys : List Int) : ints (xs ++ ys) = ints xs ++ ints ys := by simp [ints]
theorem ints_get {xs : List Int} {i : Nat} (h : i < xs.length) : (ints xs)[i]? = some (.int .i64 (xs.getD i 0)) := by
  simp [ints, List.getD_eq_getElem?_getD, h]
theorem int_info : (Tryz.prog.info? 3).map (fun i => (i.zero, i.size, i.bytes)) = some (some (.int .i64 0), 1, 8) := by kernel_rfl
theorem int_slice : Tryz.prog.underlying 141 = some (.slice 3) := by kernel_rfl
/-- a slice of ints of its own -/
def OwnI (w : World) (base : Nat) (v : Value) (xs : List Int) : Prop := w.ownsRow base 3 1 v xs.length (ints xs)
theorem OwnI.nil (w : World) (base : Nat) : OwnI w base (.slice none 0 0) [] := World.ownsRow_nil _ _ _ _
theorem OwnI.slice {w : World} {base : Nat} {v : Value} {xs : List Int} (h : OwnI w base v xs) : (v = .slice none 0 0 ∧ xs = []) ∨ ∃ b cap, v = .slice (some ⟨b, 0, none⟩) xs.length cap ∧ base ≤ b ∧ b < w.heap.size ∧ ∀ i, i < xs.length → w.cell? ⟨b, i, none⟩ = some (.int .i64 (xs.getD i 0)) := by
  have hlt := World.ownsRow.lt h
  rcases h.2 with ⟨hv, hn⟩ | ⟨g, cap, cur, hv, hb, hg, _, _, _, ht⟩
  · exact .inl ⟨hv, List.eq_nil_of_length_eq_zero hn⟩
  · refine .inr ⟨g, cap, hv, hb, (Array.getElem?_eq_some_iff.1 hg).1, fun i hi => ?_⟩
    rw [cell_of_row w g i cur _ _ hg]
    have e1 := ints_get (xs := xs) hi
    rw [← ht] at e1
    simpa [List.getElem?_take, hi] using e1
theorem OwnI.below {w w' : World} {base : Nat} {v : Value} {xs : List Int} (h : OwnI w base v xs) (hb : Below w.heap.size w w') : OwnI w' base v xs := by
  refine ⟨h.1, ?_⟩
  rcases h.2 with h2 | ⟨g, cap, cur, hv, hb', hg, h5⟩
  · exact .inl h2
  · exact .inr ⟨g, cap, cur, hv, hb', (hb.block g (Array.getElem?_eq_some_iff.1 hg).1).trans hg, h5⟩
theorem OwnI.kept {w w' : World} {base : Nat} {v : Value} {xs : List Int} (h : OwnI w base v xs) (hk : ∀ b, v.ownBlock = some b → w'.heap[b]? = w.heap[b]?) : OwnI w' base v xs := by
  refine ⟨h.1, ?_⟩
  rcases h.2 with h2 | ⟨g, cap, cur, hv, hb', hg, h5⟩
  · exact .inl h2
  · exact .inr ⟨g, cap, cur, hv, hb', (hk g (by rw [hv]; rfl)).trans hg, h5⟩

set_option maxRecDepth 10000 in
/-- append(v, k), v the call's own -/
theorem append_i1 {w : World} {ops : Array Oper} {rest : List Oper} {o : Oper} {a : Act} {Q : Exit → Act → World → Prop} (hgd : o.guard = none) (s x : Operand)
    (ho : o.op = .call { callee := .builtin .append, args := #[s, x], argTypes := #[141, 141] }) (base : Nat) (v : Value) (ys : List Int) (hs : a.eval s = v) (hown : OwnI w base v ys)
    (b c : Nat) (k : Int) (hx : a.eval x = .slice (some ⟨b, 0, none⟩) 1 c) (hc : w.cell? ⟨b, 0, none⟩ = some (.int .i64 k)) (hlen : ys.length ≤ 1099511627776) (hbase : base ≤ w.heap.size)
    (h : ∀ v' w', OwnI w' base v' (ys ++ [k]) → w.grownBy w' v.ownBlock → wpList Tryz.prog ops Q rest (a.put o.dst v') w') : wpList Tryz.prog ops Q (o :: rest) a w := by
  obtain ⟨i0, hi, hz0, hz1, hz2⟩ := info_parts int_info
  refine wpList_append_own w hgd s x 141 ho base 3 i0 (.int .i64 0) 1 8 int_slice hi hz0 hz1 hz2 rfl (by decide) v ys.length (ints ys) hs hown ⟨b, 0, none⟩ 1 c [.int .i64 k] hx (by simp) ?_ (by intro u hu; simp at hu; subst hu; rfl) (by unfold maxLen; omega) (by omega) hbase ?_
  · intro j u hu
    obtain rfl : j = 0 := by
      have := (List.getElem?_eq_some_iff.1 hu).1
      simpa using this
    simp at hu
    subst hu
    simpa [Addr.add] using hc
  · intro v' w' h1 h2 _
    refine h v' w' ?_ h2
    unfold OwnI
    rw [List.length_append, ints_append]
    exact h1
end Sp
end Go.Proofs.YtebgaafaokiigaaGreatDoor
