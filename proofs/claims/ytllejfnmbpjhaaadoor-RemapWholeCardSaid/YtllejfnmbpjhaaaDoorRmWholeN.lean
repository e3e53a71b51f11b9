/- remap: what a write has laid at the places of tables, at each moment: the numbers alone. -/
import Derived.Test.YtllejfnmbpjhaaaDoorRmWholeM
namespace Go.Proofs.YtllejfnmbpjhaaaDoor
set_option maxRecDepth 20000
namespace Rm
open Go.RowKit Dk Byt

/-- the places of tables -/
def isTb (n : Nat) (c : Int) : Prop := ∃ r : Int, 0 ≤ r ∧ r < 2 ∧ (c = r ∨ c = halfN n + r)
theorem isTb_bd {n : Nat} {c : Int} (h0 : halfN n ≠ 0) (h : isTb n c) : 0 ≤ c ∧ c < n ∧ c < 2 * halfN n := by
  obtain ⟨_, _, hh⟩ := halfN_bd n
  obtain ⟨h4, hn⟩ := hh h0
  obtain ⟨r, r0, r1, e | e⟩ := h <;> omega
/-- nothing has been laid at the places of tables -/
structure Cl (n : Nat) (X0 X : Dst) : Prop where
  f : formed n X
  s : ∀ c, isTb n c → X.S c.toNat = X0.S c.toNat
  c : ∀ j, j < X.m → ¬ isTb n (X.C j).place
/-- .. nothing but the block P at the places r and h + r, not flushed -/
structure Tb (n : Nat) (X0 : Dst) (r : Int) (P : Nat → Int) (X : Dst) : Prop where
  f : formed n X
  s : ∀ c, isTb n c → X.S c.toNat = X0.S c.toNat
  c : ∀ j, j < X.m → isTb n (X.C j).place → ((X.C j).place = r ∨ (X.C j).place = halfN n + r) ∧ (X.C j).data = P
section
variable {n : Nat} {X0 X : Dst} {a : Int} {D P : Nat → Int} {r : Int}
theorem Cl.tb (h : Cl n X0 X) : Tb n X0 r P X := ⟨h.f, h.s, fun j hj hc => absurd hc (h.c j hj)⟩
theorem Cl.start (hf : formed n X0) (hm : X0.m = 0) : Cl n X0 X0 := ⟨hf, fun _ _ => rfl, fun j hj => by omega⟩
theorem Cl.wr (h : Cl n X0 X) (ha : ¬ isTb n a) : Cl n X0 (dWr n X a D) := by
  by_cases e : dWrE n X a = 0
  · obtain ⟨h1, h2, h3⟩ := dWr_yes (D := D) e
    refine ⟨h.f.wr _ _, fun c hc => by rw [h3]; exact h.s c hc, fun j hj => ?_⟩
    rw [h1] at hj
    rw [h2]
    unfold updC
    split
    · exact ha
    · exact h.c j (by omega)
  · obtain ⟨h1, h2, h3⟩ := dWr_no (D := D) e
    exact ⟨h.f.wr _ _, fun c hc => by rw [h3]; exact h.s c hc, fun j hj => by rw [h2]; exact h.c j (by rw [h1] at hj; exact hj)⟩
theorem Tb.wr (h : Tb n X0 r P X) (ha : a = r ∨ a = halfN n + r) : Tb n X0 r P (dWr n X a P) := by
  by_cases e : dWrE n X a = 0
  · obtain ⟨h1, h2, h3⟩ := dWr_yes (D := P) e
    refine ⟨h.f.wr _ _, fun c hc => by rw [h3]; exact h.s c hc, fun j hj => ?_⟩
    rw [h1] at hj
    rw [h2]
    unfold updC
    split
    · exact fun _ => ⟨ha, rfl⟩
    · exact h.c j (by omega)
  · obtain ⟨h1, h2, h3⟩ := dWr_no (D := P) e
    exact ⟨h.f.wr _ _, fun c hc => by rw [h3]; exact h.s c hc, fun j hj => by rw [h2]; exact h.c j (by rw [h1] at hj; exact hj)⟩
/-- what is kept, or flushed, at a place: what was there, or a write's bytes -/
theorem st_at {S : Nat → Sec} {C : Nat → Wr} {K : Nat → Bool} {c : Int} (hc : 0 ≤ c) : ∀ m, inAll n C m = true → stS S C K m c.toNat = S c.toNat ∨ ∃ j, j < m ∧ (C j).place = c ∧ (stS S C K m c.toNat).noRead = false ∧ (stS S C K m c.toNat).data = (C j).data
  | 0, _ => .inl rfl
  | m + 1, h => by
    simp only [inAll, Bool.and_eq_true] at h
    have hp := hasB_nat h.2
    simp only [stS]
    by_cases hk : K m = true
    · rw [if_pos hk]
      unfold upd
      by_cases e : (C m).place = c
      · rw [if_pos (by rw [e])]
        exact .inr ⟨m, by omega, e, rfl, rfl⟩
      · rw [if_neg (by omega)]
        rcases st_at hc m h.1 with h1 | ⟨j, j1, j2, j3, j4⟩
        · exact .inl h1
        · exact .inr ⟨j, by omega, j2, j3, j4⟩
    · rw [if_neg hk]
      rcases st_at hc m h.1 with h1 | ⟨j, j1, j2, j3, j4⟩
      · exact .inl h1
      · exact .inr ⟨j, by omega, j2, j3, j4⟩
theorem Cl.fl (h : Cl n X0 X) (h0 : halfN n ≠ 0) : Cl n X0 (dFl n X) := by
  refine ⟨h.f.fl, fun c hc => ?_, fun j hj => ?_⟩
  · show flS n X.m X.S X.C X.f X.d c.toNat = X0.S c.toNat
    unfold flS
    split
    · rcases st_at (n := n) (S := X.S) (C := X.C) (K := fun _ => true) (isTb_bd h0 hc).1 X.m (formed_n h.f).2 with h1 | ⟨j, j1, j2, _⟩
      · rw [h1]; exact h.s c hc
      · exact absurd (by rw [j2]; exact hc) (h.c j j1)
    · exact h.s c hc
  · have hj' : j < flM n X.m X.C X.f X.d := hj
    unfold flM at hj'
    split at hj'
    · omega
    · exact h.c j hj'
/-- a flush that fails turns nothing of this -/
theorem Tb.fl_no (h : Tb n X0 r P X) (he : dFlE n X ≠ 0) : Tb n X0 r P (dFl n X) := by
  have ho : flOk n X.m X.C X.f X.d = false := by
    cases hv : flOk n X.m X.C X.f X.d with
    | false => rfl
    | true =>
      unfold flOk at hv
      simp only [Bool.and_eq_true, decide_eq_true_eq] at hv
      exact absurd (by unfold dFlE flE; rw [hv.1, if_pos rfl]; exact hv.2) he
  refine ⟨h.f.fl, fun c hc => ?_, fun j hj => ?_⟩
  · show flS n X.m X.S X.C X.f X.d c.toNat = X0.S c.toNat
    unfold flS
    rw [ho]
    exact h.s c hc
  · have hj' : j < flM n X.m X.C X.f X.d := hj
    unfold flM at hj'
    rw [ho] at hj'
    exact h.c j hj'
theorem spare_no {i : Nat} (h0 : halfN n ≠ 0) : ¬ isTb n ((n : Int) - 20 + i) := by
  intro h
  have h1 := (isTb_bd h0 h).2.2
  obtain ⟨_, _, hh⟩ := halfN_bd n
  obtain ⟨_, hn⟩ := hh h0
  omega
theorem Cl.sp {k : Nat} {T V : Nat → Int} (h : Cl n X0 X) (h0 : halfN n ≠ 0) : ∀ i, Cl n X0 (spS n k T V X i)
  | 0 => h
  | i + 1 => by
    simp only [spS]
    split
    · exact (Cl.sp h h0 i).wr (spare_no h0)
    · exact Cl.sp h h0 i
theorem Cl.spX {k : Nat} {T V : Nat → Int} (h : Cl n X0 X) (h0 : halfN n ≠ 0) : Cl n X0 (spX n k T V X) := by
  unfold Rm.spX
  split
  · exact h.sp h0 _
  · exact h.sp h0 _
theorem Tb.ly (h : Tb n X0 r P X) : Tb n X0 r P (lyX' n (halfN n) r P X) := by
  have h1 : Tb n X0 r P (lyS n (halfN n) r P X 1) := h.wr (.inl (by show ((0 : Nat) : Int) * halfN n + r = r; simp))
  unfold lyX'
  split
  · exact h1
  · exact h1.wr (.inr (by show ((1 : Nat) : Int) * halfN n + r = halfN n + r; simp))
/-- a write of a well sector of a disk with power -/
theorem wr_well (hf : formed n X) (hd : X.d = false) (hn : X.f < 0) (ha : 0 ≤ a ∧ a < n) (hw : (X.S a.toNat).noWrite = false) : dWrE n X a = 0 := by
  obtain ⟨e1, _, _⟩ := act_neg hn
  have ho : wrOk n X.m X.C a = true := by
    unfold wrOk hasB
    rw [show formedB n X.m X.C = true from hf, decide_eq_true ha.1, decide_eq_true ha.2]
    rfl
  unfold dWrE wrE
  rw [ho, if_pos rfl, hd, e1, if_pos rfl, hw]
  rfl
theorem ly_well (hf : formed n X) (hd : X.d = false) (hn : X.f < 0) (h0 : halfN n ≠ 0) (hr : 0 ≤ r ∧ r < 2) (hw : ∀ c, isTb n c → (X.S c.toNat).noWrite = false) : lyE' n (halfN n) r P X = 0 := by
  have t0 : isTb n (((0 : Nat) : Int) * halfN n + r) := ⟨r, hr.1, hr.2, .inl (by simp)⟩
  have t1 : isTb n (((1 : Nat) : Int) * halfN n + r) := ⟨r, hr.1, hr.2, .inr (by simp)⟩
  have c0 : lyC n (halfN n) r P X 0 = 0 := wr_well hf hd hn ⟨(isTb_bd h0 t0).1, (isTb_bd h0 t0).2.1⟩ (hw _ t0)
  have d0 : dWrE n X (((0 : Nat) : Int) * halfN n + r) = 0 := c0
  have hup : (dWr n X (((0 : Nat) : Int) * halfN n + r) P).d = false := up_wr (.inl d0)
  have hfn : (dWr n X (((0 : Nat) : Int) * halfN n + r) P).f < 0 := by
    show wrF n X.m X.C X.f X.d _ < 0
    unfold wrF
    rw [hd, (act_neg hn).2.1]
    split <;> exact hn
  have c1 : lyC n (halfN n) r P X 1 = 0 := by
    refine wr_well (X := dWr n X (((0 : Nat) : Int) * halfN n + r) P) (hf.wr _ _) hup hfn ⟨(isTb_bd h0 t1).1, (isTb_bd h0 t1).2.1⟩ ?_
    rw [(dWr_yes (D := P) d0).2.2]
    exact hw _ t1
  have hN : lyN n (halfN n) r P X 2 = 0 := by simp only [lyN]; rw [c0, c1]; rfl
  unfold lyE'
  rw [c0, c1, hN]
  simp [bad]
/-- both laid and flushed: the block stands at r -/
theorem ly_there (hf : formed n X) (h0 : halfN n ≠ 0) (hr : 0 ≤ r ∧ r < 2) (c0 : lyC n (halfN n) r P X 0 = 0) (_ : ¬ bad (lyC n (halfN n) r P X 1)) (he : dFlE n (lyX' n (halfN n) r P X) = 0) :
    lk (dFl n (lyX' n (halfN n) r P X)) r = (false, P) ∧ (dFl n (lyX' n (halfN n) r P X)).m = 0 := by
  obtain ⟨hk, _, _⟩ := up_fl he
  obtain ⟨_, _, hh⟩ := halfN_bd n
  obtain ⟨h4, hn⟩ := hh h0
  refine ⟨?_, by show flM n _ _ _ _ = 0; unfold flM; rw [hk]; rfl⟩
  rw [lk_flush he hf.ly hr.1]
  have hx : lyX' n (halfN n) r P X = dWr n (dWr n X (((0 : Nat) : Int) * halfN n + r) P) (((1 : Nat) : Int) * halfN n + r) P := by
    unfold lyX'
    rw [if_neg (by rw [c0]; simp [bad])]
    rfl
  rw [hx, lk_other (by omega)]
  have hz : (((0 : Nat) : Int) * halfN n + r) = r := by simp
  have d0 : dWrE n X r = 0 := by rw [← hz]; exact c0
  rw [hz]
  exact lk_same d0
end
/-- a disk behind a crash that keeps these -/
def cr (X : Dst) (K : Nat → Bool) : Dst := ⟨0, stS X.S X.C K X.m, X.C, -1, false⟩
end Rm
end Go.Proofs.YtllejfnmbpjhaaaDoor
