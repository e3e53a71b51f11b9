/- ditto: what a write of the call's own small blocks leaves. -/
import Derived.Test.YtllejfnmbpjhaaaGreatDoorDiHome
namespace Go.Proofs.YtllejfnmbpjhaaaGreatDoor
set_option maxRecDepth 20000
namespace Di
open Go.RowKit Dk Byt Eqb Rm

theorem two_of_below {w w' : World} {g b : Nat} (h : Below w.heap.size w w') : Two w w' g b := ⟨h.os, h.tape, h.output, h.size, fun k hk _ _ => h.block k hk⟩
theorem grown_row {w : World} {B : Nat} (c : Array Value) : w.grownBy (w.setRow B c) (some B) := ⟨rfl, rfl, rfl, by simp, fun i _ hr => setRow_other _ _ _ _ (by simpa using hr)⟩
theorem below_only {w w' w'' : World} {B : Nat} (h : Below w.heap.size w w') (hB : w.heap.size ≤ B) (hg : w'.grownBy w'' (some B)) : Below w.heap.size w w'' :=
  ⟨hg.os.trans h.os, hg.tape.trans h.tape, hg.output.trans h.output, Nat.le_trans h.size hg.size, fun k hk => (hg.block k (Nat.lt_of_lt_of_le hk h.size) (by simp; omega)).trans (h.block k hk)⟩
theorem two_only {w w' w'' : World} {g b B : Nat} (h : Two w w' g b) (hB : w.heap.size ≤ B) (hg : w'.grownBy w'' (some B)) : Two w w'' g b :=
  ⟨hg.os.trans h.os, hg.tape.trans h.tape, hg.output.trans h.output, Nat.le_trans h.size hg.size, fun k hk h1 h2 => (hg.block k (Nat.lt_of_lt_of_le hk h.size) (by simp; omega)).trans (h.block k hk h1 h2)⟩
/-- the disk's lists aren't in a small block -/
theorem hasD_only {w w' : World} {g n B : Nat} {X : Dst} (h : HasD w g n X) {cur : Array Value} {t : TypeId} {fr : Nat × Nat} (hB : w.heap[B]? = some (.cells cur t fr)) (hc : cur.size ≤ 128) (hne : g ≠ B) (hg : w.grownBy w' (some B)) : HasD w' g n X := by
  obtain ⟨sa, sc, ca, cc, hh⟩ := h
  have h1 : n = 0 ∨ ∀ b off, sa = some ⟨b, off, none⟩ → b ≠ B := by
    by_cases h0 : n = 0
    · exact .inl h0
    · refine .inr fun b off e hb => ?_
      obtain ⟨b', off', e1, _, _, hr⟩ := hh.ss.rows.resolve_left h0
      rw [e] at e1
      injection e1 with e1
      injection e1 with e1 e2
      subst e1 e2 hb
      have h1 := hr 0 (by omega) 128 _ (secV_read (X.S 0))
      rw [cell_of_row w b _ cur t fr hB] at h1
      have := (Array.getElem?_eq_some_iff.1 h1).1
      omega
  have h2 : X.m = 0 ∨ ∀ b off, ca = some ⟨b, off, none⟩ → b ≠ B := by
    by_cases h0 : X.m = 0
    · exact .inl h0
    · refine .inr fun b off e hb => ?_
      obtain ⟨b', off', e1, _, _, hr⟩ := hh.cs.rows.resolve_left h0
      rw [e] at e1
      injection e1 with e1
      injection e1 with e1 e2
      subst e1 e2 hb
      have h1 := hr 0 (by omega) (1 + 127) _ (wrV_data (X.C 0) (by omega))
      rw [cell_of_row w b _ cur t fr hB] at h1
      have := (Array.getElem?_eq_some_iff.1 h1).1
      omega
  have lay : ∀ {ao : Option Addr} {k c z : Nat} {T : Nat → List Value}, Lay w w.heap.size g ao k c z T → (k = 0 ∨ ∀ b off, ao = some ⟨b, off, none⟩ → b ≠ B) → Lay w' w'.heap.size g ao k c z T := by
    intro ao k c z T hl hz
    refine Lay.more (B := w.heap.size) ⟨hl.room, hl.nil, ?_⟩ hg.size
    rcases hl.rows with h0 | ⟨b, off, e, hb, hbg, hr⟩
    · exact .inl h0
    · rcases hz with h0 | hz
      · exact .inl h0
      · exact .inr ⟨b, off, e, hb, hbg, fun i hi j v hv => (World.cell?_of_block (hg.block b hb (by simpa using hz b off e))).trans (hr i hi j v hv)⟩
  exact ⟨sa, sc, ca, cc, hh.bx.block (hg.block g hh.bx.lt (by simpa using hne)), lay hh.ss h1, lay hh.cs h2, hh.nb, hh.mb⟩
theorem pairs_at {h s : Int} {F T : Nat → Int} : ∀ {n : Nat}, pairsB h s F T n = true → ∀ i, i < n → 2 * h ≤ T i
  | 0, _, i, hi => by omega
  | n + 1, hp, i, hi => by
    simp only [pairsB, pairB, Bool.and_eq_true, decide_eq_true_eq] at hp
    by_cases e : i = n
    · subst e; exact hp.2.1.2
    · exact pairs_at hp.1 i (by omega)
theorem right_at {s gen : Int} {k : Nat} {F T : Nat → Int} (h : Rm.rightB s gen k F T = true) : ∀ i, i < k → 8 ≤ T i := by
  obtain ⟨h0, _, _, _, h5, _⟩ := right_parts h
  have := (halfN_bd s).2.2 h0
  intro i hi
  have := pairs_at h5 i hi
  omega
/-- a right table's list isn't in a block of small numbers -/
theorem hasT_only {w w' : World} {b g B : Nat} {s : Int} {M : Tab} (h : HasT w b g M) (hr : Rm.rightB s M.gen M.k M.F M.T = true) {cur : Array Value} {t : TypeId} {fr : Nat × Nat} (hB : w.heap[B]? = some (.cells cur t fr))
    (hz : ∀ (i : Nat) (z : Int), cur[i]? = some (.int .i64 z) → z < 8) (hne : b ≠ B) (hg : w.grownBy w' (some B)) : HasT w' b g M := by
  obtain ⟨pa, cap, h1, h2⟩ := h
  refine ⟨pa, cap, (hg.block b (Array.getElem?_eq_some_iff.1 h1).1 (by simpa using hne)).trans h1, Lay.more (B := w.heap.size) ⟨h2.room, h2.nil, ?_⟩ hg.size⟩
  rcases h2.rows with h0 | ⟨q, off, e, hq, hqg, hrr⟩
  · exact .inl h0
  · refine .inr ⟨q, off, e, hq, hqg, fun i hi => ?_⟩
    have hqB : q ≠ B := by
      intro hqB
      subst hqB
      have h3 := hrr i hi 1 (.int .i64 (M.T i)) rfl
      rw [cell_of_row w q _ cur t fr hB] at h3
      have h4 := hz _ _ h3
      have := right_at hr i hi
      omega
    exact fun j v hj => (World.cell?_of_block (hg.block q hq (by simpa using hqB))).trans (hrr i hi j v hj)
theorem bl_small (f : Nat → Int) (i : Nat) (z : Int) (h : (bl f).toArray[i]? = some (.int .i64 z)) : z < 8 := by
  have hm := List.mem_of_getElem? (by simpa using h : (bl f)[i]? = some (.int .i64 z))
  simp [bl] at hm
theorem bl_le (f : Nat → Int) : (bl f).toArray.size ≤ 128 := by rw [List.size_toArray, bl_length]; exact Nat.le_refl _
theorem w_right {n : Nat} {X : Dst} {M : Tab} {x : Int} {V : Nat → Int} (h : Rm.rightB n M.gen M.k M.F M.T = true) :
    Rm.rightB n (wRes n X M x V).2.2.gen (wRes n X M x V).2.2.k (wRes n X M x V).2.2.F (wRes n X M x V).2.2.T = true := by
  by_cases e : (wRes n X M x V).1 = 0
  · exact (wr_ok e).2.2.2.2.1
  · have : (wRes n X M x V).2.2 = M := by
      unfold wRes at e ⊢
      repeat' split
      all_goals first
        | rfl
        | (exfalso; revert e; simp [*])
    rw [this]
    exact h
end Di
end Go.Proofs.YtllejfnmbpjhaaaGreatDoor
