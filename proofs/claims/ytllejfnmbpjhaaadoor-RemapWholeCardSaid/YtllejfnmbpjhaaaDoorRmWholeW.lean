/- RemapWhole: small things that its walk wants. -/
import Derived.Test.YtllejfnmbpjhaaaDoorRmWholeC
import Derived.Test.YtllejfnmbpjhaaaDoorRmPair
import Derived.Test.YtllejfnmbpjhaaaDoorJRc
import Derived.Test.YtllejfnmbpjhaaaDoorJDl
namespace Go.Proofs.YtllejfnmbpjhaaaDoor
set_option maxRecDepth 20000
namespace Rm
open Go.RowKit Dk Byt

/-- bytes of whatever is read -/
theorem ld_byt {n : Nat} {X : Dst} (hS : ∀ i, i < n → byt (X.S i).data) (hC : ∀ i, i < X.m → byt (X.C i).data) (i : Nat) : byt (ldV n X i) := by
  unfold ldV rdV
  split
  · rename_i he
    cases hl : lastW X.C (ldA n i) X.m with
    | some j => exact hC j (lastW_lt _ hl)
    | none =>
      have hb : hasB n (ldA n i) = true := by
        unfold rdE rdOk at he
        split at he
        · rename_i h1
          simp only [Bool.and_eq_true] at h1
          exact h1.2
        · exact absurd he (by decide)
      have := hasB_nat hb
      exact hS _ (by omega)
  · exact byt_zero
/-- where Load answers OK -/
theorem ld_ok {n : Nat} {X : Dst} (h : ldEr n X = 0) : formed n X ∧ halfN n ≠ 0 ∧ X.d = false ∧ ∃ j0, ldI n X 4 = some j0 ∧ ldF n X = some j0 ∧ rightB n (ldT n X (some j0)).gen (ldT n X (some j0)).k (ldT n X (some j0)).F (ldT n X (some j0)).T = true := by
  unfold ldEr at h
  split at h
  · exact absurd h (by decide)
  · rename_i h1
    split at h
    · exact absurd h (by decide)
    · rename_i h2
      have hd : X.d = false := by simpa using h2
      split at h
      · rename_i h3
        obtain ⟨j0, hj⟩ := Option.isSome_iff_exists.1 h3
        have hf : formed n X := by
          unfold hfN at h1
          unfold formed
          split at h1
          · assumption
          · exact absurd rfl h1
        refine ⟨hf, by rw [← hf.hf]; exact h1, hd, j0, hj, by unfold ldF; rw [if_neg (by simp [h1, hd])]; exact hj, ?_⟩
        obtain ⟨_, h2', _⟩ := ldI_some 4 j0 hj
        have h4 := (ldB_iff.1 h2').2.1
        unfold tkOk at h4
        simp only [Bool.and_eq_true, decide_eq_true_eq] at h4
        have h5 := h4.2.2.1
        show rightB n (tkA (ldV n X j0)) (tkK (ldV n X j0)) (tkF (ldV n X j0)) (tkT (ldV n X j0)) = true
        unfold putEr at h5
        split at h5
        · assumption
        · exact absurd h5 (by decide)
      · exact absurd h (by decide)
theorem ld_of {n : Nat} {X : Dst} {K : Nat → Bool} {j : Nat} (hf : formed n X) (h0 : halfN n ≠ 0) (hj : ldI n (cr X K) 4 = some j) : ldEr n (cr X K) = 0 ∧ ldF n (cr X K) = some j := by
  obtain ⟨h1, h2⟩ := ldF_cr (K := K) hf h0
  rw [h2, h1, hj]
  exact ⟨rfl, rfl⟩
theorem hasT_grown {w w' : World} {b g : Nat} {M : Tab} (h : HasT w b g M) (hg : w.grownBy w' (some g)) (hne : b ≠ g) : HasT w' b g M := by
  obtain ⟨pa, cap, h1, h2⟩ := h
  exact ⟨pa, cap, (hg.block b (Array.getElem?_eq_some_iff.1 h1).1 (by simpa using hne)).trans h1, (h2.grown hg (Nat.le_refl _)).more hg.size⟩
theorem one_below {w w' : World} {g B : Nat} (h : w.grownBy w' (some g)) (hg : B ≤ g) (hB : B ≤ w.heap.size) : Below B w w' :=
  ⟨h.os, h.tape, h.output, h.size, fun k hk => h.block k (Nat.lt_of_lt_of_le hk hB) (by simp; omega)⟩
theorem arm_d {w : World} {g n : Nat} {X : Dst} (h : HasD w g n X) (hf : formed n X) {k : Int} (hk : -1 ≤ k) : Calls Tryd.prog 26 #[.pointer (some ⟨g, 0, none⟩), .int .i64 k] w (Did w g n 0 (fuse X k)) := by
  obtain ⟨sa, sc, ca, cc, hh⟩ := h
  have ho : armOk n X.m X.C k = true := by
    unfold armOk
    rw [show formedB n X.m X.C = true from hf, decide_eq_true hk]
    rfl
  refine (arm_any g sa ca n sc X.m cc X.S X.C X.f X.d k w hh).mono ?_
  rintro e w' ⟨h1, h2, h3⟩
  unfold armE armF at *
  rw [ho] at h1 h3
  exact ⟨h1, h2, h3⟩
theorem crash_d {w : World} {g n : Nat} {X : Dst} (h : HasD w g n X) (hf : formed n X) (ka : Option Addr) (kn kc : Nat) (kf : Nat → Bool) (hkp : Keeps w w.heap.size g ka kn kf) (hkn : kn ≤ 140737488355328) :
    Calls Tryd.prog 27 #[.pointer (some ⟨g, 0, none⟩), .slice ka kn kc] w (Did w g n 0 (cr X (keepB kn kf))) := by
  obtain ⟨sa, sc, ca, cc, hh⟩ := h
  have ho : formedB n X.m X.C = true := hf
  refine (crash_any g sa ca n sc X.m cc X.S X.C X.f X.d ka kn kc kf w hh hkp hkn).mono ?_
  rintro e w' ⟨h1, h2, h3⟩
  unfold crE crM crS crF crD at *
  rw [ho] at h1 h3
  exact ⟨h1, h2, h3⟩
theorem keeps_more {w w' : World} {B B' g g' : Nat} {ka : Option Addr} {kn : Nat} {kf : Nat → Bool} (h : Keeps w B g ka kn kf) (hb : Below B w w') (hB : B ≤ B') (hg : B ≤ g') : Keeps w' B' g' ka kn kf := by
  rcases h with h | ⟨q, o, h1, h2, _, h4⟩
  · exact .inl h
  · exact .inr ⟨q, o, h1, by omega, by omega, fun i hi => (hb.cell (p := ⟨q, o + i, none⟩) h2).trans (h4 i hi)⟩
theorem fall_cells {w : World} {b : Nat} {z : Int} {v : Value} {t : TypeId} {fr : Nat × Nat} (h : w.heap[b]? = some (.cells #[.int .i64 z, v] t fr)) : w.cell? ⟨b, 0, none⟩ = some (.int .i64 z) ∧ w.cell? ⟨b, 1, none⟩ = some v :=
  ⟨by rw [cell_of_row _ _ _ _ _ _ h]; rfl, by rw [cell_of_row _ _ _ _ _ _ h]; rfl⟩
/-- two tables one like the other -/
theorem lay_like {w : World} {B g : Nat} {pa : Option Addr} {cap : Nat} {A M : Tab} (h : Lay w B g pa A.k cap 2 (prV A.F A.T)) (hl : Like A M) : Lay w B g pa M.k cap 2 (prV M.F M.T) := by
  obtain ⟨_, h2, h3⟩ := hl
  refine ⟨by rw [← h2]; exact h.room, h.nil, ?_⟩
  rcases h.rows with h0 | ⟨b, off, e, h4, h5, h6⟩
  · exact .inl (by rw [← h2]; exact h0)
  · refine .inr ⟨b, off, e, h4, h5, fun i hi => ?_⟩
    rw [← h2] at hi
    have := h6 i hi
    unfold prV at this ⊢
    rw [← (h3 i hi).1, ← (h3 i hi).2]
    exact this
set_option maxRecDepth 20000 in
/-- tables of unlike numbers aren't the same -/
theorem refsame_ne (gen gen2 : Int) (hne : gen ≠ gen2) (pa pb : Option Addr) (k k2 cap cap2 : Nat) (w : World) :
    Calls Tryd.prog 14 #[.agg #[.int .i64 gen, .slice pa k cap], .agg #[.int .i64 gen2, .slice pb k2 cap2]] w fun e w' => e = .returned (.bool false) ∧ Below w.heap.size w w' := by
  have hb : (gen != gen2) = true := by simpa using hne
  go_enter Tryd.func14, Tryd.ntmps14
  go_wp2_with fail
  go_ret
  exact ⟨rfl, ((Below.refl _ _).alloc (Nat.le_refl _) _).alloc (by simp) _⟩
end Rm
end Go.Proofs.YtllejfnmbpjhaaaDoor
