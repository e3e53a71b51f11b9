/- a pointer that is put is taken as it was (out of PtBackM). -/
import Derived.Test.YtnmljjehkdbbjaaInC
import Derived.Test.YtnmljjehkdbbjaaPtRefTake
namespace Go.Proofs.Ytnmljjehkdbbjaa
set_option maxRecDepth 20000
namespace Pt
open Go.RowKit Dk Eqb Byt

theorem pow8_32 : (2 : Int) ^ (8 * (4 : Int).toNat) = 4294967296 := by decide
theorem put_take4 (n : Nat) (a z : Int) (f : Nat → Int) (h : Wd.putGood n a 4 z) : Wd.takeN n a 4 (Wd.putF n a 4 z f) = z := by
  have hg := h
  obtain ⟨h1, h2, h3, h4, h5, h6⟩ := h
  have hr : Wd.rightAt n a 4 8 := ⟨h1, by omega, h3, h4⟩
  rw [pow8_32] at h6
  have hlt : z < 4294967296 := by omega
  have e : Wd.takeS a 4 (Wd.putF n a 4 z f) = z := by
    unfold Wd.takeS Wd.putF
    rw [if_pos hg, Wd.sumLE_congr (g := Wd.byteAt z) (fun i hi => by rw [mix_in (by omega) (by omega), Nat.add_sub_cancel_left]), Wd.sumLE_byteAt, pow8_32]
    omega
  unfold Wd.takeN
  rw [e, if_pos hr, if_pos (by omega)]
theorem takeN_congr {n : Nat} {a : Int} {f g : Nat → Int} (h : ∀ i, i < 4 → f (a.toNat + i) = g (a.toNat + i)) : Wd.takeN n a 4 f = Wd.takeN n a 4 g := by
  have e : Wd.takeS a 4 f = Wd.takeS a 4 g := Wd.sumLE_congr fun i hi => h i hi
  unfold Wd.takeN
  rw [e]
theorem side_good {n : Nat} {a z : Int} (h0 : 0 ≤ a) (h1 : a ≤ n - 4) (hz : z = -1 ∨ (0 ≤ z ∧ z < 4096)) : Wd.putGood n a 4 (side z) := by
  refine ⟨by omega, by omega, h0, h1, ?_⟩
  rw [pow8_32]
  unfold side noneN
  split <;> omega
theorem side_take {n : Nat} {a z : Int} {f : Nat → Int} (hz : z = -1 ∨ (0 ≤ z ∧ z < 4096)) (h : Wd.takeN n a 4 f = side z) : sideT n a f = z := by
  unfold sideT
  rw [h]
  unfold side noneN
  split
  · rw [if_pos rfl]; omega
  · rw [if_neg (by omega)]
theorem pV_eq {p q : Pn} (h0 : p.A = q.A) (h1 : p.B = q.B) (h2 : ∀ j, j < 32 → p.S j = q.S j) : pV p = pV q := by
  unfold pV
  rw [h0, h1]
  congr 2
  refine List.map_congr_left fun j hj => ?_
  rw [h2 j (by simpa using hj)]
theorem pV_inj {p q : Pn} (h : pV p = pV q) : p.A = q.A ∧ p.B = q.B ∧ ∀ j, j < 32 → p.S j = q.S j := by
  refine ⟨?_, ?_, fun j hj => ?_⟩
  · have := congrArg (fun l => l[0]?) h
    simpa [pV] using this
  · have := congrArg (fun l => l[1]?) h
    simpa [pV] using this
  · have := congrArg (fun l => l[2 + j]?) h
    simp only [pV_sum p hj, pV_sum q hj] at this
    simpa using this
theorem isHole_congr {p q : Pn} (h : pV p = pV q) : isHole p = isHole q := by
  obtain ⟨h0, h1, h2⟩ := pV_inj h
  have e : isHole p = true ↔ isHole q = true := by
    unfold isHole
    rw [eqP_iff, eqP_iff, h0, h1]
    constructor
    · exact fun ⟨a, b, c⟩ => ⟨a, b, fun i hi => by rw [← h2 i hi]; exact c i hi⟩
    · exact fun ⟨a, b, c⟩ => ⟨a, b, fun i hi => by rw [h2 i hi]; exact c i hi⟩
  cases hp : isHole p <;> cases hq : isHole q <;> simp_all
theorem right_congr {p q : Pn} (h : pV p = pV q) : rightB p = rightB q := by
  obtain ⟨h0, h1, _⟩ := pV_inj h
  unfold rightB
  rw [isHole_congr h, h0, h1]
theorem eqP_congr {p q : Pn} (h : pV p = pV q) : eqP p q = true := by
  obtain ⟨h0, h1, h2⟩ := pV_inj h
  exact eqP_iff.2 ⟨h0, h1, h2⟩

theorem ppF_out {n : Nat} {a : Int} {p : Pn} {f : Nat → Int} {i : Nat} (hi : (i : Int) < a ∨ a + 40 ≤ i) : ppF n a p f i = f i := by
  unfold ppF
  split
  · rename_i h
    unfold ppG at h
    simp only [Bool.and_eq_true, within_iff] at h
    rw [mix_out (by omega)]
    have hA : ∀ (x z : Int) (g : Nat → Int), a ≤ x → x + 4 ≤ a + 8 → Wd.putF n x 4 z g i = g i := fun x z g h0 h1 => by
      unfold Wd.putF
      split
      · exact mix_out (by omega)
      · rfl
    rw [hA _ _ _ (by omega) (by omega), hA _ _ _ (by omega) (by omega)]
  · rfl
theorem tkP_congr {n : Nat} {a : Int} {f g : Nat → Int} (ha : 0 ≤ a) (h : ∀ i : Nat, a ≤ i → (i : Int) < a + 40 → f i = g i) : pV (tkP n a f) = pV (tkP n a g) := by
  unfold tkP
  refine pV_eq ?_ ?_ fun j hj => ?_
  · show sideT n a f = sideT n a g
    unfold sideT
    rw [takeN_congr (f := f) (g := g) fun i hi => h _ (by omega) (by omega)]
  · show sideT n (a + 4) f = sideT n (a + 4) g
    unfold sideT
    rw [takeN_congr (f := f) (g := g) fun i hi => h _ (by omega) (by omega)]
  · exact h _ (by omega) (by omega)
/-- what is put is taken -/
theorem tk_pp {n : Nat} {a : Int} {p : Pn} (f : Nat → Int) (h : ppG n a p = true) : pV (tkP n a (ppF n a p f)) = pV p := by
  have hg := h
  unfold ppG at h
  simp only [Bool.and_eq_true, within_iff] at h
  obtain ⟨hr, h0, h1⟩ := h
  obtain ⟨hA, hB⟩ := right_bd hr
  have gA : Wd.putGood n a 4 (side p.A) := side_good h0 (by omega) hA
  have gB : Wd.putGood n (a + 4) 4 (side p.B) := side_good (by omega) (by omega) hB
  have hF : ppF n a p f = mix (Wd.putF n (a + 4) 4 (side p.B) (Wd.putF n a 4 (side p.A) f)) (a + 8).toNat 32 p.S := by unfold ppF; rw [if_pos hg]
  rw [hF]
  refine pV_eq ?_ ?_ fun j hj => ?_
  · show sideT n a _ = p.A
    refine side_take hA ?_
    rw [takeN_congr (g := Wd.putF n a 4 (side p.A) f) fun i hi => ?_, put_take4 n a _ _ gA]
    rw [mix_out (by omega)]
    unfold Wd.putF
    rw [if_pos gB]
    exact mix_out (by omega)
  · show sideT n (a + 4) _ = p.B
    refine side_take hB ?_
    rw [takeN_congr (g := Wd.putF n (a + 4) 4 (side p.B) (Wd.putF n a 4 (side p.A) f)) fun i hi => ?_, put_take4 n (a + 4) _ _ gB]
    exact mix_out (by omega)
  · show mix _ (a + 8).toNat 32 p.S ((a + 8).toNat + j) = p.S j
    rw [mix_in (by omega) (by omega), Nat.add_sub_cancel_left]
theorem tk_pp_yes {n : Nat} {a : Int} {p : Pn} (f : Nat → Int) (h : ppG n a p = true) : pV (tkV n a (ppF n a p f)) = pV p ∧ tkE n a (ppF n a p f) = 0 := by
  have e := tk_pp f h
  have hr : rightB (tkP n a (ppF n a p f)) = true := by
    rw [right_congr e]
    unfold ppG at h
    simp only [Bool.and_eq_true] at h
    exact h.1
  have hw : withinB n a = true := by
    unfold ppG at h
    simp only [Bool.and_eq_true] at h
    exact h.2
  unfold tkV tkE
  rw [if_pos hw, if_pos hr, if_pos hw, if_pos hr]
  exact ⟨e, rfl⟩
end Pt
end Go.Proofs.Ytnmljjehkdbbjaa
