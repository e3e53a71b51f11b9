/- geom: each sector once (numbers). -/
import Derived.Test.YtaocglbibnjjoaaGmPl
namespace Go.Proofs.Ytaocglbibnjjoaa
set_option maxRecDepth 20000
namespace Gm
open Go.RowKit

theorem gA_lay8 (q : Int) : gA (lay q) = #[.int .i64 (4 * q + 316), .int .i64 (2 * q + 148), .int .i64 2, .int .i64 4, .int .i64 28, .int .i64 (2 * q + 120)] := rfl
/-- the sector that a kind, half and number tell -/
def inv (q : Int) (v : Wh) : Int := if v.k = 5 then 4 * q + 296 + v.i else if v.k = 1 then v.h * (2 * q + 148) + v.i else v.h * (2 * q + 148) + (off v.k + v.i)
/-- what is so of a sector of a layout -/
structure Once (q x : Int) (v : Wh) : Prop where
  back : inv q v = x
  kind : 1 ≤ v.k ∧ v.k ≤ 5
  half : 0 ≤ v.h ∧ v.h ≤ 1
  num : 0 ≤ v.i ∧ v.i ≤ 4096
  two : v.k = 2 → rtI (lay q) v.i v.h = x ∧ rtE (lay q) v.i v.h = 0
  three : v.k = 3 → pl (lay q) 3 v.h v.i = x ∧ plE (lay q) 3 v.h v.i = 0
  four : v.k = 4 → pl (lay q) 4 v.h 0 + v.i = x ∧ plE (lay q) 4 v.h 0 = 0 ∧ v.i < 2 * q + 120 ∧ 0 ≤ pl (lay q) 4 v.h 0 ∧ pl (lay q) 4 v.h 0 ≤ 4096
theorem once {q x : Int} (hq : inQ q) (h0 : 0 ≤ x) (h1 : x < 4 * q + 316) : Once q x (wha (lay q) x) := by
  have hq' := hq
  unfold inQ at hq'
  rcases sect hq h0 h1 with hs | ⟨h, i, hh, i0, i1, e⟩
  · rw [wha_spare hq hs h1]
    refine ⟨by simp [inv]; omega, by simp, by simp, ⟨by simp; omega, by simp; omega⟩, fun e => ?_, fun e => ?_, fun e => ?_⟩ <;> simp at e
  · have hv : wha (lay q) x = inHalf h i := by rw [e]; exact wha_half hq hh i0 i1
    by_cases c1 : i < 2
    · rw [hv, ih1 c1]
      exact ⟨e.symm, ⟨by simp, by simp⟩, ⟨by show 0 ≤ h; omega, by show h ≤ 1; omega⟩, ⟨i0, by show i ≤ 4096; omega⟩, fun e => by simp at e, fun e => by simp at e, fun e => by simp at e⟩
    by_cases c2 : i < 4
    · have hv2 : wha (lay q) x = ⟨2, h, i - 2⟩ := by rw [hv, ih2 (by omega) c2]
      obtain ⟨hb, he⟩ := (wha_iff hq (.inl rfl) h0 h1).1 hv2
      obtain ⟨p1, p2⟩ := pl_in hq hb
      have hm : (i - 2).tmod 2 = i - 2 := Int.tmod_eq_of_lt (by omega) (by omega)
      have hn : ¬ i - 2 < 0 := by omega
      rw [hv2]
      refine ⟨?_, ⟨by simp, by simp⟩, ⟨by show 0 ≤ h; omega, by show h ≤ 1; omega⟩, ⟨by show 0 ≤ i - 2; omega, by show i - 2 ≤ 4096; omega⟩, fun _ => ?_, fun e => by simp at e, fun e => by simp at e⟩
      · simp [inv, off]
        omega
      · refine ⟨?_, ?_⟩
        · show (if i - 2 < 0 then 0 else pl (lay q) 2 h ((i - 2).tmod 2)) = x
          rw [if_neg hn, hm, p1, he]
        · show (if i - 2 < 0 then 1 else plE (lay q) 2 h ((i - 2).tmod 2)) = 0
          rw [if_neg hn, hm, p2]
    by_cases c3 : i < 28
    · have hv2 : wha (lay q) x = ⟨3, h, i - 4⟩ := by rw [hv, ih3 (by omega) c3]
      obtain ⟨hb, he⟩ := (wha_iff hq (.inr (.inl rfl)) h0 h1).1 hv2
      obtain ⟨p1, p2⟩ := pl_in hq hb
      rw [hv2]
      refine ⟨?_, ⟨by simp, by simp⟩, ⟨by show 0 ≤ h; omega, by show h ≤ 1; omega⟩, ⟨by show 0 ≤ i - 4; omega, by show i - 4 ≤ 4096; omega⟩, fun e => by simp at e, fun _ => ⟨by rw [he]; exact p1, p2⟩, fun e => by simp at e⟩
      simp [inv, off]
      omega
    · have hv2 : wha (lay q) x = ⟨4, h, i - 28⟩ := by rw [hv, ih4 (by omega)]
      have hb : atB q 4 h 0 := ⟨hh, by omega, show (0 : Int) < 2 * q + 120 by omega⟩
      obtain ⟨p1, p2⟩ := pl_in hq hb
      have p3 : pl (lay q) 4 h 0 = h * (2 * q + 148) + 28 := by rw [p1]; simp [atI, off]
      rw [hv2]
      refine ⟨?_, ⟨by simp, by simp⟩, ⟨by show 0 ≤ h; omega, by show h ≤ 1; omega⟩, ⟨by show 0 ≤ i - 28; omega, by show i - 28 ≤ 4096; omega⟩, fun e => by simp at e, fun e => by simp at e, fun _ => ?_⟩
      · simp [inv, off]
        omega
      · show pl (lay q) 4 h 0 + (i - 28) = x ∧ plE (lay q) 4 h 0 = 0 ∧ i - 28 < 2 * q + 120 ∧ 0 ≤ pl (lay q) 4 h 0 ∧ pl (lay q) 4 h 0 ≤ 4096
        rw [p3]
        rcases hh with rfl | rfl
        · exact ⟨by omega, p2, by omega, by omega, by omega⟩
        · exact ⟨by omega, p2, by omega, by omega, by omega⟩
/-- no two sectors tell the same -/
theorem once_only {q x y : Int} (hq : inQ q) (h0 : 0 ≤ x) (h1 : x < 4 * q + 316) (e : wha (lay q) x = wha (lay q) y) : x = y := by
  have hx := once hq h0 h1
  by_cases hy : 0 ≤ y ∧ y < 4 * q + 316
  · have hy2 := once hq hy.1 hy.2
    rw [← hx.back, ← hy2.back, e]
  · have hz : wha (lay q) y = zW := wha_zero (.inr (by
      by_cases c : y < 0
      · exact .inl c
      · exact .inr (by simp only [lay]; omega)))
    have := hx.kind.1
    rw [e, hz] at this
    simp [zW] at this
end Gm
end Go.Proofs.Ytaocglbibnjjoaa
