/- The number at any place is the document's, or its error: the law's walk. -/
import Derived.Test.YtolgiooddiolcaaWdAlive
import Derived.Test.YtolgiooddiolcaaWdAny2
namespace Go.Proofs.Ytolgiooddiolcaa
namespace Wd
open Go.RowKit Byt Go.PlainAid

theorem lies_reads {w : World} {B : Nat} {ao : Option Addr} {n cap : Nat} {xs : List Int} (hn : n = xs.length) (h : Lies w B ao cap xs) : Reads w ao n cap (fun i => xs.getD i 0) := by
  subst hn
  refine ⟨h.room, h.nil, ?_⟩
  by_cases hx : xs = []
  · subst hx; exact .inl rfl
  · obtain ⟨b, off, e, _, hc⟩ := h.cells hx
    exact .inr ⟨b, off, e, hc⟩

set_option maxHeartbeats 1000000 in
theorem takes_any (n : Nat) (ao : Option Addr) (cap : Nat) (xs : List Int) (a k : Int) (w : World) (hn : n = xs.length) (hl : Lies w w.heap.size ao cap xs) (hx : Byte xs) (hlen : n ≤ 140737488351232) :
    Calls Try.prog 4 #[.slice ao n cap, .int .i64 a, .int .i64 k] w fun e w' => e = .returned (.bool true) ∧ Below w.heap.size w w' := by
  have HL := Lib.hid hl
  have HN := Lib.hid hn
  clear hl hn
  go_enter Try.func4, Try.ntmps4
  go_wp2_with fail
  refine (alive_any _).mono ?_
  rintro _ w1 ⟨rfl, hb1⟩
  dsimp only
  have hs1 := hb1.size
  have HL1 : Hid (Lies w1 w1.heap.size ao cap xs) := Lib.hid ((HL.out.below hb1).more hs1)
  go_wp2_with fail
  refine (copy_n n ao cap xs w1 HN.out HL1.out (by omega)).mono ?_
  rintro _ w2 ⟨ax, cx, rfl, hx2, hb2⟩
  dsimp only
  have hs2 := hb2.size
  have hf : ∀ i, i < n → 0 ≤ xs.getD i 0 ∧ xs.getD i 0 < 256 := fun i _ => byte_at hx i
  have hl2 : Lies w2 w2.heap.size ao cap xs := (HL1.out.below hb2).more hs2
  have hb := hb1.trans (hb2.mono hs1)
  obtain ⟨F, hF⟩ : ∃ F : Nat → Int, F = fun i => xs.getD i 0 := ⟨_, rfl⟩
  have hr2 := lies_reads HN.out hl2
  rw [← hF] at hx2 hr2
  have hf' : ∀ i, i < n → 0 ≤ F i ∧ F i < 256 := by rw [hF]; exact hf
  have ht1 := take_any w2 ax n cx F a k hx2.reads hf' (by omega)
  have ht2 := reftake_any w2 ao n cap F a k hr2 hf' (by omega)
  have hz1 := zero_any ax n cx F w2 hx2.reads (by omega)
  have hz2 := WdRef.zero_any ao n cap F w2 hr2 (by omega)
  have htab : tab n F = xs := by rw [hF, HN.out]; exact tab_of xs
  have hlx := hx2.lies
  rw [htab] at hlx
  have hsm := same_any ax ao cx cap w2.heap.size w2.heap.size n n xs xs w2 HN.out HN.out hlx hl2 hx hx
  rw [decide_eq_true rfl] at hsm
  clear hF hx2 hr2 hf hf' htab hlx hl2 hb1 hb2 HL HL1
  generalize takeN n a k F = N at ht1 ht2
  generalize takeE n a k F = E at ht1 ht2
  generalize zeroB F n = z at hz1 hz2
  go_wp2_with fail
  refine ht1.mono ?_
  rintro _ _ ⟨rfl, rfl⟩
  dsimp only
  go_wp2_with fail
  refine ht2.mono ?_
  rintro _ _ ⟨rfl, rfl⟩
  dsimp only
  go_wp2_with fail
  refine hz1.mono ?_
  rintro _ _ ⟨rfl, rfl⟩
  dsimp only
  go_wp2_with fail
  refine hz2.mono ?_
  rintro _ _ ⟨rfl, rfl⟩
  dsimp only
  go_wp2_with fail
  refine hsm.mono ?_
  rintro _ _ ⟨rfl, rfl⟩
  dsimp only
  go_wp2_with fail
  go_ret
  exact ⟨rfl, hb⟩

end Wd
end Go.Proofs.Ytolgiooddiolcaa
