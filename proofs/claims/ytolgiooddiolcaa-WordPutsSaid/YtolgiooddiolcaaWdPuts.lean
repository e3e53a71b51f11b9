/- Any number is put at any place as the document says, or refused: the law's walk. -/
import Derived.Test.YtolgiooddiolcaaWdAlive
import Derived.Deep.RegionHeld3
import Derived.Deep.DrawnRows
namespace Go.Proofs.Ytolgiooddiolcaa
namespace Wd
open Go.RowKit Byt Go.PlainAid
attribute [local go_sem ↓] Go.wp_at_zero Go.wp_at_succ

set_option maxHeartbeats 1000000 in
theorem puts_any (n : Nat) (ao : Option Addr) (cap : Nat) (xs : List Int) (n0 n1 n2 : Int) (w : World) (hn : n = xs.length) (hl : Lies w w.heap.size ao cap xs) (hx : Byte xs) (hlen : n ≤ 140737488351232) (hz : n2 ≤ 9223372036854775807) :
    Calls Try.prog 3 #[.slice ao n cap, .agg #[.int .i64 n0, .int .i64 n1, .int .i64 n2]] w fun e w' => e = .returned (.bool true) ∧ Below w.heap.size w w' := by
  have HL := Lib.hid hl
  have HN := Lib.hid hn
  clear hl hn
  go_enter Try.func3, Try.ntmps3
  go_wp2_with fail
  refine (alive_any _).mono ?_
  rintro _ w1 ⟨rfl, hb1⟩
  dsimp only
  have hs1 := hb1.size
  simp only [World.size_alloc] at hs1
  have hb0 : Below w.heap.size w w1 := ((Below.refl _ _).alloc (Nat.le_refl _) _).trans (hb1.mono (by simp))
  have c0 : w1.cell? ⟨w.heap.size, 0, none⟩ = some (.int .i64 n0) := (hb1.cell (p := ⟨w.heap.size, 0, none⟩) (by simp)).trans (World.cell?_alloc_new _ _ _ 0)
  have c1 : w1.cell? ⟨w.heap.size, 1, none⟩ = some (.int .i64 n1) := (hb1.cell (p := ⟨w.heap.size, 1, none⟩) (by simp)).trans (World.cell?_alloc_new _ _ _ 1)
  have c2 : w1.cell? ⟨w.heap.size, 2, none⟩ = some (.int .i64 n2) := (hb1.cell (p := ⟨w.heap.size, 2, none⟩) (by simp)).trans (World.cell?_alloc_new _ _ _ 2)
  have HC := Lib.hid (And.intro c0 (And.intro c1 c2))
  clear hb1 c0 c1 c2
  have HL1 : Hid (Lies w1 w1.heap.size ao cap xs) := Lib.hid ((HL.out.below hb0).more (by omega))
  have HB0 := Lib.hid hb0
  clear hb0
  go_wp2_with fail
  refine (copy_n n ao cap xs w1 HN.out HL1.out (by omega)).mono ?_
  rintro _ w2 ⟨ax, cx, rfl, hx2, hb2⟩
  dsimp only
  have hs2 := hb2.size
  have HL2 : Hid (Lies w2 w2.heap.size ao cap xs) := Lib.hid ((HL1.out.below hb2).more hs2)
  have HB2 := Lib.hid hb2
  clear hb2
  go_wp2_with fail
  refine (copy_n n ao cap xs w2 HN.out HL2.out (by omega)).mono ?_
  rintro _ w3 ⟨ay, cy, rfl, hy3, hb3⟩
  dsimp only
  have hs3 := hb3.size
  have HL3 : Hid (Lies w3 w3.heap.size ao cap xs) := Lib.hid ((HL2.out.below hb3).more hs3)
  have HX := Lib.hid (hx2.below hb3)
  have HY := Lib.hid hy3
  have hne : ax.map (·.block) = none ∨ ax.map (·.block) ≠ ay.map (·.block) := by
    cases e : ax.map (·.block) with
    | none => exact .inl rfl
    | some k =>
      refine .inr fun h => ?_
      have h1 := (hx2.lt k e).2
      have h2 := (hy3.lt k h.symm).1
      omega
  have hne' : ay.map (·.block) = none ∨ ay.map (·.block) ≠ ax.map (·.block) := by
    rcases hne with h | h
    · cases e : ay.map (·.block) with
      | none => exact .inl rfl
      | some k => rw [h]; exact .inr (by simp)
    · exact .inr (Ne.symm h)
  have HNE := Lib.hid (And.intro hne hne')
  have HB3 := Lib.hid (HB2.out.trans (hb3.mono hs2))
  clear hb3 hx2 hy3 hne hne' HB2
  have hC : w3.cell? ⟨w.heap.size, 0, none⟩ = some (.int .i64 n0) ∧ w3.cell? ⟨w.heap.size, 1, none⟩ = some (.int .i64 n1) ∧ w3.cell? ⟨w.heap.size, 2, none⟩ = some (.int .i64 n2) :=
    ⟨(HB3.out.cell (p := ⟨w.heap.size, 0, none⟩) (show w.heap.size < w1.heap.size by omega)).trans HC.out.1, (HB3.out.cell (p := ⟨w.heap.size, 1, none⟩) (show w.heap.size < w1.heap.size by omega)).trans HC.out.2.1, (HB3.out.cell (p := ⟨w.heap.size, 2, none⟩) (show w.heap.size < w1.heap.size by omega)).trans HC.out.2.2⟩
  obtain ⟨d0, d1, d2⟩ := hC
  clear HC
  have keep : ∀ (v v' : World) (B : Nat) (bo : Option Addr) (m c : Nat) (f : Nat → Int), v.cell? ⟨w.heap.size, 0, none⟩ = some (.int .i64 n0) ∧ v.cell? ⟨w.heap.size, 1, none⟩ = some (.int .i64 n1) ∧ v.cell? ⟨w.heap.size, 2, none⟩ = some (.int .i64 n2) →
      Own v B bo m c f → Only v v' bo → w.heap.size < B → B ≤ v.heap.size → v'.cell? ⟨w.heap.size, 0, none⟩ = some (.int .i64 n0) ∧ v'.cell? ⟨w.heap.size, 1, none⟩ = some (.int .i64 n1) ∧ v'.cell? ⟨w.heap.size, 2, none⟩ = some (.int .i64 n2) := by
    intro v v' B bo m c f ⟨h0, h1, h2⟩ ho hg hB hs
    exact ⟨(ho.cell hg (p := ⟨w.heap.size, 0, none⟩) hB hs).trans h0, (ho.cell hg (p := ⟨w.heap.size, 1, none⟩) hB hs).trans h1, (ho.cell hg (p := ⟨w.heap.size, 2, none⟩) hB hs).trans h2⟩
  have KEEP := Lib.hid keep
  clear keep
  go_wp2_with fail
  go_region_held3 (fun w' => w'.cell? ⟨w.heap.size, 0, none⟩ = some (.int .i64 n0) ∧ w'.cell? ⟨w.heap.size, 1, none⟩ = some (.int .i64 n1) ∧ w'.cell? ⟨w.heap.size, 2, none⟩ = some (.int .i64 n2))
    (first
      | go_keep
      | exact KEEP.out w4 w5 _ _ _ _ _ (by assumption) hY4 hG5 (by omega) (by omega)
      | exact KEEP.out w3.drew w4 _ _ _ _ _ ⟨d0, d1, d2⟩ (HX.out.same rfl) hG4 (by omega) (by show _ ≤ w3.heap.size; omega))
    (first
      | ((go_at_call 10; refine (put_any _ _ ax n cx _ _ _ _ (by exact HX.out.same rfl) (by omega)).mono ?_; rintro _ w4 ⟨rfl, hG4, hO4⟩; have hs4 := hG4.size; have hY4 : Own w4 w2.heap.size ay n cy _ := (HY.out.same (w' := w3.drew) rfl).other (HX.out.same rfl) hG4 HNE.out.2; simp only [World.size_drew] at hs4))
      | ((go_at_call 11; refine (refput_any _ _ ay n cy _ _ _ _ (by exact hY4) (by omega) hz).mono ?_; rintro _ w5 ⟨rfl, hG5, hO5⟩)))
  have hs5 := hG5.size
  have HX5 := Lib.hid ((hO4.other hY4 hG5 HNE.out.1))
  have HY5 := Lib.hid hO5
  have hb4 := (HX.out.same (w' := w3.drew) rfl).under (HB3.out.drew) hG4 (by show _ ≤ w3.heap.size; omega)
  have HB5 := Lib.hid ((hY4.mono hs2).under hb4 hG5 (by omega))
  have HL5 : Hid (Lies w5 w5.heap.size ao cap xs) := Lib.hid ((HL1.out.below HB5.out).more (by omega))
  have hF : Hid (∀ i, i < n → 0 ≤ putF n n0 n1 n2 (fun i => xs.getD i 0) i ∧ putF n n0 n1 n2 (fun i => xs.getD i 0) i < 256) := Lib.hid fun i hi => by
    unfold putF
    split
    · exact mix_byte (fun i _ => byte_at hx i) (fun i _ => byteAt_bd _ _) i hi
    · exact byte_at hx i
  have hE : (putE n n0 n1 n2 = 0) ∨ (putE n n0 n1 n2 = 1 ∧ putF n n0 n1 n2 (fun i => xs.getD i 0) = fun i => xs.getD i 0) := by
    unfold putE putF
    split
    · exact .inl rfl
    · exact .inr ⟨rfl, rfl⟩
  generalize putE n n0 n1 n2 = E at hE ⊢
  generalize putF n n0 n1 n2 (fun i => xs.getD i 0) = G at hE hF HX5 HY5 ⊢
  clear hG4 hO4 hY4 hG5 hO5 hb4 d0 d1 d2
  have hB : Hid (Byte (tab n G)) := Lib.hid (byte_tab hF.out)
  have hsame := same_any ax ay cx cy w5.heap.size w5.heap.size n n (tab n G) (tab n G) w5 (tab_length n G).symm (tab_length n G).symm HX5.out.lies HY5.out.lies hB.out hB.out
  rw [decide_eq_true rfl] at hsame
  have hb : Below w.heap.size w w5 := HB0.out.trans (HB5.out.mono (by omega))
  clear HX HY HL HL2 HL3 HNE HB3 HB5 HB0 KEEP
  rcases hE with rfl | ⟨rfl, hG⟩
  · go_wp2_with fail
    refine hsame.mono ?_
    rintro _ _ ⟨rfl, rfl⟩
    dsimp only
    go_wp2_with fail
    go_ret
    exact ⟨rfl, hb⟩
  · have hlx : tab n G = xs := by rw [hG, HN.out]; exact tab_of xs
    have hsame2 := same_any ax ao cx cap w5.heap.size w5.heap.size n n (tab n G) xs w5 (tab_length n G).symm HN.out HX5.out.lies HL5.out hB.out hx
    rw [decide_eq_true hlx] at hsame2
    clear hG hlx
    go_wp2_with fail
    refine hsame.mono ?_
    rintro _ _ ⟨rfl, rfl⟩
    dsimp only
    go_wp2_with fail
    refine hsame2.mono ?_
    rintro _ _ ⟨rfl, rfl⟩
    dsimp only
    go_wp2_with fail
    go_ret
    exact ⟨rfl, hb⟩

end Wd
end Go.Proofs.Ytolgiooddiolcaa
