/- Any text is taken from, and put at, any place as the document says: the law's walk. -/
import Derived.Test.YtolgiooddiolcaaWdTakes
import Derived.Deep.RegionHeld3
import Derived.Deep.DrawnRows
namespace Go.Proofs.Ytolgiooddiolcaa
namespace Wd
open Go.RowKit Byt Go.PlainAid
attribute [local go_sem ↓] Go.wp_at_zero Go.wp_at_succ

/-- two copies of one slice lie in two blocks -/
theorem own_apart {w2 w3 : World} {B : Nat} {ax ay : Option Addr} {n cx cy : Nat} {f g : Nat → Int} (hx2 : Own w2 B ax n cx f) (hy3 : Own w3 w2.heap.size ay n cy g) :
    (ax.map (·.block) = none ∨ ax.map (·.block) ≠ ay.map (·.block)) ∧ (ay.map (·.block) = none ∨ ay.map (·.block) ≠ ax.map (·.block)) := by
  have hne : ax.map (·.block) = none ∨ ax.map (·.block) ≠ ay.map (·.block) := by
    cases e : ax.map (·.block) with
    | none => exact .inl rfl
    | some k =>
      refine .inr fun h => ?_
      have h1 := (hx2.lt k e).2
      have h2 := (hy3.lt k h.symm).1
      omega
  refine ⟨hne, ?_⟩
  rcases hne with h | h
  · cases e : ay.map (·.block) with
    | none => exact .inl rfl
    | some k => rw [h]; exact .inr (by simp)
  · exact .inr (Ne.symm h)
theorem keep_pair {u : Nat} {p q : Value} {v v' : World} {B : Nat} {bo : Option Addr} {m c : Nat} {f : Nat → Int} (h : v.cell? ⟨u, 0, none⟩ = some p ∧ v.cell? ⟨u, 1, none⟩ = some q) (ho : Own v B bo m c f) (hg : Only v v' bo) (hB : u < B) (hs : B ≤ v.heap.size) :
    v'.cell? ⟨u, 0, none⟩ = some p ∧ v'.cell? ⟨u, 1, none⟩ = some q :=
  ⟨(ho.cell hg (p := ⟨u, 0, none⟩) hB hs).trans h.1, (ho.cell hg (p := ⟨u, 1, none⟩) hB hs).trans h.2⟩

set_option maxHeartbeats 1000000 in
theorem texts_any (n : Nat) (ao : Option Addr) (cap : Nat) (xs : List Int) (a k : Int) (s : ByteArray) (w : World) (hn : n = xs.length) (hl : Lies w w.heap.size ao cap xs) (hx : Byte xs) (hlen : n ≤ 140737488351232) (hs : s.size ≤ 140737488351232) :
    Calls Try.prog 5 #[.slice ao n cap, .agg #[.int .i64 a, .int .i64 k], .string s] w fun e w' => e = .returned (.bool true) ∧ Below w.heap.size w w' := by
  have HL := Lib.hid hl
  have HN := Lib.hid hn
  clear hl hn
  go_enter Try.func5, Try.ntmps5
  go_wp2_with fail
  refine (alive_any _).mono ?_
  rintro _ w1 ⟨rfl, hb1⟩
  dsimp only
  have hs1 := hb1.size
  simp only [World.size_alloc] at hs1
  have hb0 : Below w.heap.size w w1 := ((Below.refl _ _).alloc (Nat.le_refl _) _).trans (hb1.mono (by simp))
  have c0 : w1.cell? ⟨w.heap.size, 0, none⟩ = some (.int .i64 a) := (hb1.cell (p := ⟨w.heap.size, 0, none⟩) (by simp)).trans (World.cell?_alloc_new _ _ _ 0)
  have c1 : w1.cell? ⟨w.heap.size, 1, none⟩ = some (.int .i64 k) := (hb1.cell (p := ⟨w.heap.size, 1, none⟩) (by simp)).trans (World.cell?_alloc_new _ _ _ 1)
  have HC := Lib.hid (And.intro c0 c1)
  clear hb1 c0 c1
  have HL1 : Hid (Lies w1 w1.heap.size ao cap xs) := Lib.hid ((HL.out.below hb0).more (by omega))
  have HB0 := Lib.hid hb0
  clear hb0
  go_wp2_with fail
  refine (copy_n n ao cap xs w1 HN.out HL1.out (by omega)).mono ?_
  rintro _ w2 ⟨ax, cx, rfl, hx2, hb2⟩
  dsimp only
  have hs2 := hb2.size
  have HL2 : Hid (Lies w2 w2.heap.size ao cap xs) := Lib.hid ((HL1.out.below hb2).more hs2)
  have HB2 := Lib.hid hb2
  clear hb2
  go_wp2_with fail
  refine (copy_n n ao cap xs w2 HN.out HL2.out (by omega)).mono ?_
  rintro _ w3 ⟨ay, cy, rfl, hy3, hb3⟩
  dsimp only
  have hs3 := hb3.size
  have HL3 : Hid (Lies w3 w3.heap.size ao cap xs) := Lib.hid ((HL2.out.below hb3).more hs3)
  have HX := Lib.hid (hx2.below hb3)
  have HY := Lib.hid hy3
  have HNE := Lib.hid (own_apart hx2 hy3)
  have HB3 := Lib.hid (HB2.out.trans (hb3.mono hs2))
  clear hb3 hx2 hy3 HB2
  have hC : w3.cell? ⟨w.heap.size, 0, none⟩ = some (.int .i64 a) ∧ w3.cell? ⟨w.heap.size, 1, none⟩ = some (.int .i64 k) :=
    ⟨(HB3.out.cell (p := ⟨w.heap.size, 0, none⟩) (show w.heap.size < w1.heap.size by omega)).trans HC.out.1, (HB3.out.cell (p := ⟨w.heap.size, 1, none⟩) (show w.heap.size < w1.heap.size by omega)).trans HC.out.2⟩
  obtain ⟨d0, d1⟩ := hC
  clear HC
  have hf : ∀ i, i < n → 0 ≤ xs.getD i 0 ∧ xs.getD i 0 < 256 := fun i _ => byte_at hx i
  have ht1 := taketext_any w3 ax n cx (fun i => xs.getD i 0) a k HX.out.reads hf (by omega)
  have ht2 := reftaketext_any w3 ao n cap (fun i => xs.getD i 0) a k (lies_reads HN.out HL3.out) hf (by omega)
  clear hf
  generalize textS n a k (fun i => xs.getD i 0) = S at ht1 ht2
  generalize textE n a k (fun i => xs.getD i 0) = T at ht1 ht2
  go_wp2_with fail
  refine ht1.mono ?_
  rintro _ _ ⟨rfl, rfl⟩
  dsimp only
  go_wp2_with fail
  refine ht2.mono ?_
  rintro _ _ ⟨rfl, rfl⟩
  dsimp only
  clear ht1 ht2
  go_wp2_with fail
  go_region_held3 (fun w' => w'.cell? ⟨w.heap.size, 0, none⟩ = some (.int .i64 a) ∧ w'.cell? ⟨w.heap.size, 1, none⟩ = some (.int .i64 k))
    (first
      | go_keep
      | exact keep_pair (v := w4) (v' := w5) (by assumption) hY4 hG5 (by omega) (by omega)
      | exact keep_pair (v := w3.drew) (v' := w4) ⟨d0, d1⟩ (HX.out.same rfl) hG4 (by omega) (by show _ ≤ w3.heap.size; omega))
    (first
      | ((go_at_call 19; refine (puttext_any _ _ ax n cx _ _ _ _ (by exact HX.out.same rfl) (by omega) (by omega)).mono ?_; rintro _ w4 ⟨rfl, hG4, hO4⟩; have hs4 := hG4.size; have hY4 : Own w4 w2.heap.size ay n cy _ := (HY.out.same (w' := w3.drew) rfl).other (HX.out.same rfl) hG4 HNE.out.2; simp only [World.size_drew] at hs4))
      | ((go_at_call 20; refine (refputtext_any _ _ ay n cy _ _ _ _ (by exact hY4) (by omega) (by omega)).mono ?_; rintro _ w5 ⟨rfl, hG5, hO5⟩)))
  have hs5 := hG5.size
  have HX5 := Lib.hid ((hO4.other hY4 hG5 HNE.out.1))
  have HY5 := Lib.hid hO5
  have hb4 := (HX.out.same (w' := w3.drew) rfl).under (HB3.out.drew) hG4 (by show _ ≤ w3.heap.size; omega)
  have HB5 := Lib.hid ((hY4.mono hs2).under hb4 hG5 (by omega))
  have hF : Hid (∀ i, i < n → 0 ≤ ptF n a k s (fun i => xs.getD i 0) i ∧ ptF n a k s (fun i => xs.getD i 0) i < 256) := Lib.hid fun i hi => by
    unfold ptF
    split
    · rename_i hg
      obtain ⟨⟨_, h2, _⟩, h3⟩ := hg
      exact mix_byte (fun i _ => byte_at hx i) (fun i _ => room_byte s i (by omega)) i hi
    · exact byte_at hx i
  generalize ptE n a k s = E at ⊢
  generalize ptF n a k s (fun i => xs.getD i 0) = G at hF HX5 HY5
  clear hG4 hO4 hY4 hG5 hO5 hb4 d0 d1
  have hB : Hid (Byte (tab n G)) := Lib.hid (byte_tab hF.out)
  have hsame := same_any ax ay cx cy w5.heap.size w5.heap.size n n (tab n G) (tab n G) w5 (tab_length n G).symm (tab_length n G).symm HX5.out.lies HY5.out.lies hB.out hB.out
  rw [decide_eq_true rfl] at hsame
  have hb : Below w.heap.size w w5 := HB0.out.trans (HB5.out.mono (by omega))
  clear HX HY HL HL2 HL3 HNE HB3 HB5 HB0
  go_wp2_with fail
  refine hsame.mono ?_
  rintro _ _ ⟨rfl, rfl⟩
  dsimp only
  go_wp2_with fail
  go_ret
  exact ⟨rfl, hb⟩

end Wd
end Go.Proofs.Ytolgiooddiolcaa
