/- EntryChanges. -/
import Derived.Test.YtdilbicdaljfkaaEnRo
import Derived.Test.YtdilbicdaljfkaaEnL
namespace Go.Proofs.Ytdilbicdaljfkaa
set_option maxRecDepth 20000
namespace En
open Go.RowKit Sha

theorem own_other {w : World} {base : Nat} {v : Value} {l : List E} (h : OwnE w base v l) (p : Addr) (x : Value) (hp : p.block < base) : OwnE (w.setCell p x) base v l :=
  World.ownsRow.kept h (row := some p.block) ⟨rfl, rfl, rfl, by simp [World.setCell], fun i hi hne => by
    simp only [World.setCell, Array.getElem?_modify]
    rw [if_neg (fun e => hne (by rw [e]))]⟩ (.inr fun e => by
      have := (World.ownsRow.lt h _ e).1
      omega)

set_option maxHeartbeats 8000000 in
theorem entrychanges_any (l : List E) (x0 : E) (ao : Option Addr) (cap : Nat) (w : World) (h : LiesE w w.heap.size ao cap l) (hn : l.length * 24 ≤ 140737488355328) (hs : ∀ x ∈ l, x.1.length ≤ 140737488355328) (hxl : x0.1.length ≤ 140737488355328) :
    Calls Try.prog 6 #[.slice ao l.length cap, .agg (eV x0).toArray] w fun e w' => e = .returned (.bool true) ∧ Below w.heap.size w w' := by
  obtain ⟨x, n⟩ := x0
  show Calls Try.prog 6 #[.slice ao l.length cap, .agg #[.string ⟨x.toArray⟩, .int .i64 n]] w _
  obtain ⟨W, hW⟩ : ∃ W, W = w.alloc (.cells #[.string ⟨x.toArray⟩, .int .i64 n] 44) := ⟨_, rfl⟩
  have hb0 : Below w.heap.size w W := by rw [hW]; exact (Below.refl _ _).alloc (Nat.le_refl _) _
  have hs0 : W.heap.size = w.heap.size + 1 := by rw [hW]; simp
  have hws : w.heap.size ≤ W.heap.size := by omega
  have x0 : W.cell? ⟨w.heap.size, 0, none⟩ = some (.string ⟨x.toArray⟩) := by rw [hW, cell_of_row _ _ _ _ _ _ (heap_alloc_new w _)]; rfl
  have x1 : W.cell? ⟨w.heap.size, 1, none⟩ = some (.int .i64 n) := by rw [hW, cell_of_row _ _ _ _ _ _ (heap_alloc_new w _)]; rfl
  have hl0 := h.to hb0 hws
  have HX := Lib.hid (fun W2 (hb : Below W.heap.size W W2) => And.intro ((hb.cell (p := ⟨w.heap.size, 0, none⟩) (show w.heap.size < W.heap.size by omega)).trans x0) ((hb.cell (p := ⟨w.heap.size, 1, none⟩) (show w.heap.size < W.heap.size by omega)).trans x1))
  have HL := Lib.hid (fun W2 (hb : Below W.heap.size W W2) => hl0.to hb hb.size)
  have HB := Lib.hid (fun W2 (hb : Below W.heap.size W W2) => hb0.trans (hb.mono hws))
  have HA := Lib.hid (alive_any W)
  have HC := Lib.hid (fun W2 (hb : Below W.heap.size W W2) => copyE_any l ao cap W2 (HL.out W2 hb) hn)
  have HW1 : Hid (∀ bo c W2, LiesE W2 W2.heap.size bo c l → Calls Try.prog 24 #[.slice bo l.length c, .agg #[.string ⟨x.toArray⟩, .int .i64 n]] W2 fun e w' => ∃ v, e = .returned (.tuple #[v, .int .i64 (wE l (x, n))]) ∧ OwnE w' W2.heap.size v (wV l (x, n)) ∧ Below W2.heap.size W2 w') := Lib.hid fun bo c W2 h2 => with_any l (x, n) bo c W2 h2
  have HW2 : Hid (∀ W2, Below W.heap.size W W2 → Calls Try.prog 25 #[.slice ao l.length cap, .agg #[.string ⟨x.toArray⟩, .int .i64 n]] W2 fun e w' => ∃ v, e = .returned (.tuple #[v, .int .i64 (wE l (x, n))]) ∧ OwnE w' W2.heap.size v (wV l (x, n)) ∧ Below W2.heap.size W2 w') := Lib.hid fun W2 hb => refwith_any l (x, n) ao cap W2 (HL.out W2 hb) (by omega) hs hxl
  have HO1 := Lib.hid (fun bo c W2 (h2 : LiesE W2 W2.heap.size bo c l) => without_any l x bo c W2 h2)
  have HO2 := Lib.hid (fun W2 (hb : Below W.heap.size W W2) => refwithout_any l x ao cap W2 (HL.out W2 hb) (by omega) hs)
  have hAl : (wV l (x, n)).length ≤ l.length + 1 := by
    unfold wV
    split
    · rw [ins_len]; exact Nat.le_refl _
    · simp
  have hCl : (oV l x).length ≤ l.length := by
    unfold oV
    split
    · exact List.length_filter_le _ _
    · simp
  generalize wV l (x, n) = A at HW1 HW2 hAl
  generalize wE l (x, n) = c1 at HW1 HW2
  generalize oV l x = C at HO1 HO2 hCl
  generalize oE l x = c2 at HO1 HO2
  have HSE := Lib.hid (fun (m : List E) (hm : m.length ≤ 140737488355328) po pc qo qc W2 (hp : LiesE W2 W2.heap.size po pc m) (hq : LiesE W2 W2.heap.size qo qc m) => sameE_any m m po qo pc qc W2 hp hq hm hm)
  simp only [decide_true] at HSE
  clear h hl0 x0 x1 hb0 hs hxl
  go_enter Try.func6, Try.ntmps6
  go_wp2_with fail
  rw [← hW]
  clear hW
  refine HA.out.mono ?_
  rintro _ w1 ⟨rfl, hb1⟩
  go_wp2_with fail
  refine (HC.out w1 hb1).mono ?_
  rintro _ w2 ⟨v2, rfl, hO2, hb2⟩
  obtain ⟨oo, oc, rfl, hOL, _⟩ := hO2.slice
  have hB2 := hb1.trans (hb2.mono hb1.size)
  obtain ⟨y0, y1⟩ := HX.out w2 hB2
  clear hO2 hb2 hb1 HA HC
  go_wp2_with fail
  refine (HW1.out oo oc w2 hOL).mono ?_
  rintro _ w3 ⟨v3, rfl, hO3, hb3⟩
  obtain ⟨aa, ac, rfl, hAA, haa⟩ := hO3.slice
  have hB3 := hB2.trans (hb3.mono hB2.size)
  have hb23 := hb3
  obtain ⟨y0, y1⟩ := HX.out w3 hB3
  go_wp2_with fail
  refine (HW2.out w3 hB3).mono ?_
  rintro _ w4 ⟨v4, rfl, hO4, hb4⟩
  obtain ⟨ba, bc, rfl, hBA, _⟩ := hO4.slice
  have hB4 := hB3.trans (hb4.mono hB3.size)
  have hb24 := hb23.trans (hb4.mono hb23.size)
  have hAA4 := hAA.to hb4 hb4.size
  have hO34 := hO3.below hb4 (Nat.le_refl _)
  have hOL4 := hOL.to hb24 hb24.size
  obtain ⟨y0, y1⟩ := HX.out w4 hB4
  have hs3 := hb23.size
  have hs4 := hb4.size
  have halt : ∀ g, aa = some g → g.block < w4.heap.size := fun g hg => by
    subst hg
    have := (World.ownsRow.lt hO34 g.block rfl).2
    exact this
  clear hO4 hb4 hb3 hAA hO3
  go_wp2_with fail
  refine (HO1.out oo oc w4 hOL4).mono ?_
  rintro _ w5 ⟨v5, rfl, hO5, hb5⟩
  obtain ⟨ca, cc, rfl, hCA, hca⟩ := hO5.slice
  have hB5 := hB4.trans (hb5.mono hB4.size)
  have hAA5 := hAA4.to hb5 hb5.size
  have hBA5 := hBA.to hb5 hb5.size
  have hO35 := hO34.below hb5 (Nat.le_refl _)
  obtain ⟨y0, y1⟩ := HX.out w5 hB5
  have hs5 := hb5.size
  have hb25 := hb24.trans (hb5.mono (by omega))
  clear hAA4 hBA hO34 hOL4 hb5 hb24
  go_wp2_with fail
  refine (HO2.out w5 hB5).mono ?_
  rintro _ w6 ⟨v6, rfl, hO6, hb6⟩
  obtain ⟨da, dc, rfl, hDA, _⟩ := hO6.slice
  have hB6 := hB5.trans (hb6.mono hB5.size)
  have hAA6 := hAA5.to hb6 hb6.size
  have hBA6 := hBA5.to hb6 hb6.size
  have hCA6 := hCA.to hb6 hb6.size
  have hO36 := hO35.below hb6 (Nat.le_refl _)
  have hO56 := hO5.below hb6 (Nat.le_refl _)
  have hs6 := hb6.size
  have hb26 := hb25.trans (hb6.mono (by omega))
  clear hAA5 hBA5 hCA hO35 hO5 hO6 hb6 hb25
  go_wp2_with fail
  refine (HSE.out A (by omega) aa ac ba bc w6 hAA6 hBA6).mono ?_
  rintro _ w7 ⟨rfl, hb7⟩
  have hB7 := hB6.trans (hb7.mono hB6.size)
  have hCA7 := hCA6.to hb7 hb7.size
  have hDA7 := hDA.to hb7 hb7.size
  have hO37 := hO36.below hb7 (Nat.le_refl _)
  have hO57 := hO56.below hb7 (Nat.le_refl _)
  have hs7 := hb7.size
  have hb27 := hb26.trans (hb7.mono (by omega))
  clear hAA6 hBA6 hCA6 hDA hO36 hO56 hb7 hb26
  go_wp2_with fail
  refine (HSE.out C (by omega) ca cc da dc w7 hCA7 hDA7).mono ?_
  rintro _ w8 ⟨rfl, hb8⟩
  have hB8 := hB7.trans (hb8.mono hB7.size)
  have hO38 := Lib.hid (hO37.below hb8 (Nat.le_refl _))
  have hO58 := Lib.hid (hO57.below hb8 (Nat.le_refl _))
  have hb28 := hb27.trans (hb8.mono (by omega))
  have hs2 := hB2.size
  clear hCA7 hDA7 hO37 hO57 hb8 hb27 HW1 HW2 HO1 HO2
  have HOL := Lib.hid hOL
  have HE := Lib.hid (fun W2 (hb : Below w2.heap.size w2 W2) => HB.out W2 (hB2.trans (hb.mono hs2)))
  have HLL := Lib.hid (fun W2 (hb : Below w2.heap.size w2 W2) => HL.out W2 (hB2.trans (hb.mono hs2)))
  clear hOL HB HL HX hB2 hB3 hB4 hB5 hB6 hB7 hB8 hb23 y0 y1
  go_wp2
  go_loopw [15] (fun i wr => ∃ k : Nat, k ≤ A.length ∧ i = .int .i64 k ∧ Hid ((∃ m : List E, m.length = A.length ∧ OwnE wr w2.heap.size (.slice aa A.length ac) m) ∧ OwnE wr w4.heap.size (.slice ca C.length cc) C) ∧ Below w2.heap.size w2 wr) (fun i _ => A.length - (intOf i).toNat)
  case atStart => exact ⟨0, Nat.zero_le _, rfl, Lib.hid ⟨⟨A, rfl, hO38.out⟩, hO58.out⟩, hb28⟩
  case round =>
    clear hO38 hO58 hb28
    obtain ⟨k, hk, rfl, HO, hb⟩ := hrel
    have hbs := hb.size
    by_cases hlt : k < A.length
    · obtain ⟨⟨m, hml, hOm⟩, hOc⟩ := HO.out
      rw [← hml] at hOm
      obtain ⟨ao', cp', e, hlm, _⟩ := hOm.slice
      injection e with e1 _ e2
      subst e1 e2
      obtain ⟨g, off, rfl, hbb, c0, c1⟩ := hlm.get (show k < m.length by omega)
      obtain ⟨hg1, rfl, _⟩ := haa _ rfl
      have hg2 := halt _ rfl
      have HS := Lib.hid (ecs_set1 (wrap64 (m[k].2 + 1)) (List.getElem?_eq_getElem (show k < m.length by omega)))
      have f0 := World.ownsRow.frozenAt hOm (k * 2 + 1)
      have HO3 := Lib.hid (own_set hOm HS.out (by simp))
      have HO4 := Lib.hid (own_other hOc ⟨g, k * 2 + 1, none⟩ (.int .i64 (wrap64 (m[k].2 + 1))) hg2)
      have hml2 : (m.set k (m[k].1, wrap64 (m[k].2 + 1))).length = A.length := by simp [hml]
      rw [Nat.zero_add] at c0 c1
      simp only at hg1
      clear hlm HS hOm hOc HO HSE HOL HLL HE
      generalize m.set k (m[k].1, wrap64 (m[k].2 + 1)) = m2 at HO3 hml2
      generalize m[k].2 = z at c1 HO3 HO4
      rw [hml] at HO3
      clear c0
      go_wp2
      go_roundw
      case rel => exact ⟨k + 1, by omega, by go_num, Lib.hid ⟨⟨m2, hml2, HO3.out⟩, HO4.out⟩, set_below hb hg1 _⟩
      case measure => simp [intOf]; omega
    · obtain ⟨_, hOc⟩ := HO.out
      have HO5 := Lib.hid hOc
      clear HO hOc
      go_wp2
      go_loopw [16] (fun i wr => ∃ k : Nat, k ≤ C.length ∧ i = .int .i64 k ∧ Hid (∃ m : List E, m.length = C.length ∧ OwnE wr w4.heap.size (.slice ca C.length cc) m) ∧ Below w2.heap.size w2 wr) (fun i _ => C.length - (intOf i).toNat)
      case atStart => exact ⟨0, Nat.zero_le _, rfl, Lib.hid ⟨C, rfl, HO5.out⟩, hb⟩
      case round =>
        clear HO5 hb hbs
        obtain ⟨k, hk, rfl, HO, hb⟩ := hrel
        have hbs := hb.size
        by_cases hlt : k < C.length
        · obtain ⟨m, hml, hOm⟩ := HO.out
          rw [← hml] at hOm
          obtain ⟨ao', cp', e, hlm, _⟩ := hOm.slice
          injection e with e1 _ e2
          subst e1 e2
          obtain ⟨g, off, rfl, hbb, c0, c1⟩ := hlm.get (show k < m.length by omega)
          obtain ⟨hg1, rfl, _⟩ := hca _ rfl
          have HS := Lib.hid (ecs_set1 (wrap64 (m[k].2 + 1)) (List.getElem?_eq_getElem (show k < m.length by omega)))
          have f0 := World.ownsRow.frozenAt hOm (k * 2 + 1)
          have HO3 := Lib.hid (own_set hOm HS.out (by simp))
          have hml2 : (m.set k (m[k].1, wrap64 (m[k].2 + 1))).length = C.length := by simp [hml]
          rw [Nat.zero_add] at c0 c1
          simp only at hg1
          clear hlm HS hOm HO HSE HOL HLL HE
          generalize m.set k (m[k].1, wrap64 (m[k].2 + 1)) = m2 at HO3 hml2
          generalize m[k].2 = z at c1 HO3
          rw [hml] at HO3
          clear c0
          have hg3 : w2.heap.size ≤ g := by omega
          go_wp2
          go_roundw
          case rel => exact ⟨k + 1, by omega, by go_num, Lib.hid ⟨m2, hml2, HO3.out⟩, set_below hb hg3 _⟩
          case measure => simp [intOf]; omega
        · have hOL9 := HOL.out.to hb hbs
          have hLL9 := HLL.out _ hb
          clear HO HOL HLL
          go_wp2_with (go_at_call 13; refine (HSE.out l (by omega) oo oc ao cap _ hOL9 hLL9).mono ?_; rintro _ w9 ⟨rfl, hb9⟩)
          go_ret
          exact ⟨rfl, HE.out _ (hb.trans (hb9.mono hbs))⟩
end En
end Go.Proofs.Ytdilbicdaljfkaa
