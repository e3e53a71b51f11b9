/- space: the fixed fact; the law SpaceMakes. -/
import Derived.Test.YtdbmdocmnhgbpaaSpRMk
namespace Go.Proofs.Ytdbmdocmnhgbpaa
set_option maxRecDepth 20000
namespace Sp
open Go.RowKit Dk Eqb Byt

def f0 : Nat → Int := fun _ => 0
def f1 : Nat → Int := tkF 4 10 3 6 f0 2
def f2 : Nat → Int := tkF 4 10 3 6 f1 1
theorem al_new : nwS 4 10 3 4 = 4 ∧ nwS 4 10 3 10 = 10 ∧ nwS 4 10 3 3 = 3 ∧ nwN 4 10 3 = 6 ∧ nwE 4 10 3 = 0 := by decide +kernel
theorem al_t1 : tkp 4 10 3 6 f0 2 = 4 ∧ tkq 4 10 3 6 f0 2 = 10 ∧ tkE 4 10 3 6 f0 2 = 0 := by decide +kernel
theorem al_t2 : tkp 4 10 3 6 f1 1 = 5 ∧ tkq 4 10 3 6 f1 1 = -1 ∧ tkE 4 10 3 6 f1 1 = 0 := by decide +kernel
theorem al_us : usedN 4 10 3 6 f2 = 3 := by decide +kernel

section
attribute [local go_sem] zvSp
set_option maxRecDepth 100000 in
set_option maxHeartbeats 2000000 in
theorem alive7_any (w : World) : Calls Try.prog 9 #[] w fun e w' => e = .returned (.bool true) ∧ Below w.heap.size w w' := by
  have i10 : i64 10 := by unfold i64; omega
  have HN := Lib.hid (New_any 4 10 3 w i10)
  rw [al_new.1, al_new.2.1, al_new.2.2.1, al_new.2.2.2.1, al_new.2.2.2.2] at HN
  go_enter Try.func9, Try.ntmps9
  go_wp2_with fail
  refine HN.out.mono ?_
  rintro _ w1 ⟨ao, cap, rfl, hO, hb1⟩
  dsimp only
  obtain ⟨W, hW⟩ : ∃ W, W = w1.alloc (.cells #[.int .i64 4, .int .i64 10, .int .i64 3, .slice ao 6 cap] 26) := ⟨_, rfl⟩
  have hbW : Below w1.heap.size w1 W := by rw [hW]; exact (Below.refl _ _).alloc (Nat.le_refl _) _
  have hx : Bs W w1.heap.size 4 10 3 ao 6 cap := by rw [hW]; exact heap_alloc_new _ _
  have hs : St W W.heap.size ao 6 cap f0 := (hO.below hbW).st (fun i _ => by omega) (by omega)
  have HT := Lib.hid (Take_any w1.heap.size 4 10 3 2 ao 6 cap f0 W hx i10 hs)
  rw [al_t1.1, al_t1.2.1, al_t1.2.2] at HT
  have HW := Lib.hid hW
  have HB := Lib.hid (hb1.trans (hbW.mono hb1.size))
  have hsz := hb1.size
  have hsW := hbW.size
  clear hW hx hs hO hb1
  go_wp2_with (rw [← HW.out])
  refine HT.out.mono ?_
  rintro _ w2 ⟨rfl, hT⟩
  obtain ⟨⟨ao2, cap2, hx2, hs2⟩, hg2⟩ := hT
  dsimp only
  have HT2 := Lib.hid (Take_any w1.heap.size 4 10 3 1 ao2 6 cap2 f1 w2 hx2 i10 hs2)
  rw [al_t2.1, al_t2.2.1, al_t2.2.2] at HT2
  have HB2 := Lib.hid (HB.out.grown hg2 (by omega) (fun k hk => by injection hk with hk; omega))
  clear hx2 hs2 hg2
  go_wp2_with fail
  refine HT2.out.mono ?_
  rintro _ w3 ⟨rfl, hT⟩
  obtain ⟨⟨ao3, cap3, hx3, hs3⟩, hg3⟩ := hT
  dsimp only
  have HU := Lib.hid (Used_any 4 10 3 ao3 6 cap3 f2 w3 i10 hs3)
  rw [al_us] at HU
  have hs23 := HB2.out.size
  have HB3 := Lib.hid (HB2.out.grown hg3 (by omega) (fun k hk => by injection hk with hk; omega))
  have d0 := hx3.c0
  have d1 := hx3.c1
  have d2 := hx3.c2
  have d3 := hx3.c3
  clear hx3 hs3 hg3
  go_wp2_with fail
  refine HU.out.mono ?_
  rintro _ w4 ⟨rfl, hb4⟩
  dsimp only
  go_wp2_with fail
  go_ret
  exact ⟨rfl, HB3.out.trans (hb4.mono HB3.out.size)⟩

set_option maxRecDepth 100000 in
set_option maxHeartbeats 2000000 in
theorem makes_any (A B Z : Int) (w : World) (_hA : i64 A) (hB : i64 B) (_hZ : i64 Z) : Calls Try.prog 3 #[.int .i64 A, .int .i64 B, .int .i64 Z] w fun e w' => e = .returned (.bool true) ∧ Below w.heap.size w w' := by
  have HA := Lib.hid (alive7_any w)
  have HN1 := Lib.hid (fun w => New_any A B Z w hB)
  have HN2 := Lib.hid (fun w => refNew_any A B Z w)
  have hnn : nwN A B Z ≤ 4000 := by
    unfold nwN
    split
    · rename_i h
      have := apartB_iff.1 h
      omega
    · omega
  generalize nwN A B Z = n at *
  generalize nwS A B Z A = a at *
  generalize nwS A B Z B = b at *
  generalize nwS A B Z Z = c at *
  generalize nwE A B Z = e0 at *
  go_enter Try.func3, Try.ntmps3
  go_wp2_with fail
  refine HA.out.mono ?_
  rintro _ w1 ⟨rfl, hb1⟩
  dsimp only
  go_wp2_with fail
  refine (HN1.out w1).mono ?_
  rintro _ w2 ⟨ao, cap, rfl, hO, hb2⟩
  dsimp only
  obtain ⟨W, hW⟩ : ∃ W, W = w2.alloc (.cells #[.int .i64 a, .int .i64 b, .int .i64 c, .slice ao n cap] 26) := ⟨_, rfl⟩
  have hbW : Below w2.heap.size w2 W := by rw [hW]; exact (Below.refl _ _).alloc (Nat.le_refl _) _
  have hx : Bs W w2.heap.size a b c ao n cap := by rw [hW]; exact heap_alloc_new _ _
  have HO := Lib.hid (hO.below hbW)
  have HW := Lib.hid hW
  have HX := Lib.hid hx
  have hsz2 := hb2.size
  have HB := Lib.hid (hb1.trans ((hb2.trans (hbW.mono hb2.size)).mono hb1.size))
  have hsW := hbW.size
  have hlt := hx.lt
  clear hW hx hO hb1 hb2 hbW
  go_wp2_with (rw [← HW.out])
  refine (HN2.out W).mono ?_
  rintro _ w3 ⟨ao3, cap3, rfl, hO3, hb3⟩
  dsimp only
  obtain ⟨W3, hW3⟩ : ∃ W3, W3 = w3.alloc (.cells #[.int .i64 a, .int .i64 b, .int .i64 c, .slice ao3 n cap3] 26) := ⟨_, rfl⟩
  have hbW3 : Below w3.heap.size w3 W3 := by rw [hW3]; exact (Below.refl _ _).alloc (Nat.le_refl _) _
  have hx3 : Bs W3 w3.heap.size a b c ao3 n cap3 := by rw [hW3]; exact heap_alloc_new _ _
  have hB3 := hb3.trans (hbW3.mono hb3.size)
  have y := HX.out.below hB3 hlt
  have HS := Lib.hid (Same_any a b c ao ao3 n cap cap3 (fun _ => 0) (fun _ => 0) W3 ((HO.out.below hB3).st (fun _ _ => by omega) (by omega)) ((hO3.below hbW3).st (fun _ _ => by omega) (by omega)) (fun _ _ => rfl))
  have HB4 := Lib.hid (HB.out.trans (hB3.mono HB.out.size))
  have HW3 := Lib.hid hW3
  have c0 := y.c0
  have c1 := y.c1
  have c2 := y.c2
  have c3 := y.c3
  have e0' := hx3.c0
  have e1 := hx3.c1
  have e2 := hx3.c2
  have e3 := hx3.c3
  clear hW3 hx3 y hO3 hb3 hbW3 hB3
  go_wp2_with (rw [← HW3.out])
  refine HS.out.mono ?_
  rintro _ w5 ⟨rfl, hb5⟩
  dsimp only
  go_wp2_with fail
  go_ret
  exact ⟨rfl, HB4.out.trans (hb5.mono HB4.out.size)⟩
end
end Sp
end Go.Proofs.Ytdbmdocmnhgbpaa
