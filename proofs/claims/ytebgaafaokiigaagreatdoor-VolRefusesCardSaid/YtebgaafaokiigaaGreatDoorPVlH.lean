import Derived.Test.YtebgaafaokiigaaGreatDoorPVlG
/- vol: the reference's Same (made by tools/gen_vlsame.py). -/
namespace Go.Proofs.YtebgaafaokiigaaGreatDoor
set_option maxRecDepth 20000
namespace Vl
open Go.RowKit Dk Gm Eqb Byt Rm

set_option maxRecDepth 100000 in
set_option maxHeartbeats 4000000 in
theorem Same_any (n m : Nat) (S : Nat → Sec) (C : Nat → Wr) (fu : Int) (d : Bool) (gen : Int) (k : Nat) (F T : Nat → Int) (A B Z : Int) (kk : Nat) (f : Nat → Int) (sa : Option Addr) (sc : Nat) (ca : Option Addr) (cc : Nat) (pa : Option Addr) (cap : Nat) (ao : Option Addr) (kc : Nat) (sb : Option Addr) (sd : Nat) (cb : Option Addr) (cd : Nat) (pb : Option Addr) (cbp : Nat) (bo : Option Addr) (kd : Nat) (g g2 : Nat) (w : World)
    (hn : n ≤ 140737488355328) (hm : m ≤ 140737488355328) (hk : k ≤ 140737488355328)
    (hs1 : Lay w w.heap.size g sa n sc 130 (fun i => secV (S i))) (hc1 : Lay w w.heap.size g ca m cc 129 (fun i => wrV (C i))) (hl1 : Lay w w.heap.size g pa k cap 2 (prV F T)) (ht1 : Sp.St w w.heap.size ao kk kc f)
    (hs2 : Lay w w.heap.size g2 sb n sd 130 (fun i => secV (S i))) (hc2 : Lay w w.heap.size g2 cb m cd 129 (fun i => wrV (C i))) (hl2 : Lay w w.heap.size g2 pb k cbp 2 (prV F T)) (ht2 : Sp.St w w.heap.size bo kk kd f) :
    Calls Tryz.prog 14 #[.agg #[.slice sa n sc, .slice ca m cc, .int .i64 fu, .bool d, .int .i64 gen, .slice pa k cap, .int .i64 A, .int .i64 B, .int .i64 Z, .slice ao kk kc], .agg #[.slice sb n sd, .slice cb m cd, .int .i64 fu, .bool d, .int .i64 gen, .slice pb k cbp, .int .i64 A, .int .i64 B, .int .i64 Z, .slice bo kk kd]] w fun e w' => e = .returned (.bool true) ∧ Below w.heap.size w w' := by
  obtain ⟨W, hW, hB0, hs0, hX0, hY0⟩ : ∃ W, W = (w.alloc (.cells #[.slice sa n sc, .slice ca m cc, .int .i64 fu, .bool d, .int .i64 gen, .slice pa k cap, .int .i64 A, .int .i64 B, .int .i64 Z, .slice ao kk kc] 34)).alloc (.cells #[.slice sb n sd, .slice cb m cd, .int .i64 fu, .bool d, .int .i64 gen, .slice pb k cbp, .int .i64 A, .int .i64 B, .int .i64 Z, .slice bo kk kd] 34) ∧ Below w.heap.size w W ∧ W.heap.size = w.heap.size + 2 ∧ Vb W w.heap.size (.slice sa n sc) (.slice ca m cc) (.int .i64 fu) (.bool d) (.int .i64 gen) (.slice pa k cap) (.int .i64 A) (.int .i64 B) (.int .i64 Z) (.slice ao kk kc) ∧ Vb W (w.heap.size + 1) (.slice sb n sd) (.slice cb m cd) (.int .i64 fu) (.bool d) (.int .i64 gen) (.slice pb k cbp) (.int .i64 A) (.int .i64 B) (.int .i64 Z) (.slice bo kk kd) := by
    refine ⟨_, rfl, ((Below.refl _ _).alloc (Nat.le_refl _) _).alloc (by simp) _, by simp, (Below.heap_alloc _ _ _ (by simp)).trans (heap_alloc_new w _), ?_⟩
    have := heap_alloc_new (w.alloc (.cells #[.slice sa n sc, .slice ca m cc, .int .i64 fu, .bool d, .int .i64 gen, .slice pa k cap, .int .i64 A, .int .i64 B, .int .i64 Z, .slice ao kk kc] 34)) (.cells #[.slice sb n sd, .slice cb m cd, .int .i64 fu, .bool d, .int .i64 gen, .slice pb k cbp, .int .i64 A, .int .i64 B, .int .i64 Z, .slice bo kk kd] 34)
    rwa [World.size_alloc] at this
  have up : ∀ w', Below W.heap.size W w' → Below w.heap.size w w' := fun w' h => hB0.trans (h.mono hB0.size)
  have HSD := Lib.hid (fun w' (h : Below W.heap.size W w') => Dk.same_any sa ca sb cb n sc m cc sd cd g g2 S C fu d w' hn hm ((hs1.below (up w' h)).more (up w' h).size) ((hc1.below (up w' h)).more (up w' h).size) ((hs2.below (up w' h)).more (up w' h).size) ((hc2.below (up w' h)).more (up w' h).size))
  have HST := Lib.hid (fun w' (h : Below W.heap.size W w') => Rm.refsame_any gen k F T pa pb cap cbp g g2 w' hk ((hl1.below (up w' h)).more (up w' h).size) ((hl2.below (up w' h)).more (up w' h).size))
  have HSS := Lib.hid (fun w' (h : Below W.heap.size W w') => Sp.Same_any A B Z ao bo kk kc kd f f w' (ht1.later (up w' h)) (ht2.later (up w' h)) (fun _ _ => rfl))
  have HX := Lib.hid (fun w' (h : Below W.heap.size W w') => (⟨hX0.below h (show w.heap.size < W.heap.size by omega), hY0.below h (show w.heap.size + 1 < W.heap.size by omega)⟩ : Vb w' w.heap.size (.slice sa n sc) (.slice ca m cc) (.int .i64 fu) (.bool d) (.int .i64 gen) (.slice pa k cap) (.int .i64 A) (.int .i64 B) (.int .i64 Z) (.slice ao kk kc) ∧ Vb w' (w.heap.size + 1) (.slice sb n sd) (.slice cb m cd) (.int .i64 fu) (.bool d) (.int .i64 gen) (.slice pb k cbp) (.int .i64 A) (.int .i64 B) (.int .i64 Z) (.slice bo kk kd)))
  have c0 := hX0.c0
  have c1 := hX0.c1
  have c2 := hX0.c2
  have c3 := hX0.c3
  have d0 := hY0.c0
  have d1 := hY0.c1
  have d2 := hY0.c2
  have d3 := hY0.c3
  have UP := Lib.hid up
  clear up hX0 hY0 hs1 hs2 hc1 hc2 hl1 hl2 ht1 ht2
  go_enter Tryz.func14, Tryz.ntmps14
  go_wp2_with (rw [← hW])
  clear hW
  refine (HSD.out W (Below.refl _ _)).mono ?_
  rintro _ w1 ⟨rfl, hb1⟩
  obtain ⟨x1, y1⟩ := HX.out w1 hb1
  have c4 := x1.c4
  have c5 := x1.c5
  have d4 := y1.c4
  have d5 := y1.c5
  clear c0 c1 c2 c3 d0 d1 d2 d3 HSD x1 y1
  dsimp only
  go_wp2_with fail
  refine (HST.out w1 hb1).mono ?_
  rintro _ w2 ⟨rfl, hb2⟩
  have hB2 := hb1.trans (hb2.mono hb1.size)
  obtain ⟨x2, y2⟩ := HX.out w2 hB2
  have c6 := x2.c6
  have c7 := x2.c7
  have c8 := x2.c8
  have c9 := x2.c9
  have d6 := y2.c6
  have d7 := y2.c7
  have d8 := y2.c8
  have d9 := y2.c9
  clear c4 c5 d4 d5 HST x2 y2 hb1 hb2
  dsimp only
  go_wp2_with fail
  refine (HSS.out w2 hB2).mono ?_
  rintro _ w3 ⟨rfl, hb3⟩
  clear c6 c7 c8 c9 d6 d7 d8 d9 HSS
  dsimp only
  go_wp2_with fail
  go_ret
  exact ⟨rfl, UP.out w3 (hB2.trans (hb3.mono hB2.size))⟩
end Vl
end Go.Proofs.YtebgaafaokiigaaGreatDoor
