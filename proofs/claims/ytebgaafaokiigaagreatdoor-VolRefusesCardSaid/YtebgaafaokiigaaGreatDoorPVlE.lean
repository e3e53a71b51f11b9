import Derived.Test.YtebgaafaokiigaaGreatDoorPVlC
import Derived.Test.YtebgaafaokiigaaGreatDoorPSpDr
import Derived.Test.YtebgaafaokiigaaGreatDoorPJRr
import Derived.Test.YtebgaafaokiigaaGreatDoorPGmQuo
/- vol: Mine. -/
namespace Go.Proofs.YtebgaafaokiigaaGreatDoor
set_option maxRecDepth 20000
namespace Vl
open Go.RowKit Dk Gm Eqb

/-- the place of the space in a volume's box -/
def spPl (b : Nat) (v0 v1 v2 v3 v4 v5 : Value) : Pl := ⟨b, [v0, v1, v2, v3, v4, v5], [], 34⟩
theorem sp_bs {w : World} {b : Nat} {sa ca pa ao : Option Addr} {n sc m cc k cap kk kc : Nat} {fu gen A B Z : Int} {d : Bool} (h : Vb w b (.slice sa n sc) (.slice ca m cc) (.int .i64 fu) (.bool d) (.int .i64 gen) (.slice pa k cap) (.int .i64 A) (.int .i64 B) (.int .i64 Z) (.slice ao kk kc)) :
    Sp.Bs w (spPl b (.slice sa n sc) (.slice ca m cc) (.int .i64 fu) (.bool d) (.int .i64 gen) (.slice pa k cap)) A B Z ao kk kc := by
  refine ⟨h, ?_⟩
  intro x hx z
  simp only [spPl, List.append_nil, List.mem_cons, List.not_mem_nil, or_false] at hx
  rcases hx with rfl | rfl | rfl | rfl | rfl | rfl <;> simp
theorem below_row {a w w' : World} {b : Nat} (hb : Below a.heap.size a w) (hg : w.grownBy w' (some b)) (hk : a.heap.size ≤ b) : Below a.heap.size a w' :=
  ⟨hg.os.trans hb.os, hg.tape.trans hb.tape, hg.output.trans hb.output, Nat.le_trans hb.size hg.size, fun k hk' => (hg.block k (Nat.lt_of_lt_of_le hk' hb.size) (by simp; omega)).trans (hb.block k hk')⟩
theorem box_vp (w : World) (v0 v1 v2 v3 v4 v5 v6 v7 v8 v9 : Value) (p : Pt.Pn) : ∃ W, W = (w.alloc (.cells #[v0, v1, v2, v3, v4, v5, v6, v7, v8, v9] 34)).alloc (.cells (Pt.pV p).toArray 37) ∧ Below w.heap.size w W ∧ W.heap.size = w.heap.size + 2 ∧ Vb W w.heap.size v0 v1 v2 v3 v4 v5 v6 v7 v8 v9 ∧
    W.heap[w.heap.size + 1]? = some (.cells (Pt.pV p).toArray 37 (0, 0)) := by
  refine ⟨_, rfl, ((Below.refl _ _).alloc (Nat.le_refl _) _).alloc (by simp) _, by simp, (Below.heap_alloc _ _ _ (by simp)).trans (heap_alloc_new w _), ?_⟩
  have := heap_alloc_new (w.alloc (.cells #[v0, v1, v2, v3, v4, v5, v6, v7, v8, v9] 34)) (.cells (Pt.pV p).toArray 37)
  rwa [World.size_alloc] at this
/-- is a pointer one of the volume? -/
def mnB (n m : Nat) (C : Nat → Wr) (gen : Int) (k : Nat) (F T : Nat → Int) (A B Z : Int) (kk : Nat) (f : Nat → Int) (p : Pt.Pn) : Bool := rvB n m C gen k F T A B Z kk f && Sp.drB A B Z kk f p

set_option maxRecDepth 100000 in
set_option maxHeartbeats 4000000 in
theorem Mine_any (sa : Option Addr) (n sc : Nat) (ca : Option Addr) (m cc : Nat) (fu : Int) (d : Bool) (gen : Int) (pa : Option Addr) (k cap : Nat) (A B Z : Int) (ao : Option Addr) (kk kc g : Nat) (C : Nat → Wr) (F T : Nat → Int) (f : Nat → Int) (p : Pt.Pn) (w : World)
    (hn : n ≤ 140737488355328) (hm : m ≤ 140737488355328) (hc : Lay w w.heap.size g ca m cc 129 (fun i => wrV (C i))) (hl : Lay w w.heap.size g pa k cap 2 (Rm.prV F T)) (hk : k ≤ 140737488355328) (hF : ∀ i, i < k → Rm.i64 (F i) ∧ Rm.i64 (T i)) (hB : Sp.i64 B) (hs : Sp.St w w.heap.size ao kk kc f) (hpA : Sp.i64 p.A) (hpB : Sp.i64 p.B) :
    Calls Tryz.prog 12 #[.agg #[.slice sa n sc, .slice ca m cc, .int .i64 fu, .bool d, .int .i64 gen, .slice pa k cap, .int .i64 A, .int .i64 B, .int .i64 Z, .slice ao kk kc], .agg (Pt.pV p).toArray] w fun e w' => e = .returned (.bool (mnB n m C gen k F T A B Z kk f p)) ∧ Below w.heap.size w w' := by
  obtain ⟨W, hW, hB0, hs0, hX0, hP0⟩ := box_vp w (.slice sa n sc) (.slice ca m cc) (.int .i64 fu) (.bool d) (.int .i64 gen) (.slice pa k cap) (.int .i64 A) (.int .i64 B) (.int .i64 Z) (.slice ao kk kc) p
  have HRT := Lib.hid (Right_any sa n sc ca m cc fu d gen pa k cap A B Z ao kk kc g C F T f W hn hm ((hc.below hB0).more hB0.size) ((hl.below hB0).more hB0.size) hk hF hB (hs.later hB0))
  have HDR := Lib.hid (fun w' (h : Below W.heap.size W w') => Sp.Drop_any _ A B Z p ao kk kc f w' (sp_bs (hX0.below h (by omega))) hB (hs.later (hB0.trans (h.mono hB0.size))) hpA hpB)
  have HPP := Lib.hid (fun w' (h : Below W.heap.size W w') => Pt.row_pt ((h.block (w.heap.size + 1) (by omega)).trans hP0))
  have HV : Hid (mnB n m C gen k F T A B Z kk f p = (rvB n m C gen k F T A B Z kk f && (Sp.drE A B Z kk f p == 0))) := Lib.hid (by
    unfold mnB Sp.drE
    cases Sp.drB A B Z kk f p <;> rfl)
  have c0 := hX0.c0
  have c1 := hX0.c1
  have c2 := hX0.c2
  have c3 := hX0.c3
  have c4 := hX0.c4
  have c5 := hX0.c5
  have c6 := hX0.c6
  have c7 := hX0.c7
  have c8 := hX0.c8
  have c9 := hX0.c9
  clear hX0 hP0 hs hl hF hc
  generalize mnB n m C gen k F T A B Z kk f p = V at HV ⊢
  generalize Sp.drE A B Z kk f p = E at HDR HV
  generalize rvB n m C gen k F T A B Z kk f = R at HRT HV
  go_enter Tryz.func12, Tryz.ntmps12
  go_wp2_with (rw [← hW])
  clear hW
  refine HRT.out.mono ?_
  rintro _ w1 ⟨rfl, hb1⟩
  have HD1 := Lib.hid (HDR.out w1 hb1)
  have q1 := HPP.out w1 hb1
  clear HDR HPP c0 c1 c2 c3 c4 c5 c6 c7 c8 c9
  dsimp only
  cases R with
  | false =>
    go_wp2_with fail
    go_ret
    exact ⟨by rw [HV.out]; rfl, hB0.trans (hb1.mono hB0.size)⟩
  | true =>
    go_wp2_with (refine @wpList_loadG _ _ _ _ _ _ _ (by kernel_rfl) 37 (.tmp 3) rfl (w.heap.size + 1) 0 rfl (Pt.pV p) _ q1 Pt.undP rfl (Pt.sizeP p) ?_; simp only [Act.put, List.setIfInBounds_toArray, List.set_cons_succ, List.set_cons_zero])
    refine HD1.out.mono ?_
    rintro _ w2 ⟨rfl, hT⟩
    have hb2 : Below w.heap.size w w2 := below_row (hB0.trans (hb1.mono hB0.size)) hT.only (Nat.le_refl _)
    clear HD1 hT q1
    dsimp only
    go_wp2_with fail
    go_ret
    exact ⟨by rw [HV.out]; rfl, hb2⟩
end Vl
end Go.Proofs.YtebgaafaokiigaaGreatDoor
/- vol: the reference's Right and Mine. -/
namespace Go.Proofs.YtebgaafaokiigaaGreatDoor
set_option maxRecDepth 20000
namespace Vl
open Go.RowKit Dk Gm Eqb

set_option maxRecDepth 100000 in
set_option maxHeartbeats 4000000 in
theorem refRight_any (sa : Option Addr) (n sc : Nat) (ca : Option Addr) (m cc : Nat) (fu : Int) (d : Bool) (gen : Int) (pa : Option Addr) (k cap : Nat) (A B Z : Int) (ao : Option Addr) (kk kc g : Nat) (C : Nat → Wr) (F T : Nat → Int) (f : Nat → Int) (w : World)
    (hn : n ≤ 140737488355328) (hm : m ≤ 140737488355328) (hc : Lay w w.heap.size g ca m cc 129 (fun i => wrV (C i))) (hl : Lay w w.heap.size g pa k cap 2 (Rm.prV F T)) (hk : k ≤ 140737488355328) (hs : Sp.St w w.heap.size ao kk kc f) :
    Calls Tryz.prog 11 #[.agg #[.slice sa n sc, .slice ca m cc, .int .i64 fu, .bool d, .int .i64 gen, .slice pa k cap, .int .i64 A, .int .i64 B, .int .i64 Z, .slice ao kk kc]] w fun e w' => e = .returned (.bool (rvB n m C gen k F T A B Z kk f)) ∧ Below w.heap.size w w' := by
  obtain ⟨W, hW, hB0, hs0, hX0⟩ := box_v w (.slice sa n sc) (.slice ca m cc) (.int .i64 fu) (.bool d) (.int .i64 gen) (.slice pa k cap) (.int .i64 A) (.int .i64 B) (.int .i64 Z) (.slice ao kk kc)
  have HSC := Lib.hid (refors_any (n : Int))
  have HDF := Lib.hid (fun w' (h : Below W.heap.size W w') => refFormed_any sa ca n sc m cc g C fu d w' hn hm ((hc.below (hB0.trans (h.mono hB0.size))).more (hB0.trans (h.mono hB0.size)).size))
  have HRI := Lib.hid (fun w' (h : Below W.heap.size W w') => Rm.refright_any n gen k F T pa cap g w' ((hl.below (hB0.trans (h.mono hB0.size))).more (hB0.trans (h.mono hB0.size)).size) hk)
  have HFO := Lib.hid (fun w' (h : Below W.heap.size W w') => Sp.refFormed_any A B Z ao kk kc f w' hs.room (hs.later (hB0.trans (h.mono hB0.size))).lies)
  have HV : Hid (rvB n m C gen k F T A B Z kk f = (formedB n m C && okQ n && (Rm.rightB n gen k F T && (Sp.formB A B Z kk f && ((Z == 2 * fsq n + 120) && ((A == 28) && (B == 2 * fsq n + 176))))))) := Lib.hid rfl
  have HQ : Hid (okQ n = true → inQ (fsq n)) := Lib.hid (fun h => of_decide_eq_true h)
  have HG1 := Lib.hid (@geo_yes n)
  have HG0 := Lib.hid (@geo_no n)
  have HNE : Hid ((n : Int) = 4 * fsq n + 316 ∨ okQ n = false) := Lib.hid (by
    rcases fsq_cases (n : Int) with ⟨q, _, hnq, hf⟩ | ⟨hf, _⟩
    · exact .inl (by rw [hf]; exact hnq)
    · exact .inr (by unfold okQ; rw [hf]; rfl))
  clear hc hl hs
  generalize rvB n m C gen k F T A B Z kk f = V at HV ⊢
  have c0 := hX0.c0
  have HX := Lib.hid (fun w' (h : Below W.heap.size W w') => hX0.below h (show w.heap.size < W.heap.size by omega))
  clear hX0
  cases hq : okQ n with
  | false =>
    obtain ⟨e1, e2⟩ := HG0.out hq
    rw [e1, e2] at HSC
    have HR : Hid (V = false) := Lib.hid (by rw [HV.out, hq, Bool.and_false]; rfl)
    clear e1 e2 HG0 HG1 HQ HNE HV HDF HRI HFO hq
    dsimp only [gA, zG] at HSC
    go_enter Tryz.func11, Tryz.ntmps11
    go_wp2_with (rw [← hW])
    clear hW
    refine (HSC.out W).mono ?_
    rintro _ w1 ⟨rfl, hb1⟩
    dsimp only
    go_wp2_with fail
    go_ret
    exact ⟨by rw [HR.out]; rfl, (hB0.trans (hb1.mono hB0.size)).alloc (by have := hb1.size; omega) _⟩
  | true =>
    obtain ⟨e1, e2⟩ := HG1.out hq
    rw [e1, e2] at HSC
    have hn4 := HNE.out.resolve_right (by rw [hq]; decide)
    have hqq := HQ.out hq
    unfold inQ at hqq
    obtain ⟨hq1, hq2⟩ := hqq
    rw [hq] at HV
    clear e1 e2 HG0 HG1 HQ HNE hq
    dsimp only [gA, lay] at HSC
    generalize hf4 : fsq (n : Int) = q at *
    clear hf4 hn4
    go_enter Tryz.func11, Tryz.ntmps11
    go_wp2_with (rw [← hW])
    clear hW
    refine (HSC.out W).mono ?_
    rintro _ w1 ⟨rfl, hb1⟩
    have hs1 := hb1.size
    obtain ⟨w2, hW2⟩ : ∃ w2, w2 = w1.alloc (.cells #[.int .i64 (4 * q + 316), .int .i64 (2 * q + 148), .int .i64 2, .int .i64 4, .int .i64 28, .int .i64 (2 * q + 120)] 82) := ⟨_, rfl⟩
    have hb2 : Below w1.heap.size w1 w2 := by rw [hW2]; exact (Below.refl _ _).alloc (Nat.le_refl _) _
    have hG2 : Bg w2 w1.heap.size (lay q) := ⟨by rw [hW2]; exact heap_alloc_new w1 _⟩
    have hs2 : w2.heap.size = w1.heap.size + 1 := by rw [hW2]; simp
    have HB2 := Lib.hid (fun w' (h : Below w2.heap.size w2 w') => hb1.trans ((hb2.trans (h.mono hb2.size)).mono hs1))
    have HG := Lib.hid (fun w' (h : Below w2.heap.size w2 w') => hG2.below h (show w1.heap.size < w2.heap.size by omega))
    have x2 := HX.out w2 (HB2.out w2 (Below.refl _ _))
    have c0 := x2.c0
    have c1 := x2.c1
    have c2 := x2.c2
    have c3 := x2.c3
    have x1 := HX.out w1 hb1
    have d0 := x1.c0
    have d1 := x1.c1
    have d2 := x1.c2
    have d3 := x1.c3
    rw [hW2] at c0 c1 c2 c3
    clear hb1 hb2 hG2 HSC x2 x1
    dsimp only
    go_wp2_with (rw [← hW2])
    clear hW2
    refine (HDF.out w2 (HB2.out w2 (Below.refl _ _))).mono ?_
    rintro _ w3 ⟨rfl, hb3⟩
    clear c0 c1 c2 c3 d0 d1 d2 d3 HDF
    dsimp only
    cases hfd : formedB n m C with
    | false =>
      rw [hfd] at HV
      go_wp2_with fail
      go_ret
      exact ⟨by rw [HV.out]; rfl, hB0.trans ((HB2.out w3 hb3).mono hB0.size)⟩
    | true =>
    rw [hfd] at HV
    have x3 := HX.out w3 (HB2.out w3 hb3)
    have c0 := x3.c0
    have c4 := x3.c4
    have c5 := x3.c5
    clear x3 hfd
    go_wp2_with fail
    refine (HRI.out w3 (HB2.out w3 hb3)).mono ?_
    rintro _ w4 ⟨rfl, hb4⟩
    have hB4 := hb3.trans (hb4.mono hb3.size)
    clear c0 c4 c5 HRI hb4 hb3
    dsimp only
    cases hri : Rm.rightB n gen k F T with
    | false =>
      rw [hri] at HV
      go_wp2_with fail
      go_ret
      exact ⟨by rw [HV.out]; rfl, hB0.trans ((HB2.out w4 hB4).mono hB0.size)⟩
    | true =>
    rw [hri] at HV
    have x4 := HX.out w4 (HB2.out w4 hB4)
    have c6 := x4.c6
    have c7 := x4.c7
    have c8 := x4.c8
    have c9 := x4.c9
    clear x4 hri
    go_wp2_with fail
    refine (HFO.out w4 (HB2.out w4 hB4)).mono ?_
    rintro _ w5 ⟨rfl, hb5⟩
    have hB5 := hB4.trans (hb5.mono hB4.size)
    clear c6 c7 c8 c9 HFO hb5 hB4
    dsimp only
    cases hfo : Sp.formB A B Z kk f with
    | false =>
      rw [hfo] at HV
      go_wp2_with fail
      go_ret
      exact ⟨by rw [HV.out]; rfl, hB0.trans ((HB2.out w5 hB5).mono hB0.size)⟩
    | true =>
    rw [hfo] at HV
    have x5 := HX.out w5 (HB2.out w5 hB5)
    have y5 := HG.out w5 hB5
    have c6 := x5.c6
    have c7 := x5.c7
    have c8 := x5.c8
    have k1 : w5.cell? ⟨w1.heap.size, 1, none⟩ = some (.int .i64 (2 * q + 148)) := y5.c1
    have k5 : w5.cell? ⟨w1.heap.size, 5, none⟩ = some (.int .i64 (2 * q + 120)) := y5.c5
    have HE := Lib.hid (eq_two A B 28 (2 * q + 148 + 28) w5)
    have hE2 : ((A == 28) && (B == 2 * q + 148 + 28)) = ((A == 28) && (B == 2 * q + 176)) := by
      rw [show 2 * q + 148 + 28 = 2 * q + 176 by omega]
    rw [hE2] at HE
    clear x5 y5 hfo hE2
    cases hea : (A == 28) && (B == 2 * q + 176) with
    | false =>
      rw [hea] at HV HE
      clear hea
      go_wp2_with (refine @wpList_eqlV _ _ _ _ _ _ _ 29 29 (.tmp 37) (.tmp 41) rfl (by kernel_rfl) #[.int .i64 A, .int .i64 B] #[.int .i64 28, .int .i64 (2 * q + 148 + 28)] rfl rfl false guard2 HE.out ?_; simp only [Act.put, List.setIfInBounds_toArray, List.set_cons_succ, List.set_cons_zero])
      go_ret
      exact ⟨by rw [HV.out]; simp, hB0.trans ((HB2.out w5 hB5).mono hB0.size)⟩
    | true =>
      rw [hea] at HV HE
      clear hea
      cases hez : Z == 2 * q + 120 with
      | false =>
        rw [hez] at HV
        go_wp2_with (refine @wpList_eqlV _ _ _ _ _ _ _ 29 29 (.tmp 37) (.tmp 41) rfl (by kernel_rfl) #[.int .i64 A, .int .i64 B] #[.int .i64 28, .int .i64 (2 * q + 148 + 28)] rfl rfl true guard2 HE.out ?_; simp only [Act.put, List.setIfInBounds_toArray, List.set_cons_succ, List.set_cons_zero])
        go_ret
        exact ⟨by rw [HV.out]; rfl, hB0.trans ((HB2.out w5 hB5).mono hB0.size)⟩
      | true =>
        rw [hez] at HV
        go_wp2_with (refine @wpList_eqlV _ _ _ _ _ _ _ 29 29 (.tmp 37) (.tmp 41) rfl (by kernel_rfl) #[.int .i64 A, .int .i64 B] #[.int .i64 28, .int .i64 (2 * q + 148 + 28)] rfl rfl true guard2 HE.out ?_; simp only [Act.put, List.setIfInBounds_toArray, List.set_cons_succ, List.set_cons_zero])
        go_ret
        exact ⟨by rw [HV.out]; rfl, hB0.trans ((HB2.out w5 hB5).mono hB0.size)⟩
end Vl
end Go.Proofs.YtebgaafaokiigaaGreatDoor
