/- remap: the reference's halves, asked, Read. -/
import Derived.Test.YtllejfnmbpjhaaaDoorJRd
import Derived.Test.YtllejfnmbpjhaaaDoorJRr
import Derived.Test.YtllejfnmbpjhaaaDoorDkRefRead
namespace Go.Proofs.YtllejfnmbpjhaaaDoor
set_option maxRecDepth 20000
namespace Rm
open Go.RowKit Dk Byt

attribute [local go_sem] zv29
attribute [local go_sem] zc29
set_option maxRecDepth 100000 in
set_option maxHeartbeats 1000000 in
theorem halves_v (sa ca : Option Addr) (n sc cc g : Nat) (X : Dst) (w : World) (hn : n ≤ 140737488355328) (hm : X.m ≤ 140737488355328) (hc : Lay w w.heap.size g ca X.m cc 129 (fun i => wrV (X.C i))) :
    Calls Tryd.prog 60 #[.agg #[.slice sa n sc, .slice ca X.m cc, .int .i64 X.f, .bool X.d]] w fun e w' => e = .returned (.int .i64 (hfN n X)) ∧ Below w.heap.size w w' := by
  have HF := Lib.hid (fun W (hb : Below w.heap.size w W) => refFormed_any sa ca n sc X.m cc g X.C X.f X.d W hn hm ((hc.below hb).more hb.size))
  have HV : Hid (hfN n X = if formedB n X.m X.C then halfN n else 0) := Lib.hid rfl
  clear hc
  obtain ⟨m, S, C, f, d⟩ := X
  dsimp only at HF HV hm ⊢
  generalize hfN n ⟨m, S, C, f, d⟩ = V at HV ⊢
  generalize formedB n m C = b at HF HV
  obtain ⟨W, hW, hb0, bx0, hs0⟩ : ∃ W, W = w.alloc (.cells #[.slice sa n sc, .slice ca m cc, .int .i64 f, .bool d] 35) ∧ Below w.heap.size w W ∧ Bx W w.heap.size (.slice sa n sc) (.slice ca m cc) (.int .i64 f) (.bool d) ∧ W.heap.size = w.heap.size + 1 :=
    ⟨_, rfl, (Below.refl _ _).alloc (Nat.le_refl _) _, heap_alloc_new _ _, by simp⟩
  have c0 := bx0.c0
  have c1 := bx0.c1
  have c2 := bx0.c2
  have c3 := bx0.c3
  cases b with
  | false =>
    go_enter Tryd.func60, Tryd.ntmps60
    go_wp2_with (rw [← hW])
    refine (HF.out W hb0).mono ?_
    rintro _ w1 ⟨rfl, hb1⟩
    dsimp only
    go_wp2_with fail
    go_ret
    exact ⟨by rw [HV.out]; rfl, hb0.trans (hb1.mono hb0.size)⟩
  | true =>
    go_enter Tryd.func60, Tryd.ntmps60
    go_wp2_with (rw [← hW])
    refine (HF.out W hb0).mono ?_
    rintro _ w1 ⟨rfl, hb1⟩
    have k0 := (hb1.cell (p := ⟨w.heap.size, 0, none⟩) (by show w.heap.size < _; omega)).trans c0
    have hB1 := hb0.trans (hb1.mono hb0.size)
    clear c0 c1 c2 c3 bx0 hW HF
    dsimp only
    go_wp2_with fail
    refine (refhalf_any n w1).mono ?_
    rintro _ w2 ⟨rfl, hb2⟩
    dsimp only
    go_wp2_with fail
    go_ret
    exact ⟨by rw [HV.out]; rfl, hB1.trans (hb2.mono hB1.size)⟩

theorem refread_x {w : World} {g n : Nat} {X : Dst} (h : HasD w g n X) (x : Int) : Calls Tryd.prog 53 #[.pointer (some ⟨g, 0, none⟩), .int .i64 x] w fun e w' => e = .returned (.tuple #[.agg (bl (rdV n X.m X.S X.C X.d x)).toArray, .int .i64 (rdE n X.m X.S X.C X.d x)]) ∧ Below w.heap.size w w' := by
  obtain ⟨sa, sc, ca, cc, hh⟩ := h
  exact refread_any g sa ca n sc X.m cc X.S X.C X.f X.d x w hh
end Rm
end Go.Proofs.YtllejfnmbpjhaaaDoor
