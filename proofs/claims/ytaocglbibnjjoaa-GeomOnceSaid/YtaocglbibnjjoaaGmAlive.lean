/- geom: the fixed fact; the law GeomMakes. -/
import Derived.Test.YtaocglbibnjjoaaGmPl
import Derived.Test.YtaocglbibnjjoaaGmRSec
namespace Go.Proofs.Ytaocglbibnjjoaa
set_option maxRecDepth 20000
namespace Gm
open Go.RowKit

section
variable {P : Program} {ops : Array Oper} {C : World → Prop} {a : Act} {o : Oper} {rest : List Oper} {Q : Act → Prop}
/-- a region in the order of its text: an operation that yields v in every world of the class -/
theorem q_val (v : Value) (hw : Region.wanted o (yielded ops a.tmps) = true) (ho : ∀ w, C w → (execOp a.eval o).run P w = .ok (.value v) w) (h : wpQuiet P ops C Q rest (a.put o.dst v)) : wpQuiet P ops C Q (o :: rest) a :=
  BigFrame.wpQuiet_want hw fun _ hK => ⟨v, fun w hw => by unfold Oper.quietAt; rw [ho w hw]; exact ⟨rfl, rfl⟩, hK _ h⟩
theorem q_call (f : FuncId) (args : Array Value) (v : Value) (hw : Region.wanted o (yielded ops a.tmps) = true) (ho : ∀ w, (execOp a.eval o).run P w = .ok (.enter f args) w) (hc : ∀ w, C w → Calls P f args w fun e w'' => e = .returned v ∧ C w'')
    (h : wpQuiet P ops C Q rest (a.put o.dst v)) : wpQuiet P ops C Q (o :: rest) a :=
  BigFrame.wpQuiet_want hw fun _ hK => ⟨v, fun w hw => by unfold Oper.quietAt; rw [ho w]; exact ⟨rfl, hc w hw⟩, hK _ h⟩
theorem q_move (x : Operand) (hm : o.op = .move x) (hw : Region.wanted o (yielded ops a.tmps) = true) (h : wpQuiet P ops C Q rest (a.put o.dst (a.eval x))) : wpQuiet P ops C Q (o :: rest) a :=
  BigFrame.wpQuiet_want hw fun _ hK => BigFrame.quiet_move x hm (hK _ h)
end

theorem al_geo : geo 4 = ⟨332, 156, 2, 4, 28, 128⟩ ∧ er 4 = 0 := by
  have h : inQ 4 := by unfold inQ; omega
  rw [geo_in h, er_in h]
  exact ⟨rfl, rfl⟩
theorem al_root : rtI ⟨332, 156, 2, 4, 28, 128⟩ 3 1 = 159 ∧ rtE ⟨332, 156, 2, 4, 28, 128⟩ 3 1 = 0 ∧ qn ⟨332, 156, 2, 4, 28, 128⟩ = 4 := by decide +kernel

set_option maxRecDepth 100000 in
set_option maxHeartbeats 2000000 in
theorem alive8_any (w : World) : Calls Try.prog 7 #[] w fun e w' => e = .returned (.bool true) ∧ Below w.heap.size w w' := by
  have HF := Lib.hid (fun w => forq_any 4 w)
  have HR := Lib.hid (fun w => root_any ⟨332, 156, 2, 4, 28, 128⟩ 3 1 w (by unfold i64; simp) (by unfold i64; simp))
  have HQ := Lib.hid (fun w => quota_any ⟨332, 156, 2, 4, 28, 128⟩ w (by unfold i64; simp))
  rw [al_geo.1, al_geo.2] at HF
  rw [al_root.1, al_root.2.1] at HR
  rw [al_root.2.2] at HQ
  dsimp only [gA] at HF HR HQ
  go_enter Try.func7, Try.ntmps7
  go_wp2_with fail
  refine (HF.out _).mono ?_
  rintro _ w1 ⟨rfl, hb1⟩
  dsimp only
  obtain ⟨W, hW, HX⟩ := box_g w1 ⟨332, 156, 2, 4, 28, 128⟩
  have HB := Lib.hid (hb1.trans (HX.out.2.2.mono hb1.size))
  have hs1 := hb1.size
  have hws := HX.out.2.1
  dsimp only [gA] at hW
  clear hb1
  go_wp2_with (rw [← hW])
  refine (HR.out _).mono ?_
  rintro _ w2 ⟨rfl, hb2⟩
  dsimp only
  have y := HX.out.1.below hb2 (by omega)
  have y0 := y.c0; have y1 := y.c1; have y2 := y.c2; have y3 := y.c3; have y4 := y.c4; have y5 := y.c5
  have HB2 := Lib.hid (HB.out.trans (hb2.mono (by omega)))
  have hs2 := hb2.size
  clear hW hb2 y
  dsimp only at y0 y1 y2 y3 y4 y5
  go_wp2_with fail
  refine (HQ.out _).mono ?_
  rintro _ w3 ⟨rfl, hb3⟩
  dsimp only
  go_wp2_with fail
  go_ret
  exact ⟨rfl, HB2.out.trans (hb3.mono (by omega))⟩
end Gm
end Go.Proofs.Ytaocglbibnjjoaa
