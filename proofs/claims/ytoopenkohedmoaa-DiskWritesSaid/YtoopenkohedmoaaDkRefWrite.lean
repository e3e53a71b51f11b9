/- disk: the reference's Write, where it refuses or fails (its last statement is still to be walked). -/
import Derived.Test.YtoopenkohedmoaaDkWrite
namespace Go.Proofs.Ytoopenkohedmoaa
namespace Dk
open Go.RowKit

set_option maxRecDepth 100000 in
set_option maxHeartbeats 1000000 in
theorem refwrite_no (g : Nat) (sa ca : Option Addr) (n sc m cc : Nat) (S : Nat → Sec) (C : Nat → Wr) (f : Int) (d : Bool) (a : Int) (D : Nat → Int) (w : World) (h : Has w g sa ca n sc m cc S C f d) (hf : -9223372036854775808 ≤ f ∧ f ≤ 9223372036854775807) (hno : wrE n m S C f d a ≠ 0) :
    Calls Try.prog 19 #[.pointer (some ⟨g, 0, none⟩), .int .i64 a, .agg (bl D).toArray] w (Writes w g n m S C f d a D) := by
  have HH := Lib.hid h
  have nb := h.nb
  have mb := h.mb
  clear h
  have hb0 : Below w.heap.size w (w.alloc (.cells (bl D).toArray 29)) := (Below.refl _ _).alloc (Nat.le_refl _) _
  have hs0 : (w.alloc (.cells (bl D).toArray 29)).heap.size = w.heap.size + 1 := by simp
  have h47 := HH.out.n47
  have hgw := HH.out.bx.lt
  have hl1 := bl_one D
  have hl2 := size_bl D
  have hl3 := bl_length D
  generalize hL : bl D = L at hb0 hs0 hl1 hl2 hl3 ⊢
  have hH0 := HH.out.below hb0
  have d0 := hH0.bx.c0
  have d1 := hH0.bx.c1
  have d2 := hH0.bx.c2
  have d3 := hH0.bx.c3
  have hF := hH0.refFormed
  have e0 := HH.out.bx.c0
  have e1 := HH.out.bx.c1
  have e2 := HH.out.bx.c2
  have e3 := HH.out.bx.c3
  clear hH0 hL
  go_enter Try.func19, Try.ntmps19
  go_wp2_with fail
  generalize w.alloc (.cells L.toArray 29) = W at hb0 hs0 hF d0 d1 d2 d3 ⊢
  refine hF.mono ?_
  rintro _ w1 ⟨rfl, hb⟩
  have hb1 : Below w.heap.size w w1 := hb0.trans (hb.mono (by omega))
  have hH1 := HH.out.below hb1
  clear d0 d1 d2 d3 e0 e1 e2 e3 hF
  cases hfm : formedB n m C with
  | false =>
    have hok : wrOk n m C a = false := by unfold wrOk; rw [hfm]; rfl
    dsimp only
    go_wp2_with fail
    go_ret
    exact writes_no hok ⟨rfl, only_below hb1, sa, sc, ca, cc, hH1⟩
  | true =>
    have d0 := hH1.bx.c0
    have d1 := hH1.bx.c1
    have d2 := hH1.bx.c2
    have d3 := hH1.bx.c3
    dsimp only
    go_wp2_with fail
    refine (there_any sa ca n sc m cc f a d w1 h47.1).mono ?_
    rintro _ w2 ⟨rfl, hb2⟩
    have hb3 : Below w.heap.size w w2 := hb1.trans (hb2.mono hb1.size)
    have hH2 := HH.out.below hb3
    clear d0 d1 d2 d3 hH1 hb2
    cases hha : hasB n a with
    | false =>
      have hok : wrOk n m C a = false := by unfold wrOk; rw [hfm, hha]; rfl
      dsimp only
      go_wp2_with fail
      go_ret
      exact writes_no hok ⟨rfl, only_below hb3, sa, sc, ca, cc, hH2⟩
    | true =>
      have hok : wrOk n m C a = true := by unfold wrOk; rw [hfm, hha]; rfl
      obtain ⟨hn, _⟩ := formed_n hfm
      obtain ⟨ha0, ha1⟩ := hasB_nat hha
      obtain ⟨p, rfl⟩ : ∃ p : Nat, a = p := ⟨a.toNat, by omega⟩
      have hpn : p < n := by omega
      dsimp only
      go_wp2_with fail
      refine (refact_any g (.slice sa n sc) (.slice ca m cc) f d w2 hH2.bx hf).mono ?_
      rintro _ w3 ⟨rfl, hg3, hx3⟩
      have hH3 := hH2.turn hg3 hx3
      have hO := only_trans (only_below hb3) hg3
      have hEnd1 := Lib.hid (fun (e : Ending) (w' : World) (ha : actE f d = 3) (h : Turns w g 3 n m S C (actF f d) (actD f d) e w') => writes_down (D := D) hok ha h)
      have hEnd2 := Lib.hid (fun (e : Ending) (w' : World) (ha : actE f d = 0) (hs : (S ((p : Int)).toNat).noWrite = true) (h : Turns w g 2 n m S C (actF f d) (actD f d) e w') => writes_io (D := D) hok ha hs h)
      have hnw : actE f d = 0 → (S p).noWrite = true := fun h0 => by
        cases hs : (S p).noWrite with
        | true => rfl
        | false => exact absurd (by unfold wrE; rw [hok, h0, Int.toNat_natCast, hs]; rfl) hno
      have hc := actE_cases f d
      clear hb3 hH2 hg3 hx3 hno hok
      generalize actF f d = fa at hH3 hEnd1 hEnd2
      generalize actD f d = da at hH3 hEnd1 hEnd2
      generalize actE f d = ea at hEnd1 hEnd2 hc hnw ⊢
      rcases hc with rfl | rfl
      · have hs := hnw rfl
        obtain ⟨b, off, rfl, hbl, _, hrow⟩ := hH3.ss.rows.resolve_left (by omega)
        have c0 := hH3.bx.c0
        have cN : w3.cell? ⟨b, off + p * 130 + 129, none⟩ = some (.bool true) := hs ▸ hrow p hpn 129 _ (secV_write _)
        have hp1 : (p : Int) < (n : Int) := by omega
        have hn47 : n ≤ 140737488355328 := by omega
        clear hrow
        dsimp only
        go_wp2_with fail
        go_ret
        exact hEnd2.out _ _ trivial (by rw [Int.toNat_natCast]; exact hs) ⟨rfl, hO, _, _, _, _, hH3⟩
      · dsimp only
        go_wp2_with fail
        go_ret
        exact hEnd1.out _ _ trivial ⟨rfl, hO, _, _, _, _, hH3⟩
end Dk
end Go.Proofs.Ytoopenkohedmoaa
