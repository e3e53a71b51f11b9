/- ptr: the reference's Put. -/
import Derived.Test.YtnmljjehkdbbjaaPtPut
namespace Go.Proofs.Ytnmljjehkdbbjaa
set_option maxRecDepth 20000
namespace Pt
open Go.RowKit Dk Eqb Byt

theorem right_bd {p : Pn} (h : rightB p = true) : (p.A = -1 ∨ (0 ≤ p.A ∧ p.A < 4096)) ∧ (p.B = -1 ∨ (0 ≤ p.B ∧ p.B < 4096)) := by
  unfold rightB at h
  rcases Bool.or_eq_true _ _ ▸ h with h1 | h1
  · obtain ⟨a, b, _⟩ := eqP_iff.1 h1
    exact ⟨.inl a, .inl b⟩
  · simp only [Bool.and_eq_true, Bool.or_eq_true, secB_iff, beq_iff_eq] at h1
    exact ⟨.inr h1.1, h1.2.imp id (·.1)⟩
def LS (p : Pn) (i : Nat) : Int := if i = 0 then p.A else p.B
def FF (n : Nat) (a : Int) (p : Pn) (f : Nat → Int) : Nat → Nat → Int
  | 0 => f
  | j + 1 => Wd.putF n (a + 4 * (j : Int)) 4 (side (LS p j)) (FF n a p f j)
theorem FF_two (n a : Nat) (p : Pn) (f : Nat → Int) : FF n a p f 2 = Wd.putF n ((a : Int) + 4) 4 (side p.B) (Wd.putF n a 4 (side p.A) f) := by
  simp only [FF, LS]
  simp
def TwoI (w : World) (g : Nat) (p : Pn) : Prop := w.heap[g]? = some (.cells #[.int .i64 p.A, .int .i64 p.B] 65 (0, 0))
theorem TwoI.cell {w : World} {g : Nat} {p : Pn} (h : TwoI w g p) {j : Nat} (hj : j < 2) : w.cell? ⟨g, j, none⟩ = some (.int .i64 (LS p j)) := by
  rw [cell_of_row w g j _ _ _ h]
  match j, hj with
  | 0, _ => rfl
  | 1, _ => rfl

set_option maxRecDepth 100000 in
set_option maxHeartbeats 2000000 in
theorem refput_any (w : World) (B : Nat) (ao : Option Addr) (n cap : Nat) (f : Nat → Int) (a : Int) (p : Pn) (h : Wd.Own w B ao n cap f) (hn : n ≤ 140737488355328) (ha0 : -9223372036854775808 ≤ a) (ha1 : a ≤ 9223372036854775807) :
    Calls Try.prog 20 #[.slice ao n cap, .int .i64 a, .agg (pV p).toArray] w (PpPost w B ao n cap a p f) := by
  obtain ⟨W, hW, hb0, hx0, hs0⟩ : ∃ W, W = w.alloc (.cells (pV p).toArray 24) ∧ Below w.heap.size w W ∧ W.heap[w.heap.size]? = some (.cells (pV p).toArray 24 (0, 0)) ∧ W.heap.size = w.heap.size + 1 := ⟨_, rfl, box_pt w p⟩
  have hO0 : Wd.Own W B ao n cap f := h.below hb0
  have HR := Lib.hid (fun W => refright_any p W)
  cases hr : rightB p with
  | false =>
    rw [hr] at HR
    obtain ⟨e1, e2⟩ := pp_no (n := n) (a := a) (p := p) (show ppG n a p = false by unfold ppG; rw [hr]; rfl) f
    have HE := Lib.hid e1
    have HE2 := Lib.hid e2
    clear e1 e2
    clear hr
    go_enter Try.func20, Try.ntmps20
    subst hW
    go_wp2_with (refine @wpList_loadG _ _ _ _ _ _ _ (by kernel_rfl) 24 (.tmp 5) rfl w.heap.size 0 rfl (pV p) _ (row_pt hx0) undP rfl (sizeP p) ?_; simp only [Act.put, List.setIfInBounds_toArray, List.set_cons_succ, List.set_cons_zero])
    generalize w.alloc (.cells (pV p).toArray 24) = W at hb0 hx0 hs0 hO0 ⊢
    refine (HR.out W).mono ?_
    rintro _ w1 ⟨rfl, hb1⟩
    dsimp only
    go_wp2_with fail
    go_ret
    exact ⟨by rw [HE2.out]; rfl, only_below (hb0.trans (hb1.mono (by omega))), by rw [HE.out]; exact hO0.below hb1⟩
  | true =>
    rw [hr] at HR
    by_cases h0 : a < 0
    · have hw : withinB n a = false := by cases e : withinB n a with
        | false => rfl
        | true => have := within_iff.1 e; omega
      obtain ⟨e1, e2⟩ := pp_no (n := n) (a := a) (p := p) (show ppG n a p = false by unfold ppG; rw [hr, hw]; rfl) f
      have HE := Lib.hid e1
      have HE2 := Lib.hid e2
      clear e1 e2
      clear hr hw
      go_enter Try.func20, Try.ntmps20
      subst hW
      go_wp2_with (refine @wpList_loadG _ _ _ _ _ _ _ (by kernel_rfl) 24 (.tmp 5) rfl w.heap.size 0 rfl (pV p) _ (row_pt hx0) undP rfl (sizeP p) ?_; simp only [Act.put, List.setIfInBounds_toArray, List.set_cons_succ, List.set_cons_zero])
      generalize w.alloc (.cells (pV p).toArray 24) = W at hb0 hx0 hs0 hO0 ⊢
      refine (HR.out W).mono ?_
      rintro _ w1 ⟨rfl, hb1⟩
      dsimp only
      go_wp2_with fail
      go_ret
      exact ⟨by rw [HE2.out]; rfl, only_below (hb0.trans (hb1.mono (by omega))), by rw [HE.out]; exact hO0.below hb1⟩
    · by_cases h1 : (n : Int) < a
      · have hw : withinB n a = false := by cases e : withinB n a with
          | false => rfl
          | true => have := within_iff.1 e; omega
        obtain ⟨e1, e2⟩ := pp_no (n := n) (a := a) (p := p) (show ppG n a p = false by unfold ppG; rw [hr, hw]; rfl) f
        have HE := Lib.hid e1
        have HE2 := Lib.hid e2
        clear e1 e2
        clear hr hw
        go_enter Try.func20, Try.ntmps20
        subst hW
        go_wp2_with (refine @wpList_loadG _ _ _ _ _ _ _ (by kernel_rfl) 24 (.tmp 5) rfl w.heap.size 0 rfl (pV p) _ (row_pt hx0) undP rfl (sizeP p) ?_; simp only [Act.put, List.setIfInBounds_toArray, List.set_cons_succ, List.set_cons_zero])
        generalize w.alloc (.cells (pV p).toArray 24) = W at hb0 hx0 hs0 hO0 ⊢
        refine (HR.out W).mono ?_
        rintro _ w1 ⟨rfl, hb1⟩
        dsimp only
        go_wp2_with fail
        go_ret
        exact ⟨by rw [HE2.out]; rfl, only_below (hb0.trans (hb1.mono (by omega))), by rw [HE.out]; exact hO0.below hb1⟩
      · by_cases h2 : (n : Int) - a < 40
        · have hw : withinB n a = false := by cases e : withinB n a with
            | false => rfl
            | true => have := within_iff.1 e; omega
          obtain ⟨e1, e2⟩ := pp_no (n := n) (a := a) (p := p) (show ppG n a p = false by unfold ppG; rw [hr, hw]; rfl) f
          have HE := Lib.hid e1
          have HE2 := Lib.hid e2
          clear e1 e2
          clear hr hw
          go_enter Try.func20, Try.ntmps20
          subst hW
          go_wp2_with (refine @wpList_loadG _ _ _ _ _ _ _ (by kernel_rfl) 24 (.tmp 5) rfl w.heap.size 0 rfl (pV p) _ (row_pt hx0) undP rfl (sizeP p) ?_; simp only [Act.put, List.setIfInBounds_toArray, List.set_cons_succ, List.set_cons_zero])
          generalize w.alloc (.cells (pV p).toArray 24) = W at hb0 hx0 hs0 hO0 ⊢
          refine (HR.out W).mono ?_
          rintro _ w1 ⟨rfl, hb1⟩
          dsimp only
          go_wp2_with fail
          go_ret
          exact ⟨by rw [HE2.out]; rfl, only_below (hb0.trans (hb1.mono (by omega))), by rw [HE.out]; exact hO0.below hb1⟩
        · have hw : withinB n a = true := within_iff.2 (by omega)
          obtain ⟨a', rfl⟩ : ∃ m : Nat, a = m := ⟨a.toNat, by omega⟩
          have hbd := Lib.hid (right_bd hr)
          obtain ⟨e1, e2⟩ := pp_yes (n := n) (a := a') (p := p) (show ppG n a' p = true by unfold ppG; rw [hr, hw]; rfl) f
          rw [← FF_two] at e1
          have HE := Lib.hid e1
          have HE2 := Lib.hid e2
          obtain ⟨g, rfl, hBg, hrow⟩ := h.row.resolve_left (by rintro ⟨_, h0⟩; omega)
          have hgl := hrow.lt
          have hcap := h.room
          clear e1 e2 hr hw hrow h
          go_enter Try.func20, Try.ntmps20
          subst hW
          go_wp2_with (refine @wpList_loadG _ _ _ _ _ _ _ (by kernel_rfl) 24 (.tmp 5) rfl w.heap.size 0 rfl (pV p) _ (row_pt hx0) undP rfl (sizeP p) ?_; simp only [Act.put, List.setIfInBounds_toArray, List.set_cons_succ, List.set_cons_zero])
          generalize w.alloc (.cells (pV p).toArray 24) = W at hb0 hx0 hs0 hO0 ⊢
          refine (HR.out W).mono ?_
          rintro _ w1 ⟨rfl, hb1⟩
          dsimp only
          have hx1 := (hb1.block w.heap.size (by omega)).trans hx0
          have hB1 := hb0.trans (hb1.mono (by omega))
          have hs1 := hb1.size
          have hO1 := hO0.below hb1
          have cA := cA_pt hx1
          have cB := cB_pt hx1
          clear hx0 hO0 hb1
          go_wp2_with (first
            | (refine @wpList_buildG _ _ _ _ _ _ _ (by kernel_rfl) 65 #[(0, .tmp 32), (1, .tmp 34)] rfl #[.int .i64 p.A, .int .i64 p.B] (by kernel_rfl) ?_; simp only [Act.put, List.setIfInBounds_toArray, List.set_cons_succ, List.set_cons_zero]))
          have hb2 : Below w1.heap.size w1 (w1.alloc (.cells #[.int .i64 p.A, .int .i64 p.B] 65)) := (Below.refl _ _).alloc (Nat.le_refl _) _
          have hT2 : TwoI (w1.alloc (.cells #[.int .i64 p.A, .int .i64 p.B] 65)) w1.heap.size p := heap_alloc_new _ _
          have hs2 : (w1.alloc (.cells #[.int .i64 p.A, .int .i64 p.B] 65)).heap.size = w1.heap.size + 1 := by simp
          generalize w1.alloc (.cells #[.int .i64 p.A, .int .i64 p.B] 65) = W2 at hb2 hT2 hs2 ⊢
          have hx2 := (hb2.block w.heap.size (by omega)).trans hx1
          have hB2 := hB1.trans (hb2.mono (by omega))
          have HI : Hid (Wd.Own W2 B (some ⟨g, 0, none⟩) n cap (FF n a' p f 0) ∧ Wd.Only w W2 (some ⟨g, 0, none⟩) ∧ W2.heap[w.heap.size]? = some (.cells (pV p).toArray 24 (0, 0)) ∧ TwoI W2 w1.heap.size p ∧ w1.heap.size < W2.heap.size) := Lib.hid ⟨hO1.below hb2, only_below hB2, hx2, hT2, by omega⟩
          clear hO1 hb2 hT2 hx1 hx2 hB2 cA cB hB1
          go_loopw [8] (fun i wr => ∃ j : Nat, j ≤ 2 ∧ i = .int .i64 j ∧ Hid (Wd.Own wr B (some ⟨g, 0, none⟩) n cap (FF n a' p f j) ∧ Wd.Only w wr (some ⟨g, 0, none⟩) ∧ wr.heap[w.heap.size]? = some (.cells (pV p).toArray 24 (0, 0)) ∧ TwoI wr w1.heap.size p ∧ w1.heap.size < wr.heap.size)) (fun i _ => 2 - (intOf i).toNat)
          case atStart => exact ⟨0, by omega, rfl, HI⟩
          case round =>
            clear HI
            obtain ⟨j, hj, rfl, hR⟩ := hrel
            obtain ⟨hO, hG, hx, hT, hlt⟩ := hR.out
            by_cases hj2 : j < 2
            · have HO := Lib.hid hO
              have HG := Lib.hid hG
              have HX := Lib.hid hx
              have HT := Lib.hid hT
              have cj := hT.cell hj2
              have hj0 : (0 : Int) ≤ (j : Int) := by omega
              have hzl : -1 ≤ LS p j ∧ LS p j < 4096 := by
                have := hbd.out
                unfold LS
                split <;> omega
              have HN := Lib.hid (fun (w4 : World) (z : Int) (hz : side (LS p j) = z) (hG4 : Wd.Only wr w4 (some ⟨g, 0, none⟩)) (hO4 : Wd.Own w4 B (some ⟨g, 0, none⟩) n cap (Wd.putF n ((a' : Int) + 4 * (j : Int)) 4 z (FF n a' p f j))) => show Hid (Wd.Own w4 B (some ⟨g, 0, none⟩) n cap (FF n a' p f (j + 1)) ∧ Wd.Only w w4 (some ⟨g, 0, none⟩) ∧ w4.heap[w.heap.size]? = some (.cells (pV p).toArray 24 (0, 0)) ∧ TwoI w4 w1.heap.size p ∧ w1.heap.size < w4.heap.size) from Lib.hid (by
                have := hG4.size
                refine ⟨?_, Only.trans' HG.out hG4, (hG4.block w.heap.size (by omega) (by simp; omega)).trans HX.out, (hG4.block w1.heap.size (by omega) (by simp; omega)).trans HT.out, by omega⟩
                rw [← hz] at hO4
                exact hO4))
              clear hO hG hx hT hR
              by_cases e : LS p j = -1
              · have HS : Hid (side (LS p j) = 4294967295) := Lib.hid (by rw [e]; rfl)
                rw [e] at cj
                clear e hzl
                go_wp2_with fail
                refine (Wd.refput_any wr B (some ⟨g, 0, none⟩) n cap (FF n a' p f j) _ 4 _ HO.out hn (by omega)).mono ?_
                rintro _ w4 ⟨rfl, hG4, hO4⟩
                have HN' := HN.out w4 _ HS.out hG4 hO4
                clear hG4 hO4 cj HN HO HG HX HT
                dsimp only
                go_wp2_with fail
                go_roundw
                case rel => exact ⟨j + 1, by omega, by go_num, HN'⟩
                case measure => simp [intOf]; omega
              · have e' : (LS p j == -1) = false := by simpa using e
                have HS := Lib.hid (side_other e)
                generalize LS p j = z at *
                clear e
                go_wp2_with fail
                refine (Wd.refput_any wr B (some ⟨g, 0, none⟩) n cap (FF n a' p f j) _ 4 _ HO.out hn (by omega)).mono ?_
                rintro _ w4 ⟨rfl, hG4, hO4⟩
                have HN' := HN.out w4 _ HS.out hG4 hO4
                clear hG4 hO4 cj HN HO HG HX HT
                dsimp only
                go_wp2_with fail
                go_roundw
                case rel => exact ⟨j + 1, by omega, by go_num, HN'⟩
                case measure => simp [intOf]; omega
            · obtain rfl : j = 2 := by omega
              have HI : Hid (Wd.Own wr B (some ⟨g, 0, none⟩) n cap (mix (FF n a' p f 2) (a' + 8) 0 p.S) ∧ Wd.Only w wr (some ⟨g, 0, none⟩) ∧ wr.heap[w.heap.size]? = some (.cells (pV p).toArray 24 (0, 0)) ∧ w.heap.size < wr.heap.size) := Lib.hid ⟨by rw [mix_zero]; exact hO, hG, hx, by omega⟩
              clear hO hG hx hT hR hlt
              go_wp2_with fail
              generalize FF n a' p f 2 = F2 at *
              go_loopw [10] (fun i wr => ∃ j : Nat, j ≤ 32 ∧ i = .int .i64 j ∧ Hid (Wd.Own wr B (some ⟨g, 0, none⟩) n cap (mix F2 (a' + 8) j p.S) ∧ Wd.Only w wr (some ⟨g, 0, none⟩) ∧ wr.heap[w.heap.size]? = some (.cells (pV p).toArray 24 (0, 0)) ∧ w.heap.size < wr.heap.size)) (fun i _ => 32 - (intOf i).toNat)
              case atStart => exact ⟨0, by omega, rfl, HI⟩
              case round =>
                clear HI
                obtain ⟨j, hj, rfl, hR⟩ := hrel
                obtain ⟨hO, hG, hx, hlt⟩ := hR.out
                by_cases hj2 : j < 32
                · obtain ⟨hrow, hcell, hfree⟩ : Row wr g 0 n (mix F2 (a' + 8) j p.S) ∧ wr.cell? ⟨g, a' + 8 + j, none⟩ = some (.int .u8 (mix F2 (a' + 8) j p.S (a' + 8 + j))) ∧ wr.frozen? ⟨g, a' + 8 + j, none⟩ = false := by
                    rcases hO.row with ⟨e, _⟩ | ⟨g', e, _, hr⟩
                    · cases e
                    · injection e with e
                      injection e with e
                      subst e
                      have := hr.cell (j := a' + 8 + j) (by omega)
                      rw [Nat.zero_add] at this
                      exact ⟨hr, this, hr.free _⟩
                  have hS := cS_pt hx hj2
                  have hgl2 := hrow.lt
                  have HN : Hid (Wd.Own (wr.setCell ⟨g, a' + 8 + j, none⟩ (.int .u8 (p.S j))) B (some ⟨g, 0, none⟩) n cap (mix F2 (a' + 8) (j + 1) p.S) ∧ Wd.Only w (wr.setCell ⟨g, a' + 8 + j, none⟩ (.int .u8 (p.S j))) (some ⟨g, 0, none⟩) ∧ (wr.setCell ⟨g, a' + 8 + j, none⟩ (.int .u8 (p.S j))).heap[w.heap.size]? = some (.cells (pV p).toArray 24 (0, 0)) ∧ w.heap.size < (wr.setCell ⟨g, a' + 8 + j, none⟩ (.int .u8 (p.S j))).heap.size) := Lib.hid (by
                    refine ⟨⟨hcap, (fun e => by cases e), .inr ⟨g, rfl, hBg, ?_⟩⟩, only_store hG _ _, (Below.heap_setCell _ _ _ _ (show w.heap.size ≠ g by omega)).trans hx, by simpa using hlt⟩
                    have := hrow.store (a' + 8 + j) (p.S j)
                    rw [put_mix, Nat.zero_add] at this
                    exact this)
                  have hj0 : (0 : Int) ≤ (j : Int) := by omega
                  clear hrow hO hG hx hR
                  go_wp2_with fail
                  generalize wr.setCell ⟨g, a' + 8 + j, none⟩ (.int .u8 (p.S j)) = w5 at HN ⊢
                  clear hcell hfree hS
                  go_roundw
                  case rel => exact ⟨j + 1, by omega, by go_num, HN⟩
                  case measure => simp [intOf]; omega
                · obtain rfl : j = 32 := by omega
                  have HO := Lib.hid hO
                  have HG := Lib.hid hG
                  clear hO hG hx hR hlt
                  go_wp2_with fail
                  go_ret
                  refine ⟨by rw [HE2.out]; rfl, HG.out, ?_⟩
                  rw [HE.out]
                  exact HO.out
end Pt
end Go.Proofs.Ytnmljjehkdbbjaa
