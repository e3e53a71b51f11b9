/- EntryBack (made by tools/gen_enback.py). -/
import Derived.Test.YtdilbicdaljfkaaEnTk
import Derived.Test.YtdilbicdaljfkaaEnF
import Derived.Test.YtdilbicdaljfkaaEnL
namespace Go.Proofs.Ytdilbicdaljfkaa
set_option maxRecDepth 20000
namespace En
open Go.RowKit Sha

theorem byte_byL {l : List E} (hr : rt l = true) : Byte (byL l) := by
  intro z hz
  obtain ⟨x, hx, hz⟩ := List.mem_flatMap.1 hz
  obtain ⟨hv, h1, h2⟩ := rt_mem hr x hx
  have hvl := valid_len hv
  simp only [by1, List.mem_cons, nb, List.mem_map] at hz
  rcases hz with rfl | rfl | ⟨b, _, rfl⟩
  · omega
  · omega
  · have := b.toNat_lt
    omega
theorem tV_bad {xs : List Int} (h : tE xs ≠ 0) : tV xs = [] := by
  unfold tE tV at *
  split at h
  · rfl
  · split at h
    · exact absurd rfl h
    · rename_i hr
      rw [if_neg hr]
theorem wV_bad {l : List E} {x : E} (h : wE l x ≠ 0) : wV l x = [] := by
  unfold wV
  rw [if_neg h]
theorem wE_rt {l : List E} {x : E} (h : wE l x = 0) : rt l = true := by
  unfold wE at h
  split at h
  · cases h
  · rename_i h1
    simpa using h1

set_option maxHeartbeats 8000000 in
theorem entryback_any (l : List E) (x0 : E) (ys : List Int) (ao bo : Option Addr) (cap cb : Nat) (w : World) (h : LiesE w w.heap.size ao cap l) (hn : l.length * 24 ≤ 140737488355328) (hy : Lies w w.heap.size bo cb ys) (hB : Byte ys) (hm : ys.length ≤ 140737488355328) :
    Calls Try.prog 7 #[.slice ao l.length cap, .agg (eV x0).toArray, .slice bo ys.length cb] w fun e w' => e = .returned (.bool true) ∧ Below w.heap.size w w' := by
  obtain ⟨x, n⟩ := x0
  show Calls Try.prog 7 #[.slice ao l.length cap, .agg #[.string ⟨x.toArray⟩, .int .i64 n], .slice bo ys.length cb] w _
  obtain ⟨W, hW⟩ : ∃ W, W = w.alloc (.cells #[.string ⟨x.toArray⟩, .int .i64 n] 44) := ⟨_, rfl⟩
  have hb0 : Below w.heap.size w W := by rw [hW]; exact (Below.refl _ _).alloc (Nat.le_refl _) _
  have hs0 : W.heap.size = w.heap.size + 1 := by rw [hW]; simp
  have hws : w.heap.size ≤ W.heap.size := by omega
  have x0 : W.cell? ⟨w.heap.size, 0, none⟩ = some (.string ⟨x.toArray⟩) := by rw [hW, cell_of_row _ _ _ _ _ _ (heap_alloc_new w _)]; rfl
  have x1 : W.cell? ⟨w.heap.size, 1, none⟩ = some (.int .i64 n) := by rw [hW, cell_of_row _ _ _ _ _ _ (heap_alloc_new w _)]; rfl
  have hl0 := h.to hb0 hws
  have hy0 := (hy.below hb0).more hws
  have HX := Lib.hid (fun W2 (hb : Below W.heap.size W W2) => And.intro ((hb.cell (p := ⟨w.heap.size, 0, none⟩) (show w.heap.size < W.heap.size by omega)).trans x0) ((hb.cell (p := ⟨w.heap.size, 1, none⟩) (show w.heap.size < W.heap.size by omega)).trans x1))
  have HL := Lib.hid (fun W2 (hb : Below W.heap.size W W2) => hl0.to hb hb.size)
  have HY := Lib.hid (fun W2 (hb : Below W.heap.size W W2) => (hy0.below hb).more hb.size)
  have HB := Lib.hid (fun W2 (hb : Below W.heap.size W W2) => hb0.trans (hb.mono hws))
  have HA := Lib.hid (alive_any W)
  have HT := Lib.hid (fun W2 (hb : Below W.heap.size W W2) => take_any ys bo cb W2 (HY.out W2 hb) hB hm)
  have HPL := Lib.hid (fun W2 (hb : Below W.heap.size W W2) => put_any l ao cap W2 (HL.out W2 hb))
  have HBS := Lib.hid (fun co cc B B' W2 (h1 : Lies W2 B bo cb ys) (h2 : Lies W2 B' co cc ys) => same_any bo co cb cc B B' _ _ ys ys W2 rfl rfl h1 h2 hB hB)
  simp only [decide_true] at HBS
  have HSE := Lib.hid (fun qo qc W2 (hb : Below W.heap.size W W2) (hq : LiesE W2 W2.heap.size qo qc l) => sameE_any l l qo ao qc cap W2 hq (HL.out W2 hb) (by omega) (by omega))
  simp only [decide_true] at HSE
  clear h hy hl0 hy0 x0 x1 hb0
  by_cases hr : rt l = true
  · have HBY := byte_byL hr
    have hbl : (byL l).length ≤ 140737488355328 := by
      have := by_len l fun y hy => (valid_len (rt_mem hr y hy).1).2
      have := rt_len hr
      omega
    have HTP := Lib.hid (fun po pc W2 (hP : Lies W2 W2.heap.size po pc (byL l)) => take_any (byL l) po pc W2 hP HBY hbl)
    rw [(t_put hr).1, (t_put hr).2] at HTP
    rw [show pE l = 0 by simp [pE, hr], show pV l = byL l by simp [pV, hr]] at HPL
    have HWI : Hid (∀ W2, Below W.heap.size W W2 → Calls Try.prog 24 #[.slice ao l.length cap, .agg #[.string ⟨x.toArray⟩, .int .i64 n]] W2 fun e w' => ∃ v, e = .returned (.tuple #[v, .int .i64 (wE l (x, n))]) ∧ OwnE w' W2.heap.size v (wV l (x, n)) ∧ Below W2.heap.size W2 w') := Lib.hid fun W2 hb => with_any l (x, n) ao cap W2 (HL.out W2 hb)
    clear HBY hbl
    generalize byL l = P at HPL HTP
    by_cases hw : wE l (x, n) = 0
    · obtain ⟨k1, k2, k3, k4, k5⟩ := w_back hw
      have hlw : (wV l (x, n)).length ≤ 140737488355328 := by have := rt_len k1; omega
      have HFI := Lib.hid (fun so sc W2 (hS : LiesE W2 W2.heap.size so sc (wV l (x, n))) => find_any (wV l (x, n)) x so sc W2 hS hlw)
      have HWO := Lib.hid (fun so sc W2 (hS : LiesE W2 W2.heap.size so sc (wV l (x, n))) => without_any (wV l (x, n)) x so sc W2 hS)
      have HRW := Lib.hid (fun so sc W2 (hS : LiesE W2 W2.heap.size so sc (wV l (x, n))) => right_any (wV l (x, n)) so sc W2 hS)
      simp only at k2 k3 k4 k5
      rw [k2, k3] at HFI
      rw [k4, k5] at HWO
      rw [k1] at HRW
      rw [hw] at HWI
      clear k1 k2 k3 k4 k5 hlw hw hr
      generalize wV l (x, n) = X at HWI HFI HWO HRW
      by_cases hT : tE ys = 0
      · have hte : tE ys = 0 := hT
        obtain ⟨hrm, hbm⟩ := put_t hB hte
        have HPM := Lib.hid (fun mo mc W2 (hM : LiesE W2 W2.heap.size mo mc (tV ys)) => put_any (tV ys) mo mc W2 hM)
        rw [show pE (tV ys) = 0 by simp [pE, hrm], show pV (tV ys) = ys by simp [pV, hrm, hbm]] at HPM
        rw [hte] at HT
        clear hte hT hrm hbm hB
        generalize tV ys = M at HT HPM
        go_enter Try.func7, Try.ntmps7
        go_wp2_with fail
        rw [← hW]
        clear hW
        refine HA.out.mono ?_
        rintro _ w1 ⟨rfl, hb1⟩
        go_wp2_with fail
        refine (HT.out w1 hb1).mono ?_
        rintro _ w2 ⟨v2, rfl, hO2, hb2⟩
        have hB2 := hb1.trans (hb2.mono hb1.size)
        obtain ⟨mo, mc, rfl, hM, _⟩ := hO2.slice
        clear hO2 hb2 hb1 HA HT
        go_wp2_with fail
        refine (HPM.out mo mc w2 hM).mono ?_
        rintro _ w3 ⟨v3, rfl, hO3, hb3⟩
        obtain ⟨co, cc, rfl, hC⟩ := hO3.slice
        have hB3 := hB2.trans (hb3.mono hB2.size)
        have hY3 := HY.out w3 hB3
        clear hO3 hM hb3 hB2
        go_wp2_with fail
        refine (HBS.out co cc _ _ w3 hY3 hC).mono ?_
        rintro _ _ ⟨rfl, rfl⟩
        clear hY3 hC HPM
        go_wp2_with fail
        refine (HPL.out w3 hB3).mono ?_
        rintro _ w4 ⟨v4, rfl, hO4, hb4⟩
        obtain ⟨po, pc, rfl, hP⟩ := hO4.slice
        have hB4 := hB3.trans (hb4.mono hB3.size)
        clear hO4 hb4
        go_wp2_with fail
        refine (HTP.out po pc w4 hP).mono ?_
        rintro _ w5 ⟨v5, rfl, hO5, hb5⟩
        obtain ⟨qo, qc, rfl, hQ, _⟩ := hO5.slice
        have hB5 := hB4.trans (hb5.mono hB4.size)
        obtain ⟨y0, y1⟩ := HX.out w5 hB5
        clear hO5 hb5 hP
        go_wp2_with fail
        refine (HWI.out w5 hB5).mono ?_
        rintro _ w6 ⟨v6, rfl, hO6, hb6⟩
        obtain ⟨so, sc, rfl, hS, _⟩ := hO6.slice
        have hB6 := hB5.trans (hb6.mono hB5.size)
        have hQ6 := hQ.to hb6 hb6.size
        clear hO6 hb6 hQ y0 y1
        go_wp2_with fail
        refine (HSE.out qo qc w6 hB6 hQ6).mono ?_
        rintro _ w7 ⟨rfl, hb7⟩
        have hB7 := hB6.trans (hb7.mono hB6.size)
        obtain ⟨y0, y1⟩ := HX.out w7 hB7
        have hS7 := hS.to hb7 hb7.size
        clear hS hb7 hQ6
        go_wp2_with fail
        refine (HFI.out so sc w7 hS7).mono ?_
        rintro _ w8 ⟨rfl, hb8⟩
        have hB8 := hB7.trans (hb8.mono hB7.size)
        obtain ⟨y0, y1⟩ := HX.out w8 hB8
        have hS8 := hS7.to hb8 hb8.size
        clear hS7 hb8
        go_wp2_with fail
        refine (HWO.out so sc w8 hS8).mono ?_
        rintro _ w9 ⟨v9, rfl, hO9, hb9⟩
        have hB9 := hB8.trans (hb9.mono hB8.size)
        obtain ⟨uo, uc, rfl, hU, _⟩ := hO9.slice
        obtain ⟨y0, y1⟩ := HX.out w9 hB9
        have hS9 := hS8.to hb9 hb9.size
        clear hS8 hb9 hO9
        go_wp2_with fail
        refine (HSE.out uo uc w9 hB9 hU).mono ?_
        rintro _ w10 ⟨rfl, hb10⟩
        have hB10 := hB9.trans (hb10.mono hB9.size)
        have hS10 := hS9.to hb10 hb10.size
        clear hS9 hb10 hU
        go_wp2_with fail
        refine (HRW.out so sc w10 hS10).mono ?_
        rintro _ w11 ⟨rfl, hb11⟩
        have hB11 := hB10.trans (hb11.mono hB10.size)
        go_wp2
        go_ret
        exact ⟨rfl, HB.out _ hB11⟩
      · have hte : (tE ys == 0) = false := by simp [hT]
        clear hT hB
        generalize tE ys = c at HT hte
        generalize tV ys = M at HT
        go_enter Try.func7, Try.ntmps7
        go_wp2_with fail
        rw [← hW]
        clear hW
        refine HA.out.mono ?_
        rintro _ w1 ⟨rfl, hb1⟩
        go_wp2_with fail
        refine (HT.out w1 hb1).mono ?_
        rintro _ w2 ⟨v2, rfl, hO2, hb2⟩
        have hB2 := hb1.trans (hb2.mono hb1.size)
        obtain ⟨mo, mc, rfl, hM, _⟩ := hO2.slice
        clear hO2 hb2 hb1 HA HT
        go_wp2_with fail
        refine (HPL.out w2 hB2).mono ?_
        rintro _ w4 ⟨v4, rfl, hO4, hb4⟩
        obtain ⟨po, pc, rfl, hP⟩ := hO4.slice
        have hB4 := hB2.trans (hb4.mono hB2.size)
        clear hO4 hb4
        go_wp2_with fail
        refine (HTP.out po pc w4 hP).mono ?_
        rintro _ w5 ⟨v5, rfl, hO5, hb5⟩
        obtain ⟨qo, qc, rfl, hQ, _⟩ := hO5.slice
        have hB5 := hB4.trans (hb5.mono hB4.size)
        obtain ⟨y0, y1⟩ := HX.out w5 hB5
        clear hO5 hb5 hP
        go_wp2_with fail
        refine (HWI.out w5 hB5).mono ?_
        rintro _ w6 ⟨v6, rfl, hO6, hb6⟩
        obtain ⟨so, sc, rfl, hS, _⟩ := hO6.slice
        have hB6 := hB5.trans (hb6.mono hB5.size)
        have hQ6 := hQ.to hb6 hb6.size
        clear hO6 hb6 hQ y0 y1
        go_wp2_with fail
        refine (HSE.out qo qc w6 hB6 hQ6).mono ?_
        rintro _ w7 ⟨rfl, hb7⟩
        have hB7 := hB6.trans (hb7.mono hB6.size)
        obtain ⟨y0, y1⟩ := HX.out w7 hB7
        have hS7 := hS.to hb7 hb7.size
        clear hS hb7 hQ6
        go_wp2_with fail
        refine (HFI.out so sc w7 hS7).mono ?_
        rintro _ w8 ⟨rfl, hb8⟩
        have hB8 := hB7.trans (hb8.mono hB7.size)
        obtain ⟨y0, y1⟩ := HX.out w8 hB8
        have hS8 := hS7.to hb8 hb8.size
        clear hS7 hb8
        go_wp2_with fail
        refine (HWO.out so sc w8 hS8).mono ?_
        rintro _ w9 ⟨v9, rfl, hO9, hb9⟩
        have hB9 := hB8.trans (hb9.mono hB8.size)
        obtain ⟨uo, uc, rfl, hU, _⟩ := hO9.slice
        obtain ⟨y0, y1⟩ := HX.out w9 hB9
        have hS9 := hS8.to hb9 hb9.size
        clear hS8 hb9 hO9
        go_wp2_with fail
        refine (HSE.out uo uc w9 hB9 hU).mono ?_
        rintro _ w10 ⟨rfl, hb10⟩
        have hB10 := hB9.trans (hb10.mono hB9.size)
        have hS10 := hS9.to hb10 hb10.size
        clear hS9 hb10 hU
        go_wp2_with fail
        refine (HRW.out so sc w10 hS10).mono ?_
        rintro _ w11 ⟨rfl, hb11⟩
        have hB11 := hB10.trans (hb11.mono hB10.size)
        go_wp2
        go_ret
        exact ⟨rfl, HB.out _ hB11⟩
    · have hc : (wE l (x, n) == 0) = false := by simp [hw]
      rw [wV_bad hw] at HWI
      clear hw hr
      generalize wE l (x, n) = c6 at HWI hc
      by_cases hT : tE ys = 0
      · have hte : tE ys = 0 := hT
        obtain ⟨hrm, hbm⟩ := put_t hB hte
        have HPM := Lib.hid (fun mo mc W2 (hM : LiesE W2 W2.heap.size mo mc (tV ys)) => put_any (tV ys) mo mc W2 hM)
        rw [show pE (tV ys) = 0 by simp [pE, hrm], show pV (tV ys) = ys by simp [pV, hrm, hbm]] at HPM
        rw [hte] at HT
        clear hte hT hrm hbm hB
        generalize tV ys = M at HT HPM
        go_enter Try.func7, Try.ntmps7
        go_wp2_with fail
        rw [← hW]
        clear hW
        refine HA.out.mono ?_
        rintro _ w1 ⟨rfl, hb1⟩
        go_wp2_with fail
        refine (HT.out w1 hb1).mono ?_
        rintro _ w2 ⟨v2, rfl, hO2, hb2⟩
        have hB2 := hb1.trans (hb2.mono hb1.size)
        obtain ⟨mo, mc, rfl, hM, _⟩ := hO2.slice
        clear hO2 hb2 hb1 HA HT
        go_wp2_with fail
        refine (HPM.out mo mc w2 hM).mono ?_
        rintro _ w3 ⟨v3, rfl, hO3, hb3⟩
        obtain ⟨co, cc, rfl, hC⟩ := hO3.slice
        have hB3 := hB2.trans (hb3.mono hB2.size)
        have hY3 := HY.out w3 hB3
        clear hO3 hM hb3 hB2
        go_wp2_with fail
        refine (HBS.out co cc _ _ w3 hY3 hC).mono ?_
        rintro _ _ ⟨rfl, rfl⟩
        clear hY3 hC HPM
        go_wp2_with fail
        refine (HPL.out w3 hB3).mono ?_
        rintro _ w4 ⟨v4, rfl, hO4, hb4⟩
        obtain ⟨po, pc, rfl, hP⟩ := hO4.slice
        have hB4 := hB3.trans (hb4.mono hB3.size)
        clear hO4 hb4
        go_wp2_with fail
        refine (HTP.out po pc w4 hP).mono ?_
        rintro _ w5 ⟨v5, rfl, hO5, hb5⟩
        obtain ⟨qo, qc, rfl, hQ, _⟩ := hO5.slice
        have hB5 := hB4.trans (hb5.mono hB4.size)
        obtain ⟨y0, y1⟩ := HX.out w5 hB5
        clear hO5 hb5 hP
        go_wp2_with fail
        refine (HWI.out w5 hB5).mono ?_
        rintro _ w6 ⟨v6, rfl, hO6, hb6⟩
        obtain ⟨so, sc, rfl, hS, _⟩ := hO6.slice
        have hB6 := hB5.trans (hb6.mono hB5.size)
        have hQ6 := hQ.to hb6 hb6.size
        clear hO6 hb6 hQ y0 y1
        go_wp2_with fail
        refine (HSE.out qo qc w6 hB6 hQ6).mono ?_
        rintro _ w7 ⟨rfl, hb7⟩
        have hB7 := hB6.trans (hb7.mono hB6.size)
        go_wp2
        go_ret
        exact ⟨rfl, HB.out _ hB7⟩
      · have hte : (tE ys == 0) = false := by simp [hT]
        clear hT hB
        generalize tE ys = c at HT hte
        generalize tV ys = M at HT
        go_enter Try.func7, Try.ntmps7
        go_wp2_with fail
        rw [← hW]
        clear hW
        refine HA.out.mono ?_
        rintro _ w1 ⟨rfl, hb1⟩
        go_wp2_with fail
        refine (HT.out w1 hb1).mono ?_
        rintro _ w2 ⟨v2, rfl, hO2, hb2⟩
        have hB2 := hb1.trans (hb2.mono hb1.size)
        obtain ⟨mo, mc, rfl, hM, _⟩ := hO2.slice
        clear hO2 hb2 hb1 HA HT
        go_wp2_with fail
        refine (HPL.out w2 hB2).mono ?_
        rintro _ w4 ⟨v4, rfl, hO4, hb4⟩
        obtain ⟨po, pc, rfl, hP⟩ := hO4.slice
        have hB4 := hB2.trans (hb4.mono hB2.size)
        clear hO4 hb4
        go_wp2_with fail
        refine (HTP.out po pc w4 hP).mono ?_
        rintro _ w5 ⟨v5, rfl, hO5, hb5⟩
        obtain ⟨qo, qc, rfl, hQ, _⟩ := hO5.slice
        have hB5 := hB4.trans (hb5.mono hB4.size)
        obtain ⟨y0, y1⟩ := HX.out w5 hB5
        clear hO5 hb5 hP
        go_wp2_with fail
        refine (HWI.out w5 hB5).mono ?_
        rintro _ w6 ⟨v6, rfl, hO6, hb6⟩
        obtain ⟨so, sc, rfl, hS, _⟩ := hO6.slice
        have hB6 := hB5.trans (hb6.mono hB5.size)
        have hQ6 := hQ.to hb6 hb6.size
        clear hO6 hb6 hQ y0 y1
        go_wp2_with fail
        refine (HSE.out qo qc w6 hB6 hQ6).mono ?_
        rintro _ w7 ⟨rfl, hb7⟩
        have hB7 := hB6.trans (hb7.mono hB6.size)
        go_wp2
        go_ret
        exact ⟨rfl, HB.out _ hB7⟩
  · have hr' : rt l = false := by simpa using hr
    rw [show pE l = 1 by simp [pE, hr'], show pV l = [] by simp [pV, hr']] at HPL
    clear hr hr'
    by_cases hT : tE ys = 0
    · have hte : tE ys = 0 := hT
      obtain ⟨hrm, hbm⟩ := put_t hB hte
      have HPM := Lib.hid (fun mo mc W2 (hM : LiesE W2 W2.heap.size mo mc (tV ys)) => put_any (tV ys) mo mc W2 hM)
      rw [show pE (tV ys) = 0 by simp [pE, hrm], show pV (tV ys) = ys by simp [pV, hrm, hbm]] at HPM
      rw [hte] at HT
      clear hte hT hrm hbm hB
      generalize tV ys = M at HT HPM
      go_enter Try.func7, Try.ntmps7
      go_wp2_with fail
      rw [← hW]
      clear hW
      refine HA.out.mono ?_
      rintro _ w1 ⟨rfl, hb1⟩
      go_wp2_with fail
      refine (HT.out w1 hb1).mono ?_
      rintro _ w2 ⟨v2, rfl, hO2, hb2⟩
      have hB2 := hb1.trans (hb2.mono hb1.size)
      obtain ⟨mo, mc, rfl, hM, _⟩ := hO2.slice
      clear hO2 hb2 hb1 HA HT
      go_wp2_with fail
      refine (HPM.out mo mc w2 hM).mono ?_
      rintro _ w3 ⟨v3, rfl, hO3, hb3⟩
      obtain ⟨co, cc, rfl, hC⟩ := hO3.slice
      have hB3 := hB2.trans (hb3.mono hB2.size)
      have hY3 := HY.out w3 hB3
      clear hO3 hM hb3 hB2
      go_wp2_with fail
      refine (HBS.out co cc _ _ w3 hY3 hC).mono ?_
      rintro _ _ ⟨rfl, rfl⟩
      clear hY3 hC HPM
      go_wp2_with fail
      refine (HPL.out w3 hB3).mono ?_
      rintro _ w4 ⟨v4, rfl, hO4, hb4⟩
      obtain ⟨po, pc, rfl, hP⟩ := hO4.slice
      have hB4 := hB3.trans (hb4.mono hB3.size)
      clear hO4 hb4
      go_wp2
      go_ret
      exact ⟨rfl, HB.out _ hB4⟩
    · have hte : (tE ys == 0) = false := by simp [hT]
      clear hT hB
      generalize tE ys = c at HT hte
      generalize tV ys = M at HT
      go_enter Try.func7, Try.ntmps7
      go_wp2_with fail
      rw [← hW]
      clear hW
      refine HA.out.mono ?_
      rintro _ w1 ⟨rfl, hb1⟩
      go_wp2_with fail
      refine (HT.out w1 hb1).mono ?_
      rintro _ w2 ⟨v2, rfl, hO2, hb2⟩
      have hB2 := hb1.trans (hb2.mono hb1.size)
      obtain ⟨mo, mc, rfl, hM, _⟩ := hO2.slice
      clear hO2 hb2 hb1 HA HT
      go_wp2_with fail
      refine (HPL.out w2 hB2).mono ?_
      rintro _ w4 ⟨v4, rfl, hO4, hb4⟩
      obtain ⟨po, pc, rfl, hP⟩ := hO4.slice
      have hB4 := hB2.trans (hb4.mono hB2.size)
      clear hO4 hb4
      go_wp2
      go_ret
      exact ⟨rfl, HB.out _ hB4⟩
end En
end Go.Proofs.Ytdilbicdaljfkaa
