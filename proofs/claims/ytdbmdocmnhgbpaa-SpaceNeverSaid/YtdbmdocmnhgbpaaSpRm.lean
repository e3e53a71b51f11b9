/- space: region, Room, of the code and of the reference. -/
import Derived.Test.YtdbmdocmnhgbpaaSpAs
namespace Go.Proofs.Ytdbmdocmnhgbpaa
set_option maxRecDepth 20000
namespace Sp
open Go.RowKit Dk Eqb Byt

set_option maxHeartbeats 1000000 in
theorem region0_any (A B : Int) (z : Nat) (b off : Nat) (n cap : Nat) (w : World) (hz1 : 1 ≤ z) (hz2 : z ≤ 2000) (hn : n = 2 * z) (hc : n ≤ cap) :
    Calls Try.prog 39 #[.agg #[.int .i64 A, .int .i64 B, .int .i64 z, .slice (some ⟨b, off, none⟩) n cap], .int .i64 0] w fun e w' => e = .returned (.slice (some ⟨b, off, none⟩) z cap) ∧ Below w.heap.size w w' := by
  have hb0 := (Below.refl w.heap.size w).alloc (Nat.le_refl _) (.cells #[.int .i64 A, .int .i64 B, .int .i64 z, .slice (some ⟨b, off, none⟩) n cap] 26)
  have h1 : (z : Int) ≤ (cap : Int) := by omega
  have hzi : (1 : Int) ≤ (z : Int) := by omega
  have hzj : (z : Int) ≤ 2000 := by omega
  clear hn
  go_enter Try.func39, Try.ntmps39
  go_wp2_with fail
  go_quiet (fail)
  go_wp2_with fail
  go_ret
  exact ⟨rfl, below_drewN hb0 _⟩
set_option maxHeartbeats 1000000 in
theorem region1_any (A B : Int) (z : Nat) (b off : Nat) (n cap : Nat) (w : World) (hz1 : 1 ≤ z) (hz2 : z ≤ 2000) (hn : n = 2 * z) (hc : n ≤ cap) :
    Calls Try.prog 39 #[.agg #[.int .i64 A, .int .i64 B, .int .i64 z, .slice (some ⟨b, off, none⟩) n cap], .int .i64 1] w fun e w' => e = .returned (.slice (some ⟨b, off + z, none⟩) z (cap - z)) ∧ Below w.heap.size w w' := by
  have hb0 := (Below.refl w.heap.size w).alloc (Nat.le_refl _) (.cells #[.int .i64 A, .int .i64 B, .int .i64 z, .slice (some ⟨b, off, none⟩) n cap] 26)
  have h1 : (z : Int) < (cap : Int) := by omega
  have h1' : z < cap := by omega
  have h3 : (z : Int) ≤ (n : Int) := by omega
  have h2 : (z : Int) ≤ ((cap - z : Nat) : Int) := by omega
  have hzi : (1 : Int) ≤ (z : Int) := by omega
  have hzj : (z : Int) ≤ 2000 := by omega
  clear hn
  go_enter Try.func39, Try.ntmps39
  go_wp2_with fail
  go_quiet (fail)
  go_wp2_with fail
  go_ret
  exact ⟨rfl, below_drewN hb0 _⟩
/-- how many of these states are free -/
def zN (f : Nat → Int) (a : Nat) : Nat → Int
  | 0 => 0
  | k + 1 => zN f a k + if f (a + k) == 0 then 1 else 0
theorem zN_bd (f : Nat → Int) (a : Nat) : ∀ k : Nat, 0 ≤ zN f a k ∧ zN f a k ≤ k
  | 0 => by simp [zN]
  | k + 1 => by
    have := zN_bd f a k
    rw [zN]
    split <;> omega
theorem zN_yes {f : Nat → Int} {a k : Nat} (h : (f (a + k) == 0) = true) : zN f a (k + 1) = zN f a k + 1 := by rw [zN, h]; simp
theorem zN_no {f : Nat → Int} {a k : Nat} (h : (f (a + k) == 0) = false) : zN f a (k + 1) = zN f a k := by rw [zN, h]; simp
def rm0 (A B Z : Int) (n : Nat) (f : Nat → Int) : Int := if formB A B Z n f then zN f 0 Z.toNat else 0
def rm1 (A B Z : Int) (n : Nat) (f : Nat → Int) : Int := if formB A B Z n f then zN f Z.toNat Z.toNat else 0

theorem zvS2 (w : World) : (zeroValue 23).run Try.prog w = .ok (.agg #[.int .i64 0, .int .i64 0]) w := (zero_of_info (P := Try.prog) (t := 23) (v := .agg #[.int .i64 0, .int .i64 0]) (n := 2) (by kernel_rfl)).1 w
/-- a variable of two ints -/
def R2 (w : World) (g : Nat) (x y : Int) : Prop := w.heap[g]? = some (.cells #[.int .i64 x, .int .i64 y] 23 (0, 0))
section
variable {w w' : World} {g : Nat} {x y : Int}
theorem R2.c0 (h : R2 w g x y) : w.cell? ⟨g, 0, none⟩ = some (.int .i64 x) := by rw [cell_of_row w g 0 _ _ _ h]; rfl
theorem R2.c1 (h : R2 w g x y) : w.cell? ⟨g, 1, none⟩ = some (.int .i64 y) := by rw [cell_of_row w g 1 _ _ _ h]; rfl
theorem R2.fr (h : R2 w g x y) (j : Nat) : w.frozen? ⟨g, j, none⟩ = false := frozen_of_row w g j _ _ h
theorem R2.lt (h : R2 w g x y) : g < w.heap.size := (Array.getElem?_eq_some_iff.1 h).1
theorem R2.block (h : R2 w g x y) (hb : w'.heap[g]? = w.heap[g]?) : R2 w' g x y := hb.trans h
theorem R2.s0 (h : R2 w g x y) (z : Int) : R2 (w.setCell ⟨g, 0, none⟩ (.int .i64 z)) g z y := by unfold R2; rw [heap_setCell_same w g 0 _ _ _ h]; rfl
theorem R2.s1 (h : R2 w g x y) (z : Int) : R2 (w.setCell ⟨g, 1, none⟩ (.int .i64 z)) g x z := by unfold R2; rw [heap_setCell_same w g 1 _ _ _ h]; rfl
theorem R2.results {tmps : Array Value} {fn : Func} {s : Nat} (hf : fn.results = #[.cell s 23]) (h2 : tmps.getD s undef = .pointer (some ⟨g, 0, none⟩)) (kV : R2 w g x y) : (results fn tmps).run Try.prog w = .ok (.agg #[.int .i64 x, .int .i64 y]) w := by
  have h2' : tmps[s]?.getD undef = .pointer (some ⟨g, 0, none⟩) := by simpa using h2
  have hv := run_loadVar_row (P := Try.prog) w g 23 23 #[.int .i64 x, .int .i64 y] (0, 0) _ kV (show Try.prog.underlying 23 = some (.array 2 3) by kernel_rfl) rfl (by kernel_rfl)
  simp [Go.results, hf, h2', asAddr, hv]
end
/-- Room's own memory: the space, the answer, the counts -/
structure RW (w : World) (A B Z : Int) (ao : Option Addr) (n cap : Nat) (x y : Int) (wr : World) : Prop where
  be : Below w.heap.size w wr
  sp : Bs wr w.heap.size A B Z ao n cap
  re : R2 wr (w.heap.size + 1) 0 0
  ct : R2 wr (w.heap.size + 1 + 1) x y
theorem RW.later {w wr w' : World} {A B Z x y : Int} {ao : Option Addr} {n cap : Nat} (h : RW w A B Z ao n cap x y wr) (hb : Below wr.heap.size wr w') : RW w A B Z ao n cap x y w' :=
  ⟨h.be.trans (hb.mono h.be.size), h.sp.block (hb.block _ h.sp.lt), h.re.block (hb.block _ h.re.lt), h.ct.block (hb.block _ h.ct.lt)⟩
theorem RW.p0 {w wr : World} {A B Z x y : Int} {ao : Option Addr} {n cap : Nat} (h : RW w A B Z ao n cap x y wr) (z : Int) : RW w A B Z ao n cap z y (wr.setCell ⟨w.heap.size + 1 + 1, 0, none⟩ (.int .i64 z)) :=
  ⟨h.be.setCell (show w.heap.size ≤ w.heap.size + 1 + 1 by omega) _, h.sp.block (heap_setCell_other _ _ _ _ (show w.heap.size ≠ w.heap.size + 1 + 1 by omega)), h.re.block (heap_setCell_other _ _ _ _ (show w.heap.size + 1 ≠ w.heap.size + 1 + 1 by omega)), h.ct.s0 z⟩
theorem RW.p1 {w wr : World} {A B Z x y : Int} {ao : Option Addr} {n cap : Nat} (h : RW w A B Z ao n cap x y wr) (z : Int) : RW w A B Z ao n cap x z (wr.setCell ⟨w.heap.size + 1 + 1, 1, none⟩ (.int .i64 z)) :=
  ⟨h.be.setCell (show w.heap.size ≤ w.heap.size + 1 + 1 by omega) _, h.sp.block (heap_setCell_other _ _ _ _ (show w.heap.size ≠ w.heap.size + 1 + 1 by omega)), h.re.block (heap_setCell_other _ _ _ _ (show w.heap.size + 1 ≠ w.heap.size + 1 + 1 by omega)), h.ct.s1 z⟩
theorem rw_start (w : World) (A B Z : Int) (ao : Option Addr) (n cap : Nat) : ∃ W, W = ((w.alloc (.cells #[.int .i64 A, .int .i64 B, .int .i64 Z, .slice ao n cap] 26)).alloc (.cells #[.int .i64 0, .int .i64 0] 23)).alloc (.cells #[.int .i64 0, .int .i64 0] 23) ∧ RW w A B Z ao n cap 0 0 W ∧ W.heap.size = w.heap.size + 3 := by
  refine ⟨_, rfl, ⟨(((Below.refl _ _).alloc (Nat.le_refl _) _).alloc (by simp) _).alloc (by simp; omega) _, ?_, ?_, ?_⟩, by simp⟩
  · unfold Bs
    rw [Below.heap_alloc _ _ _ (by simp; omega), Below.heap_alloc _ _ _ (by simp), heap_alloc_new]
  · unfold R2
    rw [Below.heap_alloc _ _ _ (by simp), ← World.size_alloc w (.cells #[.int .i64 A, .int .i64 B, .int .i64 Z, .slice ao n cap] 26), heap_alloc_new]
  · unfold R2
    have := heap_alloc_new ((w.alloc (.cells #[.int .i64 A, .int .i64 B, .int .i64 Z, .slice ao n cap] 26)).alloc (.cells #[.int .i64 0, .int .i64 0] 23)) (.cells #[.int .i64 0, .int .i64 0] 23)
    rwa [World.size_alloc, World.size_alloc] at this

section
attribute [local go_sem] zvS2
set_option maxRecDepth 100000 in
set_option maxHeartbeats 4000000 in
theorem Room_any (A B Z : Int) (ao : Option Addr) (n cap : Nat) (f : Nat → Int) (w : World) (hB : i64 B) (hs : St w w.heap.size ao n cap f) :
    Calls Try.prog 20 #[.agg #[.int .i64 A, .int .i64 B, .int .i64 Z, .slice ao n cap]] w fun e w' => e = .returned (.agg #[.int .i64 (rm0 A B Z n f), .int .i64 (rm1 A B Z n f)]) ∧ Below w.heap.size w w' := by
  obtain ⟨W, hW, hRW, hsW⟩ := rw_start w A B Z ao n cap
  have HS := Lib.hid (hs.later hRW.be)
  have HF := Lib.hid (Formed_any A B Z ao n cap f W hB hs.room HS.out.lies)
  have hnr := hs.room
  unfold rm0 rm1
  cases hp : formB A B Z n f with
  | false =>
    rw [hp] at HF
    clear hp hs
    go_enter Try.func20, Try.ntmps20
    go_wp2_with fail
    rw [← hW]
    clear hW
    refine HF.out.mono ?_
    rintro _ w1 ⟨rfl, hb1⟩
    dsimp only
    have HR1 := hRW.later hb1
    have e0 := HR1.ct.c0
    have e1 := HR1.ct.c1
    have r0 := HR1.re.c0
    have r1 := HR1.re.c1
    have rf0 := HR1.re.fr 0
    have rf1 := HR1.re.fr 1
    go_wp2_with fail
    refine bodyPost_ret (R2.results rfl rfl ((HR1.re.s0 0).s1 0)) rfl ?_
    exact ⟨rfl, (HR1.be.setCell (show w.heap.size ≤ w.heap.size + 1 by omega) _).setCell (show w.heap.size ≤ w.heap.size + 1 by omega) _⟩
  | true =>
    rw [hp] at HF
    obtain ⟨z, rfl⟩ : ∃ z : Nat, Z = z := ⟨Z.toNat, by have := (ap_of hp).z1; omega⟩
    have hz1 : 1 ≤ z := by have := (ap_of hp).z1; omega
    have hz2 : z ≤ 2000 := by have := (ap_of hp).z2; omega
    have hn2 : n = 2 * z := by have := n_of hp; omega
    obtain ⟨b, off, rfl, hbw, hnc, hc⟩ := bytes_tab hs.lies (by omega)
    have HC := Lib.hid hc
    have HN2 := Lib.hid hn2
    clear hp hs hc HS hn2
    rw [Int.toNat_natCast]
    go_enter Try.func20, Try.ntmps20
    go_wp2_with fail
    rw [← hW]
    clear hW
    refine HF.out.mono ?_
    rintro _ w1 ⟨rfl, hb1⟩
    dsimp only
    have HR1 := Lib.hid (hRW.later hb1)
    clear hRW hb1 HF hsW
    go_wp2_with fail
    go_loopw [11] (fun i wr => ∃ j : Nat, j ≤ 2 ∧ i = .int .i64 j ∧ Hid (RW w A B z (some ⟨b, off, none⟩) n cap (if 1 ≤ j then zN f 0 z else 0) (if 2 ≤ j then zN f z z else 0) wr)) (fun i _ => 2 - (intOf i).toNat)
    case atStart => exact ⟨0, by omega, rfl, HR1⟩
    case round =>
      clear HR1
      obtain ⟨j, hj, rfl, hR⟩ := hrel
      obtain ⟨wo, ewo⟩ : ∃ wo, wo = wr := ⟨_, rfl⟩
      subst ewo
      have e0 := hR.out.sp.c0
      have e1 := hR.out.sp.c1
      have e2 := hR.out.sp.c2
      have e3 := hR.out.sp.c3
      obtain rfl | rfl | rfl : j = 0 ∨ j = 1 ∨ j = 2 := by omega
      · go_wp2_with fail
        refine (region0_any A B z b off n cap wo hz1 hz2 HN2.out hnc).mono ?_
        rintro _ w3 ⟨rfl, hb3⟩
        dsimp only
        have HR3 := Lib.hid (hR.out.later hb3)
        clear hb3 e0 e1 e2 e3
        go_wp2_with fail
        go_loopw [18] (fun i wr => ∃ k : Nat, k ≤ z ∧ i = .int .i64 k ∧ Hid (RW w A B z (some ⟨b, off, none⟩) n cap (zN f 0 k) (0) wr)) (fun i _ => z - (intOf i).toNat)
        case atStart => exact ⟨0, by omega, rfl, Lib.hid (by simpa [zN] using HR3.out)⟩
        case round =>
          clear HR3
          obtain ⟨k, hk, rfl, hK⟩ := hrel
          by_cases hlk : k < z
          · have hck := (hK.out.be.cell (p := ⟨b, off + k, none⟩) hbw).trans (HC.out k (by have := HN2.out; omega))
            have hk0 : (0 : Int) ≤ (k : Int) := by omega
            have hkz : (k : Int) < (z : Int) := by omega
            have hbd := zN_bd f 0 k
            have HY := Lib.hid (fun h => zN_yes (f := f) (a := 0) (k := k) h)
            have HO := Lib.hid (fun h => zN_no (f := f) (a := 0) (k := k) h)
            have g0 := hK.out.ct.c0
            have gf := hK.out.ct.fr 0
            have e00 : f (0 + k) = f k := by rw [Nat.zero_add]
            rw [e00] at HY HO
            clear e00
            generalize f k = v at hck HY HO
            cases hv : v == 0 with
            | true =>
              have HM := Lib.hid (hK.out.p0 (zN f 0 (k + 1)))
              rw [HY.out hv] at HM
              have HM2 := Lib.hid (HY.out hv)
              clear HY HO hK
              generalize zN f 0 k = c at *
              obtain ⟨hc0, hc1⟩ := hbd
              go_wp2_with fail
              go_roundw
              case rel => exact ⟨k + 1, by omega, by go_num, by rw [HM2.out]; exact HM⟩
              case measure => simp [intOf]; omega
            | false =>
              rw [← HO.out hv] at hK
              clear HY HO g0 gf hbd
              go_wp2_with fail
              go_roundw
              case rel => exact ⟨k + 1, by omega, by go_num, hK⟩
              case measure => simp [intOf]; omega
          · obtain rfl : k = z := by omega
            go_wp2_with fail
            exact ⟨⟨1, by omega, by go_num, hK⟩, by simp [intOf]⟩
      · rw [show ((1 : Nat) : Int) = 1 from rfl]
        go_wp2_with fail
        refine (region1_any A B z b off n cap wo hz1 hz2 HN2.out hnc).mono ?_
        rintro _ w3 ⟨rfl, hb3⟩
        dsimp only
        have HR3 := Lib.hid (hR.out.later hb3)
        clear hb3 e0 e1 e2 e3
        go_wp2_with fail
        go_loopw [18] (fun i wr => ∃ k : Nat, k ≤ z ∧ i = .int .i64 k ∧ Hid (RW w A B z (some ⟨b, off, none⟩) n cap (zN f 0 z) (zN f z k) wr)) (fun i _ => z - (intOf i).toNat)
        case atStart => exact ⟨0, by omega, rfl, Lib.hid (by simpa [zN] using HR3.out)⟩
        case round =>
          clear HR3
          obtain ⟨k, hk, rfl, hK⟩ := hrel
          by_cases hlk : k < z
          · have hck := (hK.out.be.cell (p := ⟨b, off + z + k, none⟩) hbw).trans ((congrArg (fun o => w.cell? ⟨b, o, none⟩) (Nat.add_assoc off z k)).trans (HC.out (z + k) (by have := HN2.out; omega)))
            have hk0 : (0 : Int) ≤ (k : Int) := by omega
            have hkz : (k : Int) < (z : Int) := by omega
            have hbd := zN_bd f z k
            have HY := Lib.hid (fun h => zN_yes (f := f) (a := z) (k := k) h)
            have HO := Lib.hid (fun h => zN_no (f := f) (a := z) (k := k) h)
            have g0 := hK.out.ct.c1
            have gf := hK.out.ct.fr 1
            generalize f (z + k) = v at hck HY HO
            cases hv : v == 0 with
            | true =>
              have HM := Lib.hid (hK.out.p1 (zN f z (k + 1)))
              rw [HY.out hv] at HM
              have HM2 := Lib.hid (HY.out hv)
              clear HY HO hK
              generalize zN f z k = c at *
              obtain ⟨hc0, hc1⟩ := hbd
              go_wp2_with fail
              go_roundw
              case rel => exact ⟨k + 1, by omega, by go_num, by rw [HM2.out]; exact HM⟩
              case measure => simp [intOf]; omega
            | false =>
              rw [← HO.out hv] at hK
              clear HY HO g0 gf hbd
              go_wp2_with fail
              go_roundw
              case rel => exact ⟨k + 1, by omega, by go_num, hK⟩
              case measure => simp [intOf]; omega
          · obtain rfl : k = z := by omega
            go_wp2_with fail
            exact ⟨⟨2, by omega, by go_num, hK⟩, by simp [intOf]⟩
      · have HR1 := hR.out
        have r0 := HR1.ct.c0
        have r1 := HR1.ct.c1
        have q0 := HR1.re.c0
        have q1 := HR1.re.c1
        have rf0 := HR1.re.fr 0
        have rf1 := HR1.re.fr 1
        rw [if_pos (by omega)] at r0
        rw [if_pos (by omega)] at r1
        go_wp2_with fail
        refine bodyPost_ret (R2.results rfl rfl ((HR1.re.s0 _).s1 _)) rfl ?_
        exact ⟨rfl, (HR1.be.setCell (show w.heap.size ≤ w.heap.size + 1 by omega) _).setCell (show w.heap.size ≤ w.heap.size + 1 by omega) _⟩
set_option maxRecDepth 100000 in
set_option maxHeartbeats 4000000 in
theorem refRoom_any (A B Z : Int) (ao : Option Addr) (n cap : Nat) (f : Nat → Int) (w : World) (hs : St w w.heap.size ao n cap f) :
    Calls Try.prog 21 #[.agg #[.int .i64 A, .int .i64 B, .int .i64 Z, .slice ao n cap]] w fun e w' => e = .returned (.agg #[.int .i64 (rm0 A B Z n f), .int .i64 (rm1 A B Z n f)]) ∧ Below w.heap.size w w' := by
  obtain ⟨W, hW, hRW, hsW⟩ := rw_start w A B Z ao n cap
  have HS := Lib.hid (hs.later hRW.be)
  have HF := Lib.hid (refFormed_any A B Z ao n cap f W hs.room HS.out.lies)
  have hnr := hs.room
  unfold rm0 rm1
  cases hp : formB A B Z n f with
  | false =>
    rw [hp] at HF
    clear hp hs
    go_enter Try.func21, Try.ntmps21
    go_wp2_with fail
    rw [← hW]
    clear hW
    refine HF.out.mono ?_
    rintro _ w1 ⟨rfl, hb1⟩
    dsimp only
    have HR1 := hRW.later hb1
    have e0 := HR1.ct.c0
    have e1 := HR1.ct.c1
    have r0 := HR1.re.c0
    have r1 := HR1.re.c1
    have rf0 := HR1.re.fr 0
    have rf1 := HR1.re.fr 1
    go_wp2_with fail
    refine bodyPost_ret (R2.results rfl rfl ((HR1.re.s0 0).s1 0)) rfl ?_
    exact ⟨rfl, (HR1.be.setCell (show w.heap.size ≤ w.heap.size + 1 by omega) _).setCell (show w.heap.size ≤ w.heap.size + 1 by omega) _⟩
  | true =>
    rw [hp] at HF
    obtain ⟨z, rfl⟩ : ∃ z : Nat, Z = z := ⟨Z.toNat, by have := (ap_of hp).z1; omega⟩
    have hz1 : 1 ≤ z := by have := (ap_of hp).z1; omega
    have hz2 : z ≤ 2000 := by have := (ap_of hp).z2; omega
    have hn2 : n = 2 * z := by have := n_of hp; omega
    obtain ⟨b, off, rfl, hbw, hnc, hc⟩ := bytes_tab hs.lies (by omega)
    have HC := Lib.hid hc
    have HN2 := Lib.hid hn2
    have hz0 : ((z : Int) == 0) = false := beq_eq_false_iff_ne.2 (by omega)
    clear hp hs hc HS hn2
    rw [Int.toNat_natCast]
    go_enter Try.func21, Try.ntmps21
    go_wp2_with fail
    rw [← hW]
    clear hW
    refine HF.out.mono ?_
    rintro _ w1 ⟨rfl, hb1⟩
    dsimp only
    have HR1 := Lib.hid (hRW.later hb1)
    clear hRW hb1 HF hsW
    go_wp2_with fail
    go_loopw [4] (fun i wr => ∃ j : Nat, j ≤ n ∧ i = .int .i64 j ∧ Hid (RW w A B z (some ⟨b, off, none⟩) n cap (zN f 0 (min j z)) (zN f z (j - z)) wr)) (fun i _ => n - (intOf i).toNat)
    case atStart => exact ⟨0, by omega, rfl, by rw [Nat.zero_min, Nat.zero_sub]; exact HR1⟩
    case round =>
      clear HR1
      obtain ⟨j, hj, rfl, hR⟩ := hrel
      have e2 := hR.out.sp.c2
      have e3 := hR.out.sp.c3
      by_cases hlt : j < n
      · have hj0 : (0 : Int) ≤ (j : Int) := by omega
        have hjn : (j : Int) < (n : Int) := by omega
        have hcj := (hR.out.be.cell (p := ⟨b, off + j, none⟩) hbw).trans (HC.out j hlt)
        by_cases hjz : j < z
        · have hqv : Int.tdiv (j : Int) (z : Int) = 0 := Int.tdiv_eq_zero_of_lt (by omega) (by omega)
          have HD : Hid (min (j + 1) z = j + 1 ∧ min j z = j ∧ j + 1 - z = 0 ∧ j - z = 0) := Lib.hid (by omega)
          rw [HD.out.2.1, HD.out.2.2.2] at hR
          have hqw : IntKind.i64.wrap (Int.tdiv (j : Int) (z : Int)) = 0 := by rw [hqv]; rfl
          have hbd := zN_bd f 0 j
          have HY := Lib.hid (fun h => zN_yes (f := f) (a := 0) (k := j) h)
          have HO := Lib.hid (fun h => zN_no (f := f) (a := 0) (k := j) h)
          rw [show f (0 + j) = f j by rw [Nat.zero_add]] at HY HO
          have g0 := hR.out.ct.c0
          have gf := hR.out.ct.fr 0
          generalize f j = v at hcj HY HO
          cases hv : v == 0 with
          | true =>
            have HM := Lib.hid (hR.out.p0 (zN f 0 (j + 1)))
            rw [HY.out hv] at HM
            have HM2 := Lib.hid (HY.out hv)
            clear HY HO hR
            generalize zN f 0 j = c at *
            obtain ⟨hc0, hc1⟩ := hbd
            go_wp2_with fail
            go_roundw
            case rel => exact ⟨j + 1, by omega, by go_num, by rw [HD.out.1, HD.out.2.2.1, HM2.out]; exact HM⟩
            case measure => simp [intOf]; omega
          | false =>
            rw [← HO.out hv] at hR
            clear HY HO g0 gf hbd
            go_wp2_with fail
            go_roundw
            case rel => exact ⟨j + 1, by omega, by go_num, by rw [HD.out.1, HD.out.2.2.1]; exact hR⟩
            case measure => simp [intOf]; omega
        · have hqv : Int.tdiv (j : Int) (z : Int) = 1 := by
            have h1 : (j : Int) = (z : Int) + ((j - z : Nat) : Int) := by omega
            have hn2 := HN2.out
            rw [Int.tdiv_eq_ediv_of_nonneg (by omega), h1, Int.add_ediv_of_dvd_left (Int.dvd_refl _), Int.ediv_self (by omega), Int.ediv_eq_zero_of_lt (by omega) (by omega)]
            rfl
          obtain ⟨k, hk⟩ : ∃ k, j = z + k := ⟨j - z, by omega⟩
          have HD : Hid (min (j + 1) z = z ∧ min j z = z ∧ j + 1 - z = k + 1 ∧ j - z = k) := Lib.hid (by omega)
          rw [HD.out.2.1, HD.out.2.2.2] at hR
          have hqw : IntKind.i64.wrap (Int.tdiv (j : Int) (z : Int)) = 1 := by rw [hqv]; rfl
          have hbd := zN_bd f z k
          have HY := Lib.hid (fun h => zN_yes (f := f) (a := z) (k := k) h)
          have HO := Lib.hid (fun h => zN_no (f := f) (a := z) (k := k) h)
          have hkb : (k : Int) ≤ 4000 := by have := HN2.out; omega
          rw [← hk] at HY HO
          clear hk
          have g0 := hR.out.ct.c1
          have gf := hR.out.ct.fr 1
          generalize f j = v at hcj HY HO
          cases hv : v == 0 with
          | true =>
            have HM := Lib.hid (hR.out.p1 (zN f z (k + 1)))
            rw [HY.out hv] at HM
            have HM2 := Lib.hid (HY.out hv)
            clear HY HO hR
            generalize zN f z k = c at *
            obtain ⟨hc0, hc1⟩ := hbd
            go_wp2_with fail
            go_roundw
            case rel => exact ⟨j + 1, by omega, by go_num, by rw [HD.out.1, HD.out.2.2.1, HM2.out]; exact HM⟩
            case measure => simp [intOf]; omega
          | false =>
            rw [← HO.out hv] at hR
            clear HY HO g0 gf hbd
            go_wp2_with fail
            go_roundw
            case rel => exact ⟨j + 1, by omega, by go_num, by rw [HD.out.1, HD.out.2.2.1]; exact hR⟩
            case measure => simp [intOf]; omega
      · obtain rfl : j = n := by omega
        have HD : Hid (min j z = z ∧ j - z = z) := Lib.hid (by have := HN2.out; omega)
        rw [HD.out.1, HD.out.2] at hR
        have HR1 := hR.out
        have r0 := HR1.ct.c0
        have r1 := HR1.ct.c1
        have q0 := HR1.re.c0
        have q1 := HR1.re.c1
        have rf0 := HR1.re.fr 0
        have rf1 := HR1.re.fr 1
        go_wp2_with fail
        refine bodyPost_ret (R2.results rfl rfl ((HR1.re.s0 _).s1 _)) rfl ?_
        exact ⟨rfl, (HR1.be.setCell (show w.heap.size ≤ w.heap.size + 1 by omega) _).setCell (show w.heap.size ≤ w.heap.size + 1 by omega) _⟩
end
end Sp
end Go.Proofs.Ytdbmdocmnhgbpaa
