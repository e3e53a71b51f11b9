/- space: State, Used, of the code and of the reference. -/
import Derived.Test.YtdbmdocmnhgbpaaSpPl
namespace Go.Proofs.Ytdbmdocmnhgbpaa
set_option maxRecDepth 20000
namespace Sp
open Go.RowKit Dk Eqb Byt

/-- a space's states -/
structure St (w : World) (K : Nat) (ao : Option Addr) (n cap : Nat) (f : Nat → Int) : Prop where
  lies : Lies w K ao cap (tab n f)
  byte : ∀ i, i < n → 0 ≤ f i ∧ f i < 256
  room : n ≤ 140737488355328
theorem St.below {w w' : World} {K K' : Nat} {ao : Option Addr} {n cap : Nat} {f : Nat → Int} (h : St w K ao n cap f) (hb : Below K' w w') (hK : K ≤ K') : St w' K ao n cap f := ⟨h.lies.below (hb.mono hK), h.byte, h.room⟩
theorem St.more {w : World} {K K' : Nat} {ao : Option Addr} {n cap : Nat} {f : Nat → Int} (h : St w K ao n cap f) (hK : K ≤ K') : St w K' ao n cap f := ⟨h.lies.more hK, h.byte, h.room⟩
theorem St.later {w w' : World} {ao : Option Addr} {n cap : Nat} {f : Nat → Int} (h : St w w.heap.size ao n cap f) (hb : Below w.heap.size w w') : St w' w'.heap.size ao n cap f := (h.below hb (Nat.le_refl _)).more hb.size
theorem ap_of {A B Z : Int} {n : Nat} {f : Nat → Int} (h : formB A B Z n f = true) : Ap A B Z := by
  obtain ⟨⟨h1, h2, h3, h4, h5⟩, _⟩ := formB_iff.1 h
  exact ⟨h1, h2, h3, h4, h5⟩
theorem n_of {A B Z : Int} {n : Nat} {f : Nat → Int} (h : formB A B Z n f = true) : (n : Int) = 2 * Z := (formB_iff.1 h).2.1
theorem le_of {A B Z : Int} {n : Nat} {f : Nat → Int} (h : formB A B Z n f = true) : ∀ i, i < n → f i ≤ 4 := (formB_iff.1 h).2.2
theorem at_of {A B Z x : Int} {n : Nat} {f : Nat → Int} (h : formB A B Z n f = true) (h0 : 0 ≤ plI A B Z x) : ∃ i : Nat, plI A B Z x = i ∧ i < n := by
  have := plI_lt (x := x) (ap_of h)
  have := n_of h
  exact ⟨(plI A B Z x).toNat, by omega, by omega⟩

def stB (A B Z : Int) (n : Nat) (f : Nat → Int) (x : Int) : Bool := formB A B Z n f && decide (0 ≤ plI A B Z x)
def stN (A B Z : Int) (n : Nat) (f : Nat → Int) (x : Int) : Int := if stB A B Z n f x then f (plI A B Z x).toNat else 0
def stE (A B Z : Int) (n : Nat) (f : Nat → Int) (x : Int) : Int := if stB A B Z n f x then 0 else 1

set_option maxHeartbeats 2000000 in
theorem State_any (A B Z x : Int) (ao : Option Addr) (n cap : Nat) (f : Nat → Int) (w : World) (hB : i64 B) (hx : i64 x) (hs : St w w.heap.size ao n cap f) :
    Calls Try.prog 14 #[.agg #[.int .i64 A, .int .i64 B, .int .i64 Z, .slice ao n cap], .int .i64 x] w fun e w' => e = .returned (.tuple #[.int .i64 (stN A B Z n f x), .int .i64 (stE A B Z n f x)]) ∧ Below w.heap.size w w' := by
  obtain ⟨W, hW, hbW, hsW, hxW⟩ := box_sp w A B Z ao n cap
  have HS := Lib.hid (hs.later hbW)
  have HF := Lib.hid (Formed_any A B Z ao n cap f W hB hs.room HS.out.lies)
  cases hp : formB A B Z n f with
  | false =>
    rw [hp] at HF
    have HV : Hid (stN A B Z n f x = 0 ∧ stE A B Z n f x = 1) := Lib.hid (by unfold stN stE stB; rw [hp]; exact ⟨rfl, rfl⟩)
    clear hs hp
    go_enter Try.func14, Try.ntmps14
    go_wp2_with fail
    rw [← hW]
    clear hW
    refine HF.out.mono ?_
    rintro _ w1 ⟨rfl, hb1⟩
    dsimp only
    go_wp2_with fail
    go_ret2
    exact ⟨by rw [HV.out.1, HV.out.2]; rfl, hbW.trans (hb1.mono (by omega))⟩
  | true =>
    rw [hp] at HF
    have HP := Lib.hid (fun w1 => place_any A B Z x ao n cap w1 hx (ap_of hp))
    cases hq : decide (0 ≤ plI A B Z x) with
    | false =>
      rw [hq] at HP
      have HV : Hid (stN A B Z n f x = 0 ∧ stE A B Z n f x = 1) := Lib.hid (by unfold stN stE stB; rw [hp, hq]; exact ⟨rfl, rfl⟩)
      clear hs hp hq
      go_enter Try.func14, Try.ntmps14
      go_wp2_with fail
      rw [← hW]
      clear hW
      refine HF.out.mono ?_
      rintro _ w1 ⟨rfl, hb1⟩
      dsimp only
      have d0 := (hxW.below hb1 (by omega)).c0
      have d1 := (hxW.below hb1 (by omega)).c1
      have d2 := (hxW.below hb1 (by omega)).c2
      have d3 := (hxW.below hb1 (by omega)).c3
      go_wp2_with fail
      refine (HP.out w1).mono ?_
      rintro _ w2 ⟨rfl, hb2⟩
      dsimp only
      generalize clip (plI A B Z x) = k
      go_wp2_with fail
      go_ret2
      exact ⟨by rw [HV.out.1, HV.out.2]; rfl, hbW.trans ((hb1.trans (hb2.mono hb1.size)).mono (by omega))⟩
    | true =>
      rw [hq] at HP
      obtain ⟨i, hi, hin⟩ := at_of hp (of_decide_eq_true hq)
      obtain ⟨b, off, rfl, hb, hnc, hc⟩ := bytes_tab HS.out.lies (by omega)
      have hci := hc i hin
      have hi0 : (0 : Int) ≤ (i : Int) := by omega
      have hin' : (i : Int) < (n : Int) := by omega
      have hv := hs.byte i hin
      have HV : Hid (stN A B Z n f x = f i ∧ stE A B Z n f x = 0) := Lib.hid (by unfold stN stE stB; rw [hp, hq, hi]; exact ⟨rfl, rfl⟩)
      have hk : clip (plI A B Z x) = i := by unfold clip; rw [if_pos (by omega), hi]
      rw [hk] at HP
      have hb' : b < W.heap.size := hb
      clear hs hp hq hk hi hc HS
      generalize f i = v at *
      obtain ⟨hv0, hv1⟩ := hv
      go_enter Try.func14, Try.ntmps14
      go_wp2_with fail
      rw [← hW]
      clear hW
      refine HF.out.mono ?_
      rintro _ w1 ⟨rfl, hb1⟩
      dsimp only
      have d0 := (hxW.below hb1 (by omega)).c0
      have d1 := (hxW.below hb1 (by omega)).c1
      have d2 := (hxW.below hb1 (by omega)).c2
      have d3 := (hxW.below hb1 (by omega)).c3
      go_wp2_with fail
      refine (HP.out w1).mono ?_
      rintro _ w2 ⟨rfl, hb2⟩
      dsimp only
      have hB2 := hb1.trans (hb2.mono hb1.size)
      have f3 := (hxW.below hB2 (by omega)).c3
      have fi := (hB2.cell (p := ⟨b, off + i, none⟩) hb').trans hci
      go_wp2_with fail
      go_ret2
      exact ⟨by rw [HV.out.1, HV.out.2]; rfl, hbW.trans (hB2.mono (by omega))⟩
set_option maxHeartbeats 2000000 in
theorem refState_any (A B Z x : Int) (ao : Option Addr) (n cap : Nat) (f : Nat → Int) (w : World) (hx : i64 x) (hs : St w w.heap.size ao n cap f) :
    Calls Try.prog 15 #[.agg #[.int .i64 A, .int .i64 B, .int .i64 Z, .slice ao n cap], .int .i64 x] w fun e w' => e = .returned (.tuple #[.int .i64 (stN A B Z n f x), .int .i64 (stE A B Z n f x)]) ∧ Below w.heap.size w w' := by
  obtain ⟨W, hW, hbW, hsW, hxW⟩ := box_sp w A B Z ao n cap
  have HS := Lib.hid (hs.later hbW)
  have HF := Lib.hid (refFormed_any A B Z ao n cap f W hs.room HS.out.lies)
  cases hp : formB A B Z n f with
  | false =>
    rw [hp] at HF
    have HV : Hid (stN A B Z n f x = 0 ∧ stE A B Z n f x = 1) := Lib.hid (by unfold stN stE stB; rw [hp]; exact ⟨rfl, rfl⟩)
    clear hs hp
    go_enter Try.func15, Try.ntmps15
    go_wp2_with fail
    rw [← hW]
    clear hW
    refine HF.out.mono ?_
    rintro _ w1 ⟨rfl, hb1⟩
    dsimp only
    go_wp2_with fail
    go_ret2
    exact ⟨by rw [HV.out.1, HV.out.2]; rfl, hbW.trans (hb1.mono (by omega))⟩
  | true =>
    rw [hp] at HF
    have HP := Lib.hid (fun w1 => refplace_any A B Z x ao n cap w1 hx (ap_of hp))
    by_cases hq : plI A B Z x < 0
    · have HV : Hid (stN A B Z n f x = 0 ∧ stE A B Z n f x = 1) := Lib.hid (by unfold stN stE stB; rw [hp, decide_eq_false (by omega)]; exact ⟨rfl, rfl⟩)
      clear hs hp
      go_enter Try.func15, Try.ntmps15
      go_wp2_with fail
      rw [← hW]
      clear hW
      refine HF.out.mono ?_
      rintro _ w1 ⟨rfl, hb1⟩
      dsimp only
      have d0 := (hxW.below hb1 (by omega)).c0
      have d1 := (hxW.below hb1 (by omega)).c1
      have d2 := (hxW.below hb1 (by omega)).c2
      have d3 := (hxW.below hb1 (by omega)).c3
      go_wp2_with fail
      refine (HP.out w1).mono ?_
      rintro _ w2 ⟨rfl, hb2⟩
      dsimp only
      go_wp2_with fail
      go_ret2
      exact ⟨by rw [HV.out.1, HV.out.2]; rfl, hbW.trans ((hb1.trans (hb2.mono hb1.size)).mono (by omega))⟩
    · obtain ⟨i, hi, hin⟩ := at_of hp (show 0 ≤ plI A B Z x by omega)
      obtain ⟨b, off, rfl, hb, hnc, hc⟩ := bytes_tab HS.out.lies (by omega)
      have hci := hc i hin
      have hi0 : (0 : Int) ≤ (i : Int) := by omega
      have hin' : (i : Int) < (n : Int) := by omega
      have hv := hs.byte i hin
      have HV : Hid (stN A B Z n f x = f i ∧ stE A B Z n f x = 0) := Lib.hid (by unfold stN stE stB; rw [hp, decide_eq_true (by omega), hi]; exact ⟨rfl, rfl⟩)
      rw [hi] at HP
      have hb' : b < W.heap.size := hb
      clear hs hp hq hi hc HS
      generalize f i = v at *
      obtain ⟨hv0, hv1⟩ := hv
      go_enter Try.func15, Try.ntmps15
      go_wp2_with fail
      rw [← hW]
      clear hW
      refine HF.out.mono ?_
      rintro _ w1 ⟨rfl, hb1⟩
      dsimp only
      have d0 := (hxW.below hb1 (by omega)).c0
      have d1 := (hxW.below hb1 (by omega)).c1
      have d2 := (hxW.below hb1 (by omega)).c2
      have d3 := (hxW.below hb1 (by omega)).c3
      go_wp2_with fail
      refine (HP.out w1).mono ?_
      rintro _ w2 ⟨rfl, hb2⟩
      dsimp only
      have hB2 := hb1.trans (hb2.mono hb1.size)
      have HX := Lib.hid (fun w' (hw' : Below W.heap.size W w') => hxW.below hw' (by omega))
      have HC := Lib.hid (fun w' (hw' : Below W.heap.size W w') => (hw'.cell (p := ⟨b, off + i, none⟩) hb').trans hci)
      clear hci d0 d1 d2 d3 hxW
      go_wp2_with fail
      refine wp_region_quiet (C := fun w' => Below W.heap.size W w') (by kernel_rfl) (by kernel_rfl) (hB2.trans ⟨rfl, rfl, rfl, Nat.le_refl _, fun _ _ => rfl⟩) ?_
      refine q_val (.pointer (some ⟨w.heap.size, 3, none⟩)) rfl (fun w' hw' => by go_simp) ?_
      simp only [Act.put, List.setIfInBounds_toArray, List.set_cons_succ, List.set_cons_zero]
      refine q_val (.slice (some ⟨b, off, none⟩) n cap) rfl (fun w' hw' => by have k3 := (HX.out w' hw').c3; go_simp) ?_
      simp only [Act.put, List.setIfInBounds_toArray, List.set_cons_succ, List.set_cons_zero]
      refine q_val (.agg #[.int .i64 A, .int .i64 B, .int .i64 Z, .slice (some ⟨b, off, none⟩) n cap]) rfl (fun w' hw' => by have k0 := (HX.out w' hw').c0; have k1 := (HX.out w' hw').c1; have k2 := (HX.out w' hw').c2; have k3 := (HX.out w' hw').c3; go_simp) ?_
      simp only [Act.put, List.setIfInBounds_toArray, List.set_cons_succ, List.set_cons_zero]
      refine q_move _ rfl rfl ?_
      simp only [Act.put, List.setIfInBounds_toArray, List.set_cons_succ, List.set_cons_zero]
      refine q_call 36 _ (.int .i64 i) rfl (fun w' => by go_simp) (fun w' hw' => (HP.out w').mono fun e w'' ⟨he, hb⟩ => ⟨he, hw'.trans (hb.mono hw'.size)⟩) ?_
      simp only [Act.put, List.setIfInBounds_toArray, List.set_cons_succ, List.set_cons_zero]
      refine q_val (.pointer (some ⟨b, off + i, none⟩)) rfl (fun w' hw' => by skip; go_simp) ?_
      simp only [Act.put, List.setIfInBounds_toArray, List.set_cons_succ, List.set_cons_zero]
      refine q_val (.int .u8 v) rfl (fun w' hw' => by have kv := HC.out w' hw'; go_simp) ?_
      simp only [Act.put, List.setIfInBounds_toArray, List.set_cons_succ, List.set_cons_zero]
      refine q_val (.int .i64 v) rfl (fun w' hw' => by have hvw : IntKind.i64.wrap v = v := IntWalk.i64_in _ (by omega); go_simp) ?_
      simp only [Act.put, List.setIfInBounds_toArray, List.set_cons_succ, List.set_cons_zero]
      refine q_val (.int .i64 v) rfl (fun w' hw' => by go_simp) ?_
      simp only [Act.put, List.setIfInBounds_toArray, List.set_cons_succ, List.set_cons_zero]
      refine q_val (.int .i64 0) rfl (fun w' hw' => by go_simp) ?_
      simp only [Act.put, List.setIfInBounds_toArray, List.set_cons_succ, List.set_cons_zero]
      refine wpQuiet_nil ?_
      intro w' hw'
      go_wp2_with fail
      go_ret2
      exact ⟨by rw [HV.out.1, HV.out.2]; rfl, hbW.trans (hw'.mono (by omega))⟩

def us (x : Int) : Bool := (x == 1) || (x == 2)
def usN (f : Nat → Int) : Nat → Int
  | 0 => 0
  | j + 1 => usN f j + if us (f j) then 1 else 0
theorem usN_bd (f : Nat → Int) : ∀ j : Nat, 0 ≤ usN f j ∧ usN f j ≤ j
  | 0 => by simp [usN]
  | j + 1 => by
    have := usN_bd f j
    unfold usN
    split <;> omega
theorem usN_no {f : Nat → Int} {j : Nat} (h : us (f j) = false) : usN f (j + 1) = usN f j := by rw [usN, h]; simp
theorem usN_yes {f : Nat → Int} {j : Nat} (h : us (f j) = true) : usN f (j + 1) = usN f j + 1 := by rw [usN, h]; simp
def usedN (A B Z : Int) (n : Nat) (f : Nat → Int) : Int := if formB A B Z n f then usN f n else 0

theorem used_any (x : Int) (w : World) : Calls Try.prog 38 #[.int .u8 x] w fun e w' => e = .returned (.bool (us x)) ∧ w = w' := by
  unfold us
  cases h1 : x == 1 with
  | true =>
    go_enter Try.func38, Try.ntmps38
    go_wp2_with fail
    go_ret
    exact ⟨rfl, rfl⟩
  | false =>
    go_enter Try.func38, Try.ntmps38
    go_wp2_with fail
    go_ret
    exact ⟨rfl, rfl⟩

set_option maxHeartbeats 2000000 in
theorem Used_any (A B Z : Int) (ao : Option Addr) (n cap : Nat) (f : Nat → Int) (w : World) (hB : i64 B) (hs : St w w.heap.size ao n cap f) :
    Calls Try.prog 18 #[.agg #[.int .i64 A, .int .i64 B, .int .i64 Z, .slice ao n cap]] w fun e w' => e = .returned (.int .i64 (usedN A B Z n f)) ∧ Below w.heap.size w w' := by
  obtain ⟨W, hW, hbW, hsW, hxW⟩ := box_sp w A B Z ao n cap
  have HS := Lib.hid (hs.later hbW)
  have HF := Lib.hid (Formed_any A B Z ao n cap f W hB hs.room HS.out.lies)
  have hn := hs.room
  unfold usedN
  clear hs
  cases hp : formB A B Z n f with
  | false =>
    rw [hp] at HF
    clear hp
    go_enter Try.func18, Try.ntmps18
    go_wp2_with fail
    rw [← hW]
    clear hW
    refine HF.out.mono ?_
    rintro _ w1 ⟨rfl, hb1⟩
    dsimp only
    go_wp2_with fail
    go_ret
    exact ⟨rfl, hbW.trans (hb1.mono (by omega))⟩
  | true =>
    rw [hp] at HF
    have HN : Hid (0 < n) := Lib.hid (by have := n_of hp; have := (ap_of hp).z1; omega)
    obtain ⟨b, off, rfl, hb, hnc, hc⟩ := bytes_tab HS.out.lies HN.out
    clear hp
    go_enter Try.func18, Try.ntmps18
    go_wp2_with fail
    rw [← hW]
    clear hW
    refine HF.out.mono ?_
    rintro _ w1 ⟨rfl, hb1⟩
    dsimp only
    have d3 := (hxW.below hb1 (by omega)).c3
    have HC := Lib.hid (fun i hi => (hb1.cell (p := ⟨b, off + i, none⟩) hb).trans (hc i hi))
    clear hc
    go_wp2_with fail
    go_loop [3, 12] (fun m i => ∃ j : Nat, j ≤ n ∧ i = .int .i64 j ∧ m = .int .i64 (usN f j)) (fun _ i => n - (intOf i).toNat)
    case atStart => exact ⟨0, by omega, rfl, rfl⟩
    case round =>
      obtain ⟨j, hj, rfl, rfl⟩ := hrel
      by_cases hlt : j < n
      · have hcj := HC.out j hlt
        have hj0 : (0 : Int) ≤ (j : Int) := by omega
        have hjn : (j : Int) < (n : Int) := by omega
        have hbd := usN_bd f j
        have HY := Lib.hid (fun h => usN_yes (f := f) (j := j) h)
        have HO := Lib.hid (fun h => usN_no (f := f) (j := j) h)
        have HU := Lib.hid (used_any (f j) w1)
        generalize f j = v at *
        generalize usN f j = k at *
        obtain ⟨hk0, hk1⟩ := hbd
        go_wp2_with fail
        refine HU.out.mono ?_
        rintro _ w2 ⟨rfl, rfl⟩
        dsimp only
        cases hu : us v with
        | true =>
          have HM := Lib.hid (HY.out hu)
          clear HY HO HU hu
          go_wp2_with fail
          go_round
          case rel => exact ⟨j + 1, by omega, by go_num, by rw [HM.out]⟩
          case measure => simp [intOf]; omega
        | false =>
          have HM := Lib.hid (HO.out hu)
          clear HY HO HU hu
          go_wp2_with fail
          go_round
          case rel => exact ⟨j + 1, by omega, by go_num, by rw [HM.out]⟩
          case measure => simp [intOf]; omega
      · obtain rfl : j = n := by omega
        go_wp2_with fail
        go_ret
        exact ⟨rfl, hbW.trans (hb1.mono (by omega))⟩

set_option maxHeartbeats 2000000 in
theorem refUsed_any (A B Z : Int) (ao : Option Addr) (n cap : Nat) (f : Nat → Int) (w : World) (hs : St w w.heap.size ao n cap f) :
    Calls Try.prog 19 #[.agg #[.int .i64 A, .int .i64 B, .int .i64 Z, .slice ao n cap]] w fun e w' => e = .returned (.int .i64 (usedN A B Z n f)) ∧ Below w.heap.size w w' := by
  obtain ⟨W, hW, hbW, hsW, hxW⟩ := box_sp w A B Z ao n cap
  have HS := Lib.hid (hs.later hbW)
  have HF := Lib.hid (fun W' (hb : Below W.heap.size W W') => refFormed_any A B Z ao n cap f W' hs.room (HS.out.later hb).lies)
  have hn := hs.room
  unfold usedN
  clear hs
  cases hp : formB A B Z n f with
  | false =>
    rw [hp] at HF
    clear hp
    go_enter Try.func19, Try.ntmps19
    go_wp2_with fail
    rw [← hW]
    clear hW
    go_loopw [3, 4] (fun m i wr => i = .int .i64 0 ∧ m = .int .i64 0 ∧ wr = W) (fun _ _ _ => 0)
    case atStart => exact ⟨rfl, rfl, rfl⟩
    case round =>
      obtain ⟨rfl, rfl, rfl⟩ := hrel
      have d0 := hxW.c0
      have d1 := hxW.c1
      have d2 := hxW.c2
      have d3 := hxW.c3
      by_cases h0 : (0 : Int) < (n : Int)
      · go_wp2_with fail
        refine (HF.out _ (Below.refl _ _)).mono ?_
        rintro _ w2 ⟨rfl, hb2⟩
        dsimp only
        go_wp2_with fail
        go_ret
        exact ⟨rfl, hbW.trans (hb2.mono (by omega))⟩
      · go_wp2_with fail
        go_ret
        exact ⟨rfl, hbW⟩
  | true =>
    rw [hp] at HF
    have HN : Hid (0 < n) := Lib.hid (by have := n_of hp; have := (ap_of hp).z1; omega)
    obtain ⟨b, off, rfl, hb, hnc, hc⟩ := bytes_tab HS.out.lies HN.out
    clear hp
    have HC := Lib.hid hc
    clear hc
    go_enter Try.func19, Try.ntmps19
    go_wp2_with fail
    rw [← hW]
    clear hW
    go_loopw [3, 4] (fun m i wr => ∃ j : Nat, j ≤ n ∧ i = .int .i64 j ∧ m = .int .i64 (usN f j) ∧ Below W.heap.size W wr) (fun _ i _ => n - (intOf i).toNat)
    case atStart => exact ⟨0, by omega, rfl, rfl, Below.refl _ _⟩
    case round =>
      obtain ⟨j, hj, rfl, rfl, hB⟩ := hrel
      have e0 := (hxW.below hB (by omega)).c0
      have e1 := (hxW.below hB (by omega)).c1
      have e2 := (hxW.below hB (by omega)).c2
      have e3 := (hxW.below hB (by omega)).c3
      by_cases hlt : j < n
      · have hj0 : (0 : Int) ≤ (j : Int) := by omega
        have hjn : (j : Int) < (n : Int) := by omega
        have hcj := HC.out j hlt
        have hbd := usN_bd f j
        have HY := Lib.hid (fun h => usN_yes (f := f) (j := j) h)
        have HO := Lib.hid (fun h => usN_no (f := f) (j := j) h)
        have HU : Hid (∀ v, v = f j → us v = ((v == 1) || (v == 2))) := Lib.hid fun v _ => rfl
        generalize hv : f j = v at hcj HY HO
        have HV := Lib.hid hv
        clear hv
        generalize usN f j = k at *
        obtain ⟨hk0, hk1⟩ := hbd
        go_wp2_with fail
        refine (HF.out _ hB).mono ?_
        rintro _ w2 ⟨rfl, hb2⟩
        dsimp only
        have hB2 := hB.trans (hb2.mono hB.size)
        have f3 := (hxW.below hB2 (by omega)).c3
        have fj := (hB2.cell (p := ⟨b, off + j, none⟩) hb).trans hcj
        clear e0 e1 e2 e3 hcj hb2 hB
        cases u1 : v == 1 with
        | true =>
          have HM := Lib.hid (HY.out (by unfold us; rw [u1]; rfl))
          clear HY HO HU
          go_wp2_with fail
          go_roundw
          case rel => exact ⟨j + 1, by omega, by go_num, by rw [HM.out], hB2⟩
          case measure => simp [intOf]; omega
        | false =>
          cases u2 : v == 2 with
          | true =>
            have HM := Lib.hid (HY.out (by unfold us; rw [u1, u2]; rfl))
            clear HY HO HU
            go_wp2_with fail
            go_roundw
            case rel => exact ⟨j + 1, by omega, by go_num, by rw [HM.out], hB2⟩
            case measure => simp [intOf]; omega
          | false =>
            have HM := Lib.hid (HO.out (by unfold us; rw [u1, u2]; rfl))
            clear HY HO HU
            go_wp2_with fail
            go_roundw
            case rel => exact ⟨j + 1, by omega, by go_num, by rw [HM.out], hB2⟩
            case measure => simp [intOf]; omega
      · obtain rfl : j = n := by omega
        go_wp2_with fail
        go_ret
        exact ⟨rfl, hbW.trans (hB.mono (by omega))⟩
end Sp
end Go.Proofs.Ytdbmdocmnhgbpaa
