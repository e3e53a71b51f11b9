/- Clean, of the code and of the reference. -/
import Derived.Test.YthmcjjfhfkcheaaDoorNmJ
namespace Go.Proofs.YthmcjjfhfkcheaaDoor
set_option maxRecDepth 20000
namespace Nm
open Go.RowKit

/-- what a step does to the path -/
theorem st_app {a : Bool} {l : List T} {x : T} (h : x ≠ [46, 46]) : st a l x = l ++ [x] := by simp [st, h]
theorem st_cut {a : Bool} {l : List T} (h1 : 0 < l.length) (h2 : l.getLastD [] ≠ [46, 46]) : st a l [46, 46] = l.dropLast := by
  unfold st
  rw [if_pos (by decide), if_pos (by simp only [Bool.and_eq_true, decide_eq_true_eq, Bool.not_eq_true', beq_eq_false_iff_ne]; exact ⟨h1, h2⟩)]
theorem st_up {l : List T} (h : ¬ (0 < l.length ∧ l.getLastD [] ≠ [46, 46])) : st false l [46, 46] = l ++ [[46, 46]] := by
  unfold st
  rw [if_pos (by decide), if_neg (by simp only [Bool.and_eq_true, decide_eq_true_eq, Bool.not_eq_true', beq_eq_false_iff_ne]; exact h), if_neg (by decide)]
theorem st_stay {l : List T} (h : ¬ (0 < l.length ∧ l.getLastD [] ≠ [46, 46])) : st true l [46, 46] = l := by
  unfold st
  rw [if_pos (by decide), if_neg (by simp only [Bool.and_eq_true, decide_eq_true_eq, Bool.not_eq_true', beq_eq_false_iff_ne]; exact h), if_pos (by decide)]
theorem getLastD_get {l : List T} (h : 0 < l.length) : l[l.length - 1]? = some (l.getLastD []) := by
  rw [List.getLastD_eq_getLast?, List.getLast?_eq_getElem?, List.getElem?_eq_getElem (by omega)]
  rfl
/-- what the code asks of the path so far, and what it finds there -/
theorem own_end {w : World} {base : Nat} {v : Value} {l : List T} (h : Own w base v l) (hl : 0 < l.length) : ∃ g c, v = .slice (some ⟨g, 0, none⟩) l.length c ∧ base ≤ g ∧ g < w.heap.size ∧ w.cell? ⟨g, l.length - 1, none⟩ = some (.string ⟨(l.getLastD []).toArray⟩) ∧ l.length ≤ c := by
  obtain ⟨ao, c, rfl, hA, hb, _⟩ := h.slice
  obtain ⟨g, rfl, hg, hc⟩ := hA.cells (by intro e; rw [e] at hl; simp at hl)
  exact ⟨g, c, rfl, hb _ rfl, hg, hc _ _ (getLastD_get hl), hA.room⟩

/-- a list of steps that a path may be made of -/
def Fit (xs : List T) : Prop := (txt xs).length ≤ 1000000 ∧ xs.length ≤ 1000000 ∧ (∀ k, (txt (xs.take k)).length ≤ 100000) ∧ (∀ x ∈ xs, x.length ≤ 100000) ∧ ∀ x ∈ xs, x ≠ []
theorem fit_sub {s : T} (hf : fine s = true) {xs : List T} (h : List.Sublist xs (steps s)) : Fit xs := by
  have h1 : inr s = true := by unfold fine at hf; simp at hf; exact hf.1
  have h2 : s.length ≤ 240 := by unfold inr at h1; simp at h1; exact h1.2
  have h3 := txt_le (h.trans (steps_sub s))
  refine ⟨by omega, ?_, fun k => ?_, fun x hx => ?_, fun x hx => ?_⟩
  · have := h.length_le
    have := steps_len s
    omega
  · have := txt_le (((List.take_sublist k xs).trans h).trans (steps_sub s))
    omega
  · have := steps_short s x (h.subset hx)
    omega
  · exact keep_ne (steps_keep s x (h.subset hx))
theorem fit_red {s : T} (hf : fine s = true) (a : Bool) : Fit (red a (steps s)) := fit_sub hf (red_sub a (steps s))

set_option maxHeartbeats 4000000 in
theorem clean_any (s : T) (w : World) (hl : s.length ≤ 140737488355328) (hm : Mx w) : Calls Tryd.prog 13 #[.string ⟨s.toArray⟩] w fun e w' => e = .returned (.tuple #[.string ⟨(clean s).toArray⟩, .int .i64 (code s)]) ∧ Below w.heap.size w w' := by
  have HS := Lib.hid (split_any s w hl hm)
  have hsl := steps_len s
  have HRS : Hid (∀ k, (red (abs s) ((steps s).take k)).length ≤ 241) := Lib.hid fun k => by
    have h1 := (red_sub (abs s) ((steps s).take k)).length_le
    have h2 := List.length_take_le' k (steps s)
    omega
  have hcode : Hid ((code s = 12 ∧ clean s = []) ∨ (code s = 0 ∧ clean s = joinC (red (abs s) (steps s)) (abs s) ∧ Fit (red (abs s) (steps s)))) := Lib.hid (by
    cases hf : fine s with
    | false => exact .inl (by simp [code, clean, hf])
    | true => exact .inr ⟨by simp [code, hf], by simp [clean, hf], fit_red hf (abs s)⟩)
  generalize code s = Co at HS hcode ⊢
  generalize clean s = Cl at hcode ⊢
  generalize abs s = Ab at HS HRS hcode
  generalize dir s = Di at HS
  generalize steps s = P at HS HRS hcode hsl
  rcases hcode.out with ⟨e1, e2⟩ | ⟨e1, e2, e3⟩
  · subst e1 e2
    clear hcode HRS
    go_enter Tryd.func13, Tryd.ntmps13
    go_wp2_with (go_at_call 8; refine HS.out.mono ?_; rintro _ W ⟨v, rfl, hO, hb⟩)
    refine bodyPost_ret (results_2 rfl rfl rfl) rfl ?_
    exact ⟨rfl, by assumption⟩
  · subst e1
    have HCL := Lib.hid e2
    have HTL := Lib.hid e3
    clear hcode e2 e3
    go_enter Tryd.func13, Tryd.ntmps13
    go_wp2_with (go_at_call 8; refine HS.out.mono ?_; rintro _ W ⟨v, rfl, hO0, hb0⟩; obtain ⟨ao, cap, rfl, hA0, _, _⟩ := hO0.slice; have HA := Lib.hid hA0; have hs0 := hb0.size; clear hA0 hO0)
    go_loopw [8, 23] (fun v i wr => ∃ k : Nat, k ≤ P.length ∧ i = .int .i64 k ∧ Hid (Own wr W.heap.size v (red Ab (P.take k))) ∧ Below W.heap.size W wr) (fun _ i _ => P.length - (intOf i).toNat)
    case atStart => exact ⟨0, Nat.zero_le _, rfl, Lib.hid (Own.nil _ _), Below.refl _ _⟩
    case round =>
      obtain ⟨k, hk, rfl, HW, hb⟩ := hrel
      have hsz := hb.size
      by_cases hlt : k < P.length
      · obtain ⟨g, rfl, hg, hcx⟩ := (HA.out.below hb (Nat.le_refl _)).get hlt
        have HKP := Lib.hid (red_next (a := Ab) hlt)
        have hlen := HRS.out k
        generalize P[k] = x at hcx HKP
        generalize red Ab (P.take k) = L at HW HKP hlen
        by_cases hxx : x = [46, 46]
        · subst hxx
          by_cases hc : 0 < L.length ∧ L.getLastD [] ≠ [46, 46]
          · have HN := Lib.hid (st_cut (a := Ab) hc.1 hc.2)
            obtain ⟨g2, c2, rfl, hbg, hg2, hcl, hroom⟩ := own_end HW.out hc.1
            have hne : (L.getLastD [] == [46, 46]) = false := beq_eq_false_iff_ne.2 hc.2
            have hpos := hc.1
            have HC := Lib.hid (HW.out.cut hpos)
            have hi : (((L.length - 1 : Nat)) : Int) = (L.length : Int) - 1 := by omega
            generalize L.getLastD [] = z at hcl hne
            clear hc
            go_wp2
            go_roundw
            case rel => exact ⟨k + 1, by omega, by go_num, Lib.hid (by rw [HKP.out, HN.out]; exact HC.out), hb⟩
            case measure => simp [intOf]; omega
          · have HU := Lib.hid (st_up hc)
            have HT := Lib.hid (st_stay hc)
            by_cases h0 : L = []
            · subst h0
              clear hc
              obtain ⟨ao2, c2, rfl, _, _, _⟩ := HW.out.slice
              cases Ab with
              | true =>
                go_wp2
                go_roundw
                case rel => exact ⟨k + 1, by omega, by go_num, Lib.hid (by rw [HKP.out, HT.out]; exact HW.out), hb⟩
                case measure => simp [intOf]; omega
              | false =>
                have hlen : ([] : List T).length ≤ 241 := by simp
                go_wp2_with (first
                  | (at_builtin; refine wpList_app rfl (.tmp 55) (.tmp 57) rfl W.heap.size _ _ rfl (HW.out.alloc _) [46, 46] wr.heap.size 1 rfl (by simp) (by omega) (by simp only [World.size_alloc]; omega) ?_; intro v2 w2 hS hB2)
                  | go_in)
                go_roundw
                case rel => exact ⟨k + 1, by omega, by go_num, Lib.hid (by rw [HKP.out, HU.out]; exact hS), hb.trans (((Below.refl _ _).alloc hsz _).trans hB2)⟩
                case measure => simp [intOf]; omega
            · have hpos : 0 < L.length := List.length_pos_iff.2 h0
              obtain ⟨g2, c2, rfl, hbg, hg2, hcl, hroom⟩ := own_end HW.out hpos
              have hz : L.getLastD [] = [46, 46] := Classical.byContradiction fun h => hc ⟨hpos, h⟩
              rw [hz] at hcl
              have hi : (((L.length - 1 : Nat)) : Int) = (L.length : Int) - 1 := by omega
              clear hc hz h0
              cases Ab with
              | true =>
                go_wp2
                go_roundw
                case rel => exact ⟨k + 1, by omega, by go_num, Lib.hid (by rw [HKP.out, HT.out]; exact HW.out), hb⟩
                case measure => simp [intOf]; omega
              | false =>
                go_wp2_with (first
                  | (at_builtin; refine wpList_app rfl (.tmp 55) (.tmp 57) rfl W.heap.size _ _ rfl (HW.out.alloc _) [46, 46] wr.heap.size 1 rfl (by simp) (by omega) (by simp only [World.size_alloc]; omega) ?_; intro v2 w2 hS hB2)
                  | go_in)
                go_roundw
                case rel => exact ⟨k + 1, by omega, by go_num, Lib.hid (by rw [HKP.out, HU.out]; exact hS), hb.trans (((Below.refl _ _).alloc hsz _).trans hB2)⟩
                case measure => simp [intOf]; omega
        · have hxn : (x == [46, 46]) = false := beq_eq_false_iff_ne.2 hxx
          have HN := Lib.hid (st_app (a := Ab) (l := L) hxx)
          go_wp2_with (first
            | (at_builtin; refine wpList_app rfl (.tmp 30) (.tmp 32) rfl W.heap.size _ _ rfl (HW.out.alloc _) x wr.heap.size 1 rfl (by simp) (by omega) (by simp only [World.size_alloc]; omega) ?_; intro v2 w2 hS hB2)
            | go_in)
          go_roundw
          case rel => exact ⟨k + 1, by omega, by go_num, Lib.hid (by rw [HKP.out, HN.out]; exact hS), hb.trans (((Below.refl _ _).alloc hsz _).trans hB2)⟩
          case measure => simp [intOf]; omega
      · obtain rfl : k = P.length := by omega
        rw [List.take_length] at HW
        obtain ⟨ao2, c2, rfl, hA2, _, _⟩ := HW.out.slice
        have HJ := Lib.hid (join_any (red Ab P) Ab ao2 c2 wr hA2 HTL.out.1 HTL.out.2.1)
        have hbw : Hid (Below w.heap.size w wr) := Lib.hid (hb0.trans (hb.mono (by omega)))
        clear hA2 HW HA HRS hb hb0
        go_wp2_with (go_at_call 22; refine HJ.out.mono ?_; rintro _ w2 ⟨rfl, hb2⟩)
        refine bodyPost_ret (results_2 rfl rfl rfl) rfl ?_
        exact ⟨by rw [HCL.out]; rfl, hbw.out.trans (hb2.mono hbw.out.size)⟩

set_option maxHeartbeats 4000000 in
theorem refclean_any (s : T) (w : World) (hl : s.length ≤ 140737488355328) : Calls Tryd.prog 14 #[.string ⟨s.toArray⟩] w fun e w' => e = .returned (.tuple #[.string ⟨(clean s).toArray⟩, .int .i64 (code s)]) ∧ Below w.heap.size w w' := by
  have HS := Lib.hid (refsplit_any s w hl)
  have hsl := steps_len s
  have HRS : Hid (∀ k, (red (abs s) ((steps s).take k)).length ≤ 241) := Lib.hid fun k => by
    have h1 := (red_sub (abs s) ((steps s).take k)).length_le
    have h2 := List.length_take_le' k (steps s)
    omega
  have hcode : Hid ((code s = 12 ∧ clean s = []) ∨ (code s = 0 ∧ clean s = joinC (red (abs s) (steps s)) (abs s) ∧ Fit (red (abs s) (steps s)))) := Lib.hid (by
    cases hf : fine s with
    | false => exact .inl (by simp [code, clean, hf])
    | true => exact .inr ⟨by simp [code, hf], by simp [clean, hf], fit_red hf (abs s)⟩)
  generalize code s = Co at HS hcode ⊢
  generalize clean s = Cl at hcode ⊢
  generalize abs s = Ab at HS HRS hcode
  generalize dir s = Di at HS
  generalize steps s = P at HS HRS hcode hsl
  rcases hcode.out with ⟨e1, e2⟩ | ⟨e1, e2, e3⟩
  · subst e1 e2
    clear hcode HRS
    go_enter Tryd.func14, Tryd.ntmps14
    go_wp2_with (go_at_call 9; refine HS.out.mono ?_; rintro _ W ⟨v, rfl, hO, hb⟩)
    refine bodyPost_ret (results_2 rfl rfl rfl) rfl ?_
    exact ⟨rfl, by assumption⟩
  · subst e1
    have HCL := Lib.hid e2
    have HTL := Lib.hid e3
    clear hcode e2 e3
    go_enter Tryd.func14, Tryd.ntmps14
    go_wp2_with (go_at_call 9; refine HS.out.mono ?_; rintro _ W ⟨v, rfl, hO0, hb0⟩; obtain ⟨ao, cap, rfl, hA0, _, _⟩ := hO0.slice; have HA := Lib.hid hA0; have hs0 := hb0.size; clear hA0 hO0)
    go_loopw [8, 9] (fun v i wr => ∃ k : Nat, k ≤ P.length ∧ i = .int .i64 k ∧ Hid (Own wr W.heap.size v (red Ab (P.take k))) ∧ Below W.heap.size W wr) (fun _ i _ => P.length - (intOf i).toNat)
    case atStart => exact ⟨0, Nat.zero_le _, rfl, Lib.hid (Own.nil _ _), Below.refl _ _⟩
    case round =>
      obtain ⟨k, hk, rfl, HW, hb⟩ := hrel
      have hsz := hb.size
      by_cases hlt : k < P.length
      · obtain ⟨g, rfl, hg, hcx⟩ := (HA.out.below hb (Nat.le_refl _)).get hlt
        have HKP := Lib.hid (red_next (a := Ab) hlt)
        have hlen := HRS.out k
        generalize P[k] = x at hcx HKP
        generalize red Ab (P.take k) = L at HW HKP hlen
        by_cases hxx : x = [46, 46]
        · subst hxx
          by_cases hc : 0 < L.length ∧ L.getLastD [] ≠ [46, 46]
          · have HN := Lib.hid (st_cut (a := Ab) hc.1 hc.2)
            obtain ⟨g2, c2, rfl, hbg, hg2, hcl, hroom⟩ := own_end HW.out hc.1
            have hne : (L.getLastD [] == [46, 46]) = false := beq_eq_false_iff_ne.2 hc.2
            have hpos := hc.1
            have HC := Lib.hid (HW.out.cut hpos)
            have hi : (((L.length - 1 : Nat)) : Int) = (L.length : Int) - 1 := by omega
            generalize L.getLastD [] = z at hcl hne
            clear hc
            go_wp2
            go_roundw
            case rel => exact ⟨k + 1, by omega, by go_num, Lib.hid (by rw [HKP.out, HN.out]; exact HC.out), hb⟩
            case measure => simp [intOf]; omega
          · have HU := Lib.hid (st_up hc)
            have HT := Lib.hid (st_stay hc)
            by_cases h0 : L = []
            · subst h0
              clear hc
              obtain ⟨ao2, c2, rfl, _, _, _⟩ := HW.out.slice
              cases Ab with
              | true =>
                go_wp2
                go_roundw
                case rel => exact ⟨k + 1, by omega, by go_num, Lib.hid (by rw [HKP.out, HT.out]; exact HW.out), hb⟩
                case measure => simp [intOf]; omega
              | false =>
                have hlen : ([] : List T).length ≤ 241 := by simp
                go_wp2_with (first
                  | (at_builtin; refine wpList_app rfl (.tmp 60) (.tmp 61) rfl W.heap.size _ _ rfl (HW.out.alloc _) [46, 46] wr.heap.size 1 rfl (by simp) (by omega) (by simp only [World.size_alloc]; omega) ?_; intro v2 w2 hS hB2)
                  | go_in)
                go_roundw
                case rel => exact ⟨k + 1, by omega, by go_num, Lib.hid (by rw [HKP.out, HU.out]; exact hS), hb.trans (((Below.refl _ _).alloc hsz _).trans hB2)⟩
                case measure => simp [intOf]; omega
            · have hpos : 0 < L.length := List.length_pos_iff.2 h0
              obtain ⟨g2, c2, rfl, hbg, hg2, hcl, hroom⟩ := own_end HW.out hpos
              have hz : L.getLastD [] = [46, 46] := Classical.byContradiction fun h => hc ⟨hpos, h⟩
              rw [hz] at hcl
              have hi : (((L.length - 1 : Nat)) : Int) = (L.length : Int) - 1 := by omega
              clear hc hz h0
              cases Ab with
              | true =>
                go_wp2
                go_roundw
                case rel => exact ⟨k + 1, by omega, by go_num, Lib.hid (by rw [HKP.out, HT.out]; exact HW.out), hb⟩
                case measure => simp [intOf]; omega
              | false =>
                go_wp2_with (first
                  | (at_builtin; refine wpList_app rfl (.tmp 60) (.tmp 61) rfl W.heap.size _ _ rfl (HW.out.alloc _) [46, 46] wr.heap.size 1 rfl (by simp) (by omega) (by simp only [World.size_alloc]; omega) ?_; intro v2 w2 hS hB2)
                  | go_in)
                go_roundw
                case rel => exact ⟨k + 1, by omega, by go_num, Lib.hid (by rw [HKP.out, HU.out]; exact hS), hb.trans (((Below.refl _ _).alloc hsz _).trans hB2)⟩
                case measure => simp [intOf]; omega
        · have hxn : (x == [46, 46]) = false := beq_eq_false_iff_ne.2 hxx
          have HN := Lib.hid (st_app (a := Ab) (l := L) hxx)
          go_wp2_with (first
            | (at_builtin; refine wpList_app rfl (.tmp 32) (.tmp 37) rfl W.heap.size _ _ rfl (HW.out.alloc _) x wr.heap.size 1 rfl (by simp) (by omega) (by simp only [World.size_alloc]; omega) ?_; intro v2 w2 hS hB2)
            | go_in)
          go_roundw
          case rel => exact ⟨k + 1, by omega, by go_num, Lib.hid (by rw [HKP.out, HN.out]; exact hS), hb.trans (((Below.refl _ _).alloc hsz _).trans hB2)⟩
          case measure => simp [intOf]; omega
      · obtain rfl : k = P.length := by omega
        rw [List.take_length] at HW
        obtain ⟨ao2, c2, rfl, hA2, _, _⟩ := HW.out.slice
        have HJ := Lib.hid ((refjoin_any (red Ab P) Ab ao2 c2 wr hA2 HTL.out.2.2.1 HTL.out.2.2.2.1 HTL.out.2.1).mono fun e w' (h : _ ∧ _) => And.intro (h.1.trans (by rw [joinR_eq Ab HTL.out.2.2.2.2])) h.2)
        have hbw : Hid (Below w.heap.size w wr) := Lib.hid (hb0.trans (hb.mono (by omega)))
        clear hA2 HW HA HRS hb hb0
        go_wp2_with (go_at_call 23; refine HJ.out.mono ?_; rintro _ w2 ⟨rfl, hb2⟩)
        refine bodyPost_ret (results_2 rfl rfl rfl) rfl ?_
        exact ⟨by rw [HCL.out]; rfl, by subst hb2; exact hbw.out⟩
end Nm
end Go.Proofs.YthmcjjfhfkcheaaDoor
