/- Parent, of the code and of the reference. -/
import Derived.Test.YthmcjjfhfkcheaaDoorNmC
import Derived.Deep.RegionWith
namespace Go.Proofs.YthmcjjfhfkcheaaDoor
set_option maxRecDepth 20000
namespace Nm
open Go.RowKit

theorem At.cut {w : World} {b cap : Nat} {ao : Option Addr} {xs : List T} (h : At w b ao cap xs) (hx : xs ≠ []) : At w b ao cap xs.dropLast :=
  ⟨by have := h.room; rw [List.length_dropLast]; omega, fun _ => by
    obtain ⟨g, h1, h2, h3⟩ := h.cells hx
    refine ⟨g, h1, h2, fun i x hi => h3 i x ?_⟩
    rw [List.dropLast_eq_take, List.getElem?_take] at hi
    split at hi
    · exact hi
    · cases hi⟩

theorem un_drew {c : Nat} {w w1 : World} (h : Below c w.drew w1) : Below c w w1 := ⟨h.os, h.tape, h.output, h.size, h.block⟩

set_option maxHeartbeats 4000000 in
theorem parent_any (s : T) (w : World) (hl : s.length ≤ 140737488355328) (hm : Mx w) : Calls Tryd.prog 15 #[.string ⟨s.toArray⟩] w fun e w' => e = .returned (.tuple #[.string ⟨(pdir s).toArray⟩, .string ⟨(pname s).toArray⟩, .int .i64 (pcode s)]) ∧ Below w.heap.size w w' := by
  have HS := Lib.hid (split_any s w hl hm)
  have hsl := steps_len s
  have hcode : (code s = 12 ∧ pdir s = [] ∧ pname s = [] ∧ pcode s = 12) ∨ (code s = 0 ∧ ¬ (0 < (steps s).length ∧ (steps s).getLastD [] ≠ [46, 46]) ∧ pdir s = [] ∧ pname s = [] ∧ pcode s = 12) ∨
      (code s = 0 ∧ 0 < (steps s).length ∧ (steps s).getLastD [] ≠ [46, 46] ∧ pdir s = joinC (steps s).dropLast (abs s) ∧ pname s = (steps s).getLastD [] ∧ pcode s = 0 ∧ Fit (steps s).dropLast) := by
    cases hf : fine s with
    | false => exact .inl (by simp [code, pdir, pname, pcode, pok, hf])
    | true =>
      by_cases hc : 0 < (steps s).length ∧ (steps s).getLastD [] ≠ [46, 46]
      · have hp : pok s = true := by
          unfold pok
          rw [hf]
          have h0 : ((steps s).length == 0) = false := by have := hc.1; rw [beq_eq_false_iff_ne]; omega
          rw [h0, beq_eq_false_iff_ne.2 hc.2]
          rfl
        exact .inr (.inr ⟨by simp [code, hf], hc.1, hc.2, by simp only [pdir, hp, if_true], by simp only [pname, hp, if_true], by simp [pcode, hp], fit_sub hf (List.dropLast_sublist _)⟩)
      · have hp : pok s = false := by
          unfold pok
          rw [hf]
          by_cases h0 : 0 < (steps s).length
          · have : (steps s).getLastD [] = [46, 46] := Classical.byContradiction fun h => hc ⟨h0, h⟩
            rw [this]
            simp
          · have : ((steps s).length == 0) = true := by rw [beq_iff_eq]; omega
            rw [this]
            rfl
        exact .inr (.inl ⟨by simp [code, hf], hc, by simp [pdir, hp], by simp [pname, hp], by simp [pcode, hp]⟩)
  generalize code s = Co at HS hcode
  generalize pdir s = Pd at hcode ⊢
  generalize pname s = Pn at hcode ⊢
  generalize pcode s = Pc at hcode ⊢
  generalize abs s = Ab at HS hcode
  generalize dir s = Di at HS
  generalize steps s = P at HS hcode hsl
  rcases hcode with ⟨rfl, rfl, rfl, rfl⟩ | ⟨rfl, hc, rfl, rfl, rfl⟩ | ⟨rfl, hpos, hne, e1, e2, rfl, hfit⟩
  · go_enter Tryd.func15, Tryd.ntmps15
    go_wp2_with (go_at_call 8; refine HS.out.mono ?_; rintro _ W ⟨v, rfl, hO, hb⟩)
    refine bodyPost_ret (results_3 rfl rfl rfl rfl) rfl ?_
    exact ⟨rfl, by assumption⟩
  · by_cases h0 : P = []
    · subst h0
      clear hc
      go_enter Tryd.func15, Tryd.ntmps15
      go_wp2_with (go_at_call 8; refine HS.out.mono ?_; rintro _ W ⟨v, rfl, hO, hb⟩; obtain ⟨ao, cap, rfl, _, _, _⟩ := hO.slice)
      refine bodyPost_ret (results_3 rfl rfl rfl rfl) rfl ?_
      exact ⟨rfl, by assumption⟩
    · have hpos : 0 < P.length := List.length_pos_iff.2 h0
      have hz : P.getLastD [] = [46, 46] := Classical.byContradiction fun h => hc ⟨hpos, h⟩
      have hi : (((P.length - 1 : Nat)) : Int) = (P.length : Int) - 1 := by omega
      clear hc h0
      go_enter Tryd.func15, Tryd.ntmps15
      go_wp2_with (go_at_call 8; refine HS.out.mono ?_; rintro _ W ⟨v, rfl, hO, hb⟩; obtain ⟨g2, c2, rfl, hbg, hg2, hcl, hroom⟩ := own_end hO hpos; rw [hz] at hcl)
      refine bodyPost_ret (results_3 rfl rfl rfl rfl) rfl ?_
      exact ⟨rfl, by assumption⟩
  · have HE := Lib.hid (And.intro e1 e2)
    have hi : (((P.length - 1 : Nat)) : Int) = (P.length : Int) - 1 := by omega
    have h0 : P ≠ [] := by intro e; rw [e] at hpos; simp at hpos
    have hlen : P.dropLast.length = P.length - 1 := List.length_dropLast
    have HOE : Hid (∀ W v, Own W w.heap.size v P → ∃ g c, v = .slice (some ⟨g, 0, none⟩) P.length c ∧ g < W.heap.size ∧ W.cell? ⟨g, P.length - 1, none⟩ = some (.string ⟨(P.getLastD []).toArray⟩) ∧ P.length ≤ c ∧
        ∀ W2, Below W.heap.size W W2 → Calls Tryd.prog 22 #[.slice (some ⟨g, 0, none⟩) (P.length - 1) c, .bool Ab] W2 fun e w' => e = .returned (.string ⟨Pd.toArray⟩) ∧ Below W2.heap.size W2 w') := Lib.hid (by
      intro W v hO
      obtain ⟨ao, c, rfl, hA, _, _⟩ := hO.slice
      obtain ⟨g2, c2, hv, hbg, hg2, hcl, hroom⟩ := own_end hO hpos
      injection hv with hv _ hv2
      subst hv hv2
      refine ⟨g2, c, rfl, hg2, hcl, hroom, fun W2 hb2 => ?_⟩
      have := join_any P.dropLast Ab _ c W2 (((hA.cut h0).below hb2 (Nat.le_refl _)).more hb2.size) hfit.1 hfit.2.1
      rw [hlen, ← e1] at this
      exact this)
    generalize P.getLastD [] = z at hne e2 HOE
    have hne2 : (z == [46, 46]) = false := beq_eq_false_iff_ne.2 hne
    subst e2
    clear e1 hfit hlen h0 hne
    go_enter Tryd.func15, Tryd.ntmps15
    go_wp2_with (go_at_call 8; refine HS.out.mono ?_; rintro _ W ⟨v, rfl, hO, hb⟩; obtain ⟨g2, c2, rfl, hg2, hcl, hroom, hJ⟩ := HOE.out _ _ hO; have HJ := Lib.hid hJ; clear hJ hO)
    clear HOE HS
    go_region_with (go_at_call 22; refine (HJ.out _ (by first | exact Below.refl _ _ | exact (Below.refl _ _).drew | exact (Below.refl _ _).drew.drew)).mono ?_; rintro _ w2 ⟨rfl, hb2⟩; have hcl2 := (hb2.cell (p := ⟨g2, P.length - 1, none⟩) (by first | exact hg2 | simpa using hg2)).trans hcl)
    all_goals
      go_wp2
      refine bodyPost_ret (results_3 rfl rfl rfl rfl) rfl ?_
      exact ⟨rfl, hb.trans ((un_drew (by assumption)).mono hb.size)⟩





set_option maxHeartbeats 4000000 in
theorem refparent_any (s : T) (w : World) (hl : s.length ≤ 140737488355328) : Calls Tryd.prog 16 #[.string ⟨s.toArray⟩] w fun e w' => e = .returned (.tuple #[.string ⟨(pdir s).toArray⟩, .string ⟨(pname s).toArray⟩, .int .i64 (pcode s)]) ∧ Below w.heap.size w w' := by
  have HS := Lib.hid (refsplit_any s w hl)
  have hsl := steps_len s
  have hcode : (code s = 12 ∧ pdir s = [] ∧ pname s = [] ∧ pcode s = 12) ∨ (code s = 0 ∧ ¬ (0 < (steps s).length ∧ (steps s).getLastD [] ≠ [46, 46]) ∧ pdir s = [] ∧ pname s = [] ∧ pcode s = 12) ∨
      (code s = 0 ∧ 0 < (steps s).length ∧ (steps s).getLastD [] ≠ [46, 46] ∧ pdir s = joinC (steps s).dropLast (abs s) ∧ pname s = (steps s).getLastD [] ∧ pcode s = 0 ∧ Fit (steps s).dropLast) := by
    cases hf : fine s with
    | false => exact .inl (by simp [code, pdir, pname, pcode, pok, hf])
    | true =>
      by_cases hc : 0 < (steps s).length ∧ (steps s).getLastD [] ≠ [46, 46]
      · have hp : pok s = true := by
          unfold pok
          rw [hf]
          have h0 : ((steps s).length == 0) = false := by have := hc.1; rw [beq_eq_false_iff_ne]; omega
          rw [h0, beq_eq_false_iff_ne.2 hc.2]
          rfl
        exact .inr (.inr ⟨by simp [code, hf], hc.1, hc.2, by simp only [pdir, hp, if_true], by simp only [pname, hp, if_true], by simp [pcode, hp], fit_sub hf (List.dropLast_sublist _)⟩)
      · have hp : pok s = false := by
          unfold pok
          rw [hf]
          by_cases h0 : 0 < (steps s).length
          · have : (steps s).getLastD [] = [46, 46] := Classical.byContradiction fun h => hc ⟨h0, h⟩
            rw [this]
            simp
          · have : ((steps s).length == 0) = true := by rw [beq_iff_eq]; omega
            rw [this]
            rfl
        exact .inr (.inl ⟨by simp [code, hf], hc, by simp [pdir, hp], by simp [pname, hp], by simp [pcode, hp]⟩)
  generalize code s = Co at HS hcode
  generalize pdir s = Pd at hcode ⊢
  generalize pname s = Pn at hcode ⊢
  generalize pcode s = Pc at hcode ⊢
  generalize abs s = Ab at HS hcode
  generalize dir s = Di at HS
  generalize steps s = P at HS hcode hsl
  rcases hcode with ⟨rfl, rfl, rfl, rfl⟩ | ⟨rfl, hc, rfl, rfl, rfl⟩ | ⟨rfl, hpos, hne, e1, e2, rfl, hfit⟩
  · go_enter Tryd.func16, Tryd.ntmps16
    go_wp2_with (go_at_call 9; refine HS.out.mono ?_; rintro _ W ⟨v, rfl, hO, hb⟩)
    refine bodyPost_ret (results_3 rfl rfl rfl rfl) rfl ?_
    exact ⟨rfl, by assumption⟩
  · by_cases h0 : P = []
    · subst h0
      clear hc
      go_enter Tryd.func16, Tryd.ntmps16
      go_wp2_with (go_at_call 9; refine HS.out.mono ?_; rintro _ W ⟨v, rfl, hO, hb⟩; obtain ⟨ao, cap, rfl, _, _, _⟩ := hO.slice)
      refine bodyPost_ret (results_3 rfl rfl rfl rfl) rfl ?_
      exact ⟨rfl, by assumption⟩
    · have hpos : 0 < P.length := List.length_pos_iff.2 h0
      have hz : P.getLastD [] = [46, 46] := Classical.byContradiction fun h => hc ⟨hpos, h⟩
      have hi : (((P.length - 1 : Nat)) : Int) = (P.length : Int) - 1 := by omega
      clear hc
      have hn0 : ((P.length : Int) == 0) = false := by rw [beq_eq_false_iff_ne]; omega
      go_enter Tryd.func16, Tryd.ntmps16
      go_wp2_with (go_at_call 9; refine HS.out.mono ?_; rintro _ W ⟨v, rfl, hO, hb⟩; obtain ⟨g2, c2, rfl, hbg, hg2, hcl, hroom⟩ := own_end hO hpos; rw [hz] at hcl)
      refine bodyPost_ret (results_3 rfl rfl rfl rfl) rfl ?_
      exact ⟨rfl, by assumption⟩
  · have HE := Lib.hid (And.intro e1 e2)
    have hi : (((P.length - 1 : Nat)) : Int) = (P.length : Int) - 1 := by omega
    have h0 : P ≠ [] := by intro e; rw [e] at hpos; simp at hpos
    have hlen : P.dropLast.length = P.length - 1 := List.length_dropLast
    have HOE : Hid (∀ W v, Own W w.heap.size v P → ∃ g c, v = .slice (some ⟨g, 0, none⟩) P.length c ∧ g < W.heap.size ∧ W.cell? ⟨g, P.length - 1, none⟩ = some (.string ⟨(P.getLastD []).toArray⟩) ∧ P.length ≤ c ∧
        ∀ W2, Below W.heap.size W W2 → Calls Tryd.prog 23 #[.slice (some ⟨g, 0, none⟩) (P.length - 1) c, .bool Ab] W2 fun e w' => e = .returned (.string ⟨Pd.toArray⟩) ∧ Below W2.heap.size W2 w') := Lib.hid (by
      intro W v hO
      obtain ⟨ao, c, rfl, hA, _, _⟩ := hO.slice
      obtain ⟨g2, c2, hv, hbg, hg2, hcl, hroom⟩ := own_end hO hpos
      injection hv with hv _ hv2
      subst hv hv2
      refine ⟨g2, c, rfl, hg2, hcl, hroom, fun W2 hb2 => ?_⟩
      have := refjoin_any P.dropLast Ab _ c W2 (((hA.cut h0).below hb2 (Nat.le_refl _)).more hb2.size) hfit.2.2.1 hfit.2.2.2.1 hfit.2.1
      rw [hlen, joinR_eq Ab hfit.2.2.2.2, ← e1] at this
      exact this.mono fun e w' h => ⟨h.1, h.2 ▸ Below.refl _ _⟩)
    generalize P.getLastD [] = z at hne e2 HOE
    have hne2 : (z == [46, 46]) = false := beq_eq_false_iff_ne.2 hne
    subst e2
    clear e1 hfit hlen hne
    have hn0 : ((P.length : Int) == 0) = false := by rw [beq_eq_false_iff_ne]; omega
    go_enter Tryd.func16, Tryd.ntmps16
    go_wp2_with (go_at_call 9; refine HS.out.mono ?_; rintro _ W ⟨v, rfl, hO, hb⟩; obtain ⟨g2, c2, rfl, hg2, hcl, hroom, hJ⟩ := HOE.out _ _ hO; have HJ := Lib.hid hJ; clear hJ hO)
    have hp1 : (0 : Int) ≤ (P.length : Int) - 1 := by omega
    have hp2 : (P.length : Int) - 1 ≤ (c2 : Int) := by omega
    have hp3 : (P.length : Int) - 1 < (P.length : Int) := by omega
    have hp4 : IntKind.i64.wrap ((P.length : Int) - 1) = (P.length : Int) - 1 := by rw [IntKind.wrap_i64]; omega
    have hp5 : ((P.length : Int) - 1).toNat = P.length - 1 := by omega
    clear HOE HS
    go_region_with (go_at_call 23; refine (HJ.out _ (by first | exact Below.refl _ _ | exact (Below.refl _ _).drew | exact (Below.refl _ _).drew.drew)).mono ?_; rintro _ w2 ⟨rfl, hb2⟩; have hcl2 := (hb2.cell (p := ⟨g2, P.length - 1, none⟩) (by first | exact hg2 | simpa using hg2)).trans hcl)
    all_goals
      go_wp2
      refine bodyPost_ret (results_3 rfl rfl rfl rfl) rfl ?_
      exact ⟨rfl, hb.trans ((un_drew (by assumption)).mono hb.size)⟩




end Nm
end Go.Proofs.YthmcjjfhfkcheaaDoor
