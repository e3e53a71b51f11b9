/- Split, of the reference. -/
import Derived.Test.YthmcjjfhfkcheaaDoorNmS
import Derived.Deep.QuietTactic
import Derived.BigQuiet
namespace Go.Proofs.YthmcjjfhfkcheaaDoor
set_option maxRecDepth 20000
namespace Nm
open Go.RowKit

theorem own_drewN {w : World} {base : Nat} {v : Value} {xs : List T} (h : Own w base v xs) (n : Nat) : Own (w.drewN n) base v xs := h
theorem below_drewN {c : Nat} {w w' : World} (h : Below c w w') (n : Nat) : Below c w (w'.drewN n) := ⟨h.os, h.tape, h.output, h.size, h.block⟩
theorem prefix_head (b : UInt8) (r : T) : Lib.hasPrefix (b :: r) [47] = (b == 47) := by
  simp only [Lib.hasPrefix, List.isPrefixOf, Bool.and_true]
  rw [Bool.eq_iff_iff, beq_iff_eq, beq_iff_eq]
  exact eq_comm

set_option maxHeartbeats 4000000 in
theorem refsplit_any (s : T) (w : World) (hl : s.length ≤ 140737488355328) : Calls Tryd.prog 9 #[.string ⟨s.toArray⟩] w fun e w' => ∃ v, e = .returned (.tuple #[v, .bool (abs s), .bool (dir s), .int .i64 (code s)]) ∧ Own w' w.heap.size v (steps s) ∧ Below w.heap.size w w' := by
  by_cases hr : inr s = true
  · have hr2 : 1 ≤ s.length ∧ s.length ≤ 240 := by simpa [inr] using hr
    have HB : Hid (fine s = false → steps s = [] ∧ abs s = false ∧ dir s = false ∧ code s = 12) := Lib.hid fun h => by simp [steps, abs, dir, code, h]
    have HF : Hid ((pc s).all okp = true → steps s = (pc s).filter keep ∧ abs s = Lib.hasPrefix s [47] ∧ dir s = (last s == [] || last s == [46] || last s == [46, 46]) ∧ code s = 0) := Lib.hid fun h => by
      simp [steps, abs, dir, code, fine, hr, h, Lib.hasPrefix]
    have HN : Hid ((pc s).all okp = false → fine s = false) := Lib.hid fun h => by simp [fine, h]
    have HS := Lib.hid (pieces_any s w hr2.2)
    have hle := pc_len_le s
    have hpos : 0 < (pc s).length := List.length_pos_iff.2 (pc_ne s)
    have HLA := Lib.hid (last_get s)
    have HSH := Lib.hid (pc_short s)
    generalize fine s = Fi at HB HN
    generalize steps s = St at HB HF ⊢
    generalize abs s = Ab at HB HF ⊢
    generalize dir s = Di at HB HF ⊢
    generalize code s = Co at HB HF ⊢
    generalize last s = La at HF HLA
    generalize pc s = P at HF HN HS hle hpos HLA HSH
    obtain ⟨Hp, hHp⟩ : ∃ x, x = Lib.hasPrefix s [47] := ⟨_, rfl⟩
    rw [← hHp] at HF
    obtain ⟨z, hix, hz⟩ : ∃ z : Int, (∀ W, (Instr.index 9 (.string ⟨s.toArray⟩) (.int .i64 0)).run Tryd.prog W = .ok (.int .u8 z) W) ∧ (z == 47) = Hp := by
      obtain ⟨b, r, rfl⟩ : ∃ b r, s = b :: r := by
        cases s with
        | nil => simp at hr2
        | cons b r => exact ⟨b, r, rfl⟩
      refine ⟨(b.toNat : Int), fun W => run_idx (b :: r) 0 (by simp) W, ?_⟩
      rw [hHp, prefix_head]
      show (((b.toNat : Nat) : Int) == ((47 : UInt8).toNat : Int)) = (b == 47)
      rw [Bool.eq_iff_iff, beq_iff_eq, beq_iff_eq]
      exact ⟨fun h => UInt8.toNat.inj (by omega), fun h => by rw [h]⟩
    clear hr hHp
    go_enter Tryd.func9, Tryd.ntmps9
    go_wp2_with (go_at_call 20; refine HS.out.mono ?_; rintro _ W ⟨pv, rfl, hO0, hb0⟩)
    obtain ⟨ao, cap, rfl, hA, _, _⟩ := hO0.slice
    obtain ⟨g, rfl, hg, hcells⟩ := hA.cells (by intro e; rw [e] at hpos; simp at hpos)
    have HAT := Lib.hid hcells
    have hs0 := hb0.size
    clear hA hcells hO0 HS
    go_wp2
    go_loopw [7, 8] (fun v i wr => ∃ k : Nat, k ≤ P.length ∧ i = .int .i64 k ∧ Hid (Own wr W.heap.size v ((P.take k).filter keep) ∧ (P.take k).all okp = true) ∧ Below W.heap.size W wr) (fun _ i _ => P.length - (intOf i).toNat)
    case atStart => exact ⟨0, Nat.zero_le _, rfl, Lib.hid ⟨Own.nil _ _, rfl⟩, Below.refl _ _⟩
    case round =>
      obtain ⟨k, hk, rfl, HW, hb⟩ := hrel
      have hsz := hb.size
      by_cases hlt : k < P.length
      · have hx0 : P[k]? = some P[k] := List.getElem?_eq_getElem hlt
        have hcx : wr.cell? ⟨g, k, none⟩ = some (.string ⟨P[k].toArray⟩) := (hb.cell (p := ⟨g, k, none⟩) hg).trans (HAT.out k _ hx0)
        have hxl : P[k].length ≤ 240 := by have := HSH.out P[k] (List.getElem_mem hlt); omega
        have HKP := Lib.hid (filter_next hlt)
        have HAL := Lib.hid (all_next hlt)
        have HBD := Lib.hid (all_bad hlt)
        have hcN : ∀ t, (wr.alloc t).cell? ⟨g, k, none⟩ = wr.cell? ⟨g, k, none⟩ := fun t => World.cell?_alloc_old _ _ _ (by simp; omega)
        generalize P[k] = x at hcx hxl HKP HAL HBD
        have HVA := Lib.hid (fun W => (refvalid_any x W (by omega)).mono fun e w' (h : _ ∧ _) => And.intro h.1 h.2.symm)
        clear hx0
        by_cases hxe : x = []
        · subst hxe
          go_wp2
          go_roundw
          case rel => exact ⟨k + 1, by omega, by go_num, Lib.hid ⟨by rw [HKP.out]; simpa [keep] using HW.out.1, by rw [HAL.out, HW.out.2]; rfl⟩, hb⟩
          case measure => simp [intOf]; omega
        by_cases hxd : x = [46]
        · subst hxd
          go_wp2
          go_roundw
          case rel => exact ⟨k + 1, by omega, by go_num, Lib.hid ⟨by rw [HKP.out]; simpa [keep] using HW.out.1, by rw [HAL.out, HW.out.2]; rfl⟩, hb⟩
          case measure => simp [intOf]; omega
        have hkeep : keep x = true := by simp [keep, hxe, hxd]
        by_cases hxx : x = [46, 46]
        · subst hxx
          have hlen := take_le P k
          go_wp2_with (first
            | (at_builtin; refine wpList_app rfl (.tmp 51) (.tmp 56) rfl W.heap.size _ _ rfl (HW.out.1.alloc _) [46, 46] wr.heap.size 1 rfl (by simp) (by omega) (by simp only [World.size_alloc]; omega) ?_; intro v2 w2 hS hB2)
            | go_in)
          go_roundw
          case rel => exact ⟨k + 1, by omega, by go_num, Lib.hid ⟨by rw [HKP.out]; exact hS, by rw [HAL.out, HW.out.2]; rfl⟩, hb.trans (((Below.refl _ _).alloc hsz _).trans hB2)⟩
          case measure => simp [intOf]; omega
        obtain ⟨n1, n2, n3⟩ := nots hxe hxd hxx
        cases hv : valid x with
        | true =>
          have hlen := take_le P k
          rw [hv] at HVA
          have hok : okp x = true := by simp [okp, good, hv]
          clear hv
          go_wp2_with (first
            | (go_at_call 12; refine (HVA.out _).mono ?_; rintro _ _ ⟨rfl, rfl⟩)
            | (at_builtin; refine wpList_app rfl (.tmp 51) (.tmp 56) rfl W.heap.size _ _ rfl (HW.out.1.alloc _) x wr.heap.size 1 rfl (by simp) (by omega) (by simp only [World.size_alloc]; omega) ?_; intro v2 w2 hS hB2)
            | go_in)
          go_roundw
          case rel => exact ⟨k + 1, by omega, by go_num, Lib.hid ⟨by rw [HKP.out, hkeep]; exact hS, by rw [HAL.out, HW.out.2, hok]; rfl⟩, hb.trans (((Below.refl _ _).alloc hsz _).trans hB2)⟩
          case measure => simp [intOf]; omega
        | false =>
          rw [hv] at HVA
          have hok : okp x = false := by simp [okp, good, hv, hkeep, hxx]
          obtain ⟨e1, e2, e3, e4⟩ := HB.out (HN.out (HBD.out hok))
          have HE := Lib.hid (And.intro e1 (And.intro e2 (And.intro e3 e4)))
          clear hv e1 e2 e3 e4
          go_wp2_with (first
            | (go_at_call 12; refine (HVA.out _).mono ?_; rintro _ _ ⟨rfl, rfl⟩)
            | go_in)
          refine bodyPost_ret (results_4 rfl rfl rfl rfl rfl) rfl ?_
          obtain ⟨e1, e2, e3, e4⟩ := HE.out
          rw [e1, e2, e3, e4]
          exact ⟨_, rfl, Own.nil _ _, hb0.trans (hb.mono (by omega))⟩
      · obtain rfl : k = P.length := by omega
        rw [List.take_length] at HW
        obtain ⟨e1, e2, e3, e4⟩ := HF.out HW.out.2
        have HE := Lib.hid (And.intro e1 (And.intro e2 (And.intro e3 e4)))
        have hcl : wr.cell? ⟨g, P.length - 1, none⟩ = some (.string ⟨La.toArray⟩) := (hb.cell (p := ⟨g, P.length - 1, none⟩) hg).trans (HAT.out _ _ HLA.out)
        have hO : Hid (Own wr w.heap.size u7 (P.filter keep)) := Lib.hid (HW.out.1.less (by omega))
        have hBw : Hid (Below w.heap.size w wr) := Lib.hid (hb0.trans (hb.mono (by omega)))
        have hi : (((P.length - 1 : Nat)) : Int) = (P.length : Int) - 1 := by omega
        clear e1 e2 e3 e4 HF HN HB HW HAT HLA HSH hb hb0
        have hs1 : (0 : Int) < (s.length : Int) := by omega
        by_cases hxe : La = []
        · subst hxe
          go_wp2
          go_quiet (fail)
          go_wp2
          refine bodyPost_ret (results_4 rfl rfl rfl rfl rfl) rfl ?_
          obtain ⟨e1, e2, e3, e4⟩ := HE.out
          rw [e1, e2, e3, e4]
          exact ⟨_, rfl, own_drewN hO.out nq, below_drewN hBw.out nq⟩
        by_cases hxd : La = [46]
        · subst hxd
          go_wp2
          go_quiet (fail)
          go_wp2
          refine bodyPost_ret (results_4 rfl rfl rfl rfl rfl) rfl ?_
          obtain ⟨e1, e2, e3, e4⟩ := HE.out
          rw [e1, e2, e3, e4]
          exact ⟨_, rfl, own_drewN hO.out nq, below_drewN hBw.out nq⟩
        by_cases hxx : La = [46, 46]
        · subst hxx
          go_wp2
          go_quiet (fail)
          go_wp2
          refine bodyPost_ret (results_4 rfl rfl rfl rfl rfl) rfl ?_
          obtain ⟨e1, e2, e3, e4⟩ := HE.out
          rw [e1, e2, e3, e4]
          exact ⟨_, rfl, own_drewN hO.out nq, below_drewN hBw.out nq⟩
        · obtain ⟨n1, n2, n3⟩ := nots hxe hxd hxx
          go_wp2
          go_quiet (fail)
          go_wp2
          refine bodyPost_ret (results_4 rfl rfl rfl rfl rfl) rfl ?_
          obtain ⟨e1, e2, e3, e4⟩ := HE.out
          rw [e1, e2, e3, e4]
          exact ⟨_, by simp [hxe, hxd, hxx], own_drewN hO.out nq, below_drewN hBw.out nq⟩
  · have hf : fine s = false := by simp [fine, hr]
    have hr2 : ¬ (1 ≤ s.length ∧ s.length ≤ 240) := by simpa [inr] using hr
    have h1 : steps s = [] := by simp [steps, hf]
    have h2 : abs s = false := by simp [abs, hf]
    have h3 : dir s = false := by simp [dir, hf]
    have h4 : code s = 12 := by simp [code, hf]
    rw [h1, h2, h3, h4]
    clear hf hr h1 h2 h3 h4
    have hc : s.length < 1 ∨ 240 < s.length := by omega
    clear hr2
    rcases hc with hc | hc
    all_goals
      go_enter Tryd.func9, Tryd.ntmps9
      go_wp2
      refine bodyPost_ret (results_4 rfl rfl rfl rfl rfl) rfl ?_
      exact ⟨_, rfl, Own.nil _ _, Below.refl _ _⟩
end Nm
end Go.Proofs.YthmcjjfhfkcheaaDoor
