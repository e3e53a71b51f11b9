/- Split, of the code. -/
import Derived.Test.YthmcjjfhfkcheaaDoorNmP
namespace Go.Proofs.YthmcjjfhfkcheaaDoor
set_option maxRecDepth 20000
namespace Nm
open Go.RowKit

theorem size_mk (x : T) : (⟨x.toArray⟩ : ByteArray).size = x.length := by simp [ByteArray.size]
theorem clone_any (x : T) (w : World) (hx : x.length ≤ 140737488355328) : Calls Tryd.prog 18 #[.string ⟨x.toArray⟩] w fun e w' => e = .returned (.string ⟨x.toArray⟩) ∧ Below w.heap.size w w' := by
  have HC := Lib.hid (fun W => NmS.stringslite_Clone ⟨x.toArray⟩ W (by rw [size_mk]; omega))
  go_enter Tryd.func18, Tryd.ntmps18
  go_wp2_with (go_at_call 25; refine (HC.out _).mono ?_; rintro _ _ ⟨rfl, hb⟩)
  go_ret
  exact ⟨rfl, by assumption⟩
theorem splitc_any (s : T) (w : World) (hs : s.length ≤ 240) (hm : Mx w) : Calls Tryd.prog 17 #[.string ⟨s.toArray⟩, .string ⟨#[47]⟩] w fun e w' => e = .returned (.slice (some ⟨w.heap.size, 0, none⟩) (pc s).length (pc s).length) ∧
    w' = w.alloc (.cells (strs (pc s)).toArray 9) := by
  obtain ⟨m, hm⟩ := hm
  refine (NmS.strings_Split ⟨s.toArray⟩ ⟨#[47]⟩ m w (by rw [size_mk]; omega) hm (by decide)).mono ?_
  rintro e w' ⟨rfl, rfl⟩
  rw [pc_count s, splitB_pc]
  refine ⟨rfl, ?_⟩
  rw [List.map_map]
  rfl
theorem filter_next {xs : List T} {k : Nat} (hk : k < xs.length) : (xs.take (k + 1)).filter keep = (xs.take k).filter keep ++ (if keep xs[k] = true then [xs[k]] else []) := by
  rw [List.take_add_one, List.getElem?_eq_getElem hk, List.filter_append]
  congr 1
  simp only [Option.toList_some, List.filter_cons, List.filter_nil]
theorem all_next {xs : List T} {k : Nat} (hk : k < xs.length) : (xs.take (k + 1)).all okp = ((xs.take k).all okp && okp xs[k]) := by
  rw [List.take_add_one, List.getElem?_eq_getElem hk, List.all_append]
  simp
theorem all_bad {xs : List T} {k : Nat} (hk : k < xs.length) (h : okp xs[k] = false) : xs.all okp = false := by
  rw [List.all_eq_false]
  exact ⟨xs[k], List.getElem_mem hk, by simp [h]⟩
theorem last_get (s : T) : (pc s)[(pc s).length - 1]? = some (last s) := by
  have h : (pc s).length - 1 < (pc s).length := by have := List.length_pos_iff.2 (pc_ne s); omega
  unfold last
  rw [List.getLastD_eq_getLast?, List.getLast?_eq_getElem?, List.getElem?_eq_getElem h]
  rfl
theorem take_le (P : List T) (k : Nat) : ((P.take k).filter keep).length ≤ P.length :=
  Nat.le_trans (List.length_filter_le _ _) (List.length_take_le' k P)
theorem nots {x : T} (h1 : x ≠ []) (h2 : x ≠ [46]) (h3 : x ≠ [46, 46]) : x.isEmpty = false ∧ (x == [46]) = false ∧ (x == [46, 46]) = false := by
  simp [h1, h2, h3]
theorem at_new (w : World) (xs : List T) {j : Nat} {x : T} (h : xs[j]? = some x) : (w.alloc (.cells (strs xs).toArray 9)).cell? ⟨w.heap.size, j, none⟩ = some (.string ⟨x.toArray⟩) := by
  rw [cell_of_row _ w.heap.size j _ 9 _ (heap_alloc_new w _)]
  simpa using strs_get h

set_option maxHeartbeats 4000000 in
theorem split_any (s : T) (w : World) (hl : s.length ≤ 140737488355328) (hm : Mx w) : Calls Tryd.prog 8 #[.string ⟨s.toArray⟩] w fun e w' => ∃ v, e = .returned (.tuple #[v, .bool (abs s), .bool (dir s), .int .i64 (code s)]) ∧ Own w' w.heap.size v (steps s) ∧ Below w.heap.size w w' := by
  by_cases hr : inr s = true
  · have hr2 : 1 ≤ s.length ∧ s.length ≤ 240 := by simpa [inr] using hr
    have HB : Hid (fine s = false → steps s = [] ∧ abs s = false ∧ dir s = false ∧ code s = 12) := Lib.hid fun h => by simp [steps, abs, dir, code, h]
    have HF : Hid ((pc s).all okp = true → steps s = (pc s).filter keep ∧ abs s = Lib.hasPrefix s [47] ∧ dir s = (last s == [] || last s == [46] || last s == [46, 46]) ∧ code s = 0) := Lib.hid fun h => by
      simp [steps, abs, dir, code, fine, hr, h, Lib.hasPrefix]
    have HN : Hid ((pc s).all okp = false → fine s = false) := Lib.hid fun h => by simp [fine, h]
    have HP := Lib.hid (fun W => NmS.strings_HasPrefix ⟨s.toArray⟩ ⟨#[47]⟩ W)
    have HS := Lib.hid ((splitc_any s w hr2.2 hm).mono fun e w' (h : _ ∧ _) => And.intro h.1 h.2.symm)
    have hle := pc_len_le s
    have hpos : 0 < (pc s).length := List.length_pos_iff.2 (pc_ne s)
    have hlast := last_get s
    have hsh := pc_short s
    have hAt : ∀ j x, (pc s)[j]? = some x → (w.alloc (.cells (strs (pc s)).toArray 9)).cell? ⟨w.heap.size, j, none⟩ = some (.string ⟨x.toArray⟩) := fun j x h => at_new w _ h
    obtain ⟨W, hW⟩ : ∃ W, W = w.alloc (.cells (strs (pc s)).toArray 9) := ⟨_, rfl⟩
    have hs0 : W.heap.size = w.heap.size + 1 := by rw [hW]; simp
    have hb0 : Below w.heap.size w W := by rw [hW]; exact (Below.refl _ _).alloc (Nat.le_refl _) _
    rw [← hW] at HS hAt
    generalize fine s = Fi at HB HN
    generalize steps s = St at HB HF ⊢
    generalize abs s = Ab at HB HF ⊢
    generalize dir s = Di at HB HF ⊢
    generalize code s = Co at HB HF ⊢
    generalize last s = La at HF hlast
    generalize pc s = P at HF HN HS hle hpos hlast hsh hAt
    have e47 : (⟨#[47]⟩ : ByteArray).data.toList = [47] := rfl
    have HP2 : Hid (∀ W, Calls Tryd.prog 19 #[.string ⟨s.toArray⟩, .string ⟨#[47]⟩] W fun e w' => e = .returned (.bool (Lib.hasPrefix s [47])) ∧ W = w') := Lib.hid fun W => (HP.out W).mono fun e w' (h : _ ∧ _) => And.intro h.1 h.2.symm
    generalize Lib.hasPrefix s [47] = Hp at HF HP2
    clear hr hW hm e47 HP
    have HSH := Lib.hid hsh
    have HAT := Lib.hid hAt
    have HLA := Lib.hid hlast
    clear hsh hAt hlast
    go_enter Tryd.func8, Tryd.ntmps8
    go_wp2_with (go_at_call 17; refine HS.out.mono ?_; rintro _ _ ⟨rfl, rfl⟩)
    go_loopw [2, 22] (fun v i wr => ∃ k : Nat, k ≤ P.length ∧ i = .int .i64 k ∧ Hid (Own wr W.heap.size v ((P.take k).filter keep) ∧ (P.take k).all okp = true) ∧ Below W.heap.size W wr) (fun _ i _ => P.length - (intOf i).toNat)
    case atStart => exact ⟨0, Nat.zero_le _, rfl, Lib.hid ⟨Own.nil _ _, rfl⟩, Below.refl _ _⟩
    case round =>
      obtain ⟨k, hk, rfl, HW, hb⟩ := hrel
      have hsz := hb.size
      by_cases hlt : k < P.length
      · have hx0 : P[k]? = some P[k] := List.getElem?_eq_getElem hlt
        have hcx : wr.cell? ⟨w.heap.size, k, none⟩ = some (.string ⟨P[k].toArray⟩) := (hb.cell (p := ⟨w.heap.size, k, none⟩) (show w.heap.size < W.heap.size by omega)).trans (HAT.out k _ hx0)
        have hxl : P[k].length ≤ 240 := by have := HSH.out P[k] (List.getElem_mem hlt); omega
        have HKP := Lib.hid (filter_next hlt)
        have HAL := Lib.hid (all_next hlt)
        have HBD := Lib.hid (all_bad hlt)
        generalize P[k] = x at hcx hxl HKP HAL HBD
        have HVA := Lib.hid (fun W => (valid_any x W).mono fun e w' (h : _ ∧ _) => And.intro h.1 h.2.symm)
        have HCL := Lib.hid (fun W => clone_any x W (by omega))
        clear hx0
        by_cases hxe : x = []
        · subst hxe
          go_wp2
          go_roundw
          case rel => exact ⟨k + 1, by omega, by go_num, Lib.hid ⟨by rw [HKP.out]; simpa [keep] using HW.out.1, by rw [HAL.out, HW.out.2]; rfl⟩, hb⟩
          case measure => simp [intOf]; omega
        by_cases hxd : x = [46]
        · subst hxd
          go_wp2
          go_roundw
          case rel => exact ⟨k + 1, by omega, by go_num, Lib.hid ⟨by rw [HKP.out]; simpa [keep] using HW.out.1, by rw [HAL.out, HW.out.2]; rfl⟩, hb⟩
          case measure => simp [intOf]; omega
        have hkeep : keep x = true := by simp [keep, hxe, hxd]
        by_cases hxx : x = [46, 46]
        · subst hxx
          have hlen := take_le P k
          go_wp2_with (first
            | (go_at_call 18; refine (HCL.out _).mono ?_; rintro _ w1 ⟨rfl, hb1⟩; have hB1 := hb.trans (hb1.mono hsz); have hO1 := HW.out.1.below hb1 (Nat.le_refl _))
            | (at_builtin; refine wpList_app rfl (.tmp 39) (.tmp 42) rfl W.heap.size _ _ rfl (hO1.alloc _) [46, 46] w1.heap.size 1 rfl (by simp) (by omega) (by simp only [World.size_alloc]; have := hB1.size; omega) ?_; intro v2 w2 hS hB2; have hsz1 := hB1.size)
            | go_in)
          go_roundw
          case rel => exact ⟨k + 1, by omega, by go_num, Lib.hid ⟨by rw [HKP.out]; exact hS, by rw [HAL.out, HW.out.2]; rfl⟩, hB1.trans (((Below.refl _ _).alloc hsz1 _).trans hB2)⟩
          case measure => simp [intOf]; omega
        obtain ⟨n1, n2, n3⟩ := nots hxe hxd hxx
        cases hv : valid x with
        | true =>
          have hlen := take_le P k
          rw [hv] at HVA
          have hok : okp x = true := by simp [okp, good, hv]
          clear hv
          go_wp2_with (first
            | (go_at_call 11; refine (HVA.out _).mono ?_; rintro _ _ ⟨rfl, rfl⟩)
            | (go_at_call 18; refine (HCL.out _).mono ?_; rintro _ w1 ⟨rfl, hb1⟩; have hB1 := hb.trans (hb1.mono hsz); have hO1 := HW.out.1.below hb1 (Nat.le_refl _))
            | (at_builtin; refine wpList_app rfl (.tmp 39) (.tmp 42) rfl W.heap.size _ _ rfl (hO1.alloc _) x w1.heap.size 1 rfl (by simp) (by omega) (by simp only [World.size_alloc]; have := hB1.size; omega) ?_; intro v2 w2 hS hB2; have hsz1 := hB1.size)
            | go_in)
          go_roundw
          case rel => exact ⟨k + 1, by omega, by go_num, Lib.hid ⟨by rw [HKP.out, hkeep]; exact hS, by rw [HAL.out, HW.out.2, hok]; rfl⟩, hB1.trans (((Below.refl _ _).alloc hsz1 _).trans hB2)⟩
          case measure => simp [intOf]; omega
        | false =>
          rw [hv] at HVA
          have hok : okp x = false := by simp [okp, good, hv, hkeep, hxx]
          obtain ⟨e1, e2, e3, e4⟩ := HB.out (HN.out (HBD.out hok))
          have HE := Lib.hid (And.intro e1 (And.intro e2 (And.intro e3 e4)))
          clear hv e1 e2 e3 e4
          go_wp2_with (first
            | (go_at_call 11; refine (HVA.out _).mono ?_; rintro _ _ ⟨rfl, rfl⟩)
            | go_in)
          refine bodyPost_ret (results_4 rfl rfl rfl rfl rfl) rfl ?_
          obtain ⟨e1, e2, e3, e4⟩ := HE.out
          rw [e1, e2, e3, e4]
          exact ⟨_, rfl, Own.nil _ _, hb0.trans (hb.mono (by omega))⟩
      · obtain rfl : k = P.length := by omega
        rw [List.take_length] at HW
        obtain ⟨e1, e2, e3, e4⟩ := HF.out HW.out.2
        have HE := Lib.hid (And.intro e1 (And.intro e2 (And.intro e3 e4)))
        have hcl : wr.cell? ⟨w.heap.size, P.length - 1, none⟩ = some (.string ⟨La.toArray⟩) := (hb.cell (p := ⟨w.heap.size, P.length - 1, none⟩) (show w.heap.size < W.heap.size by omega)).trans (HAT.out _ _ HLA.out)
        have hO : Hid (Own wr w.heap.size u2 (P.filter keep)) := Lib.hid (HW.out.1.less (by omega))
        have hBw : Hid (Below w.heap.size w wr) := Lib.hid (hb0.trans (hb.mono (by omega)))
        have hi : (((P.length - 1 : Nat)) : Int) = (P.length : Int) - 1 := by omega
        clear e1 e2 e3 e4 HF HN HB HW HAT HLA HSH hb hb0
        by_cases hxe : La = []
        · subst hxe
          go_wp2_with (first
            | (go_at_call 19; refine (HP2.out _).mono ?_; rintro _ _ ⟨rfl, rfl⟩)
            | go_in)
          refine bodyPost_ret (results_4 rfl rfl rfl rfl rfl) rfl ?_
          obtain ⟨e1, e2, e3, e4⟩ := HE.out
          rw [e1, e2, e3, e4]
          exact ⟨_, rfl, hO.out, hBw.out⟩
        by_cases hxd : La = [46]
        · subst hxd
          go_wp2_with (first
            | (go_at_call 19; refine (HP2.out _).mono ?_; rintro _ _ ⟨rfl, rfl⟩)
            | go_in)
          refine bodyPost_ret (results_4 rfl rfl rfl rfl rfl) rfl ?_
          obtain ⟨e1, e2, e3, e4⟩ := HE.out
          rw [e1, e2, e3, e4]
          exact ⟨_, rfl, hO.out, hBw.out⟩
        by_cases hxx : La = [46, 46]
        · subst hxx
          go_wp2_with (first
            | (go_at_call 19; refine (HP2.out _).mono ?_; rintro _ _ ⟨rfl, rfl⟩)
            | go_in)
          refine bodyPost_ret (results_4 rfl rfl rfl rfl rfl) rfl ?_
          obtain ⟨e1, e2, e3, e4⟩ := HE.out
          rw [e1, e2, e3, e4]
          exact ⟨_, rfl, hO.out, hBw.out⟩
        · obtain ⟨n1, n2, n3⟩ := nots hxe hxd hxx
          go_wp2_with (first
            | (go_at_call 19; refine (HP2.out _).mono ?_; rintro _ _ ⟨rfl, rfl⟩)
            | go_in)
          refine bodyPost_ret (results_4 rfl rfl rfl rfl rfl) rfl ?_
          obtain ⟨e1, e2, e3, e4⟩ := HE.out
          rw [e1, e2, e3, e4]
          exact ⟨_, by simp [hxe, hxd, hxx], hO.out, hBw.out⟩
  · have hf : fine s = false := by simp [fine, hr]
    have hr2 : ¬ (1 ≤ s.length ∧ s.length ≤ 240) := by simpa [inr] using hr
    have h1 : steps s = [] := by simp [steps, hf]
    have h2 : abs s = false := by simp [abs, hf]
    have h3 : dir s = false := by simp [dir, hf]
    have h4 : code s = 12 := by simp [code, hf]
    rw [h1, h2, h3, h4]
    clear hf hr h1 h2 h3 h4
    have hc : s.length < 1 ∨ 240 < s.length := by omega
    clear hr2
    rcases hc with hc | hc
    all_goals
      go_enter Tryd.func8, Tryd.ntmps8
      go_wp2
      refine bodyPost_ret (results_4 rfl rfl rfl rfl rfl) rfl ?_
      exact ⟨_, rfl, Own.nil _ _, Below.refl _ _⟩
end Nm
end Go.Proofs.YthmcjjfhfkcheaaDoor
