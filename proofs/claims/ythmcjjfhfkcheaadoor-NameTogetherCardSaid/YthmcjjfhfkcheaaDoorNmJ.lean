/- join, of the code and of the reference; Same. -/
import Derived.Test.YthmcjjfhfkcheaaDoorNmR
import Derived.Test.YthmcjjfhfkcheaaDoorNmT
namespace Go.Proofs.YthmcjjfhfkcheaaDoor
set_option maxRecDepth 20000
namespace Nm
open Go.RowKit

theorem joinl_any (xs : List T) (ao : Option Addr) (cap : Nat) (w : World) (h : At w w.heap.size ao cap xs) (ht : (txt xs).length ≤ 1000000) (hn : xs.length ≤ 1000000) :
    Calls Tryd.prog 28 #[.slice ao xs.length cap, .string ⟨#[47]⟩] w fun e w' => e = .returned (.string ⟨(txt xs).toArray⟩) ∧ Below w.heap.size w w' := by
  by_cases hx : xs = []
  · subst hx
    exact (NmS.strings_Join_none ao cap ⟨#[47]⟩ w).mono fun e w' ⟨h1, h2⟩ => ⟨h1, h2 ▸ Below.refl _ _⟩
  · obtain ⟨g, rfl, hg, hc⟩ := h.cells hx
    have hmap : (xs.map fun x => (⟨x.toArray⟩ : ByteArray)).map (·.data.toList) = xs := by
      rw [List.map_map]
      conv => rhs; rw [← List.map_id xs]
      exact List.map_congr_left fun x _ => rfl
    have e47 : (⟨#[47]⟩ : ByteArray).data.toList = [47] := rfl
    have c := NmS.strings_Join g 0 cap (xs.map fun x => (⟨x.toArray⟩ : ByteArray)) ⟨#[47]⟩ w
      (fun j x hj => by
        rw [List.getElem?_map] at hj
        cases hq : xs[j]? with
        | none => rw [hq] at hj; simp at hj
        | some y =>
          rw [hq] at hj
          simp at hj
          subst hj
          rw [Nat.zero_add]
          exact hc j y hq) hg (by rw [List.length_map]; omega) (by rw [List.length_map]; exact h.room) (by rw [hmap, e47]; have : (Lib.join xs [47]).length ≤ 1000000 := ht; omega)
    rw [hmap, List.length_map, e47] at c
    exact c

set_option maxHeartbeats 1000000 in
theorem join_any (xs : List T) (a : Bool) (ao : Option Addr) (cap : Nat) (w : World) (h : At w w.heap.size ao cap xs) (ht : (txt xs).length ≤ 1000000) (hn : xs.length ≤ 1000000) :
    Calls Tryd.prog 22 #[.slice ao xs.length cap, .bool a] w fun e w' => e = .returned (.string ⟨(joinC xs a).toArray⟩) ∧ Below w.heap.size w w' := by
  have HJ := Lib.hid (joinl_any xs ao cap w h ht hn)
  have hadd : ∀ W, (Op.stringOp .add ⟨#[47]⟩ ⟨(txt xs).toArray⟩).run Tryd.prog W = .ok (.string ⟨((47 : UInt8) :: txt xs).toArray⟩) W := fun W => run_string_add_lists W [47] (txt xs) (by simp) (by omega)
  have HJC : Hid (joinC xs a = if a then 47 :: txt xs else if xs.length = 0 then [46] else txt xs) := Lib.hid rfl
  generalize joinC xs a = R at HJC
  generalize txt xs = X at HJ hadd ht HJC
  cases a with
  | true =>
    go_enter Tryd.func22, Tryd.ntmps22
    go_wp2_with (go_at_call 28; refine HJ.out.mono ?_; rintro _ W ⟨rfl, hb⟩)
    go_ret
    exact ⟨by rw [HJC.out]; rfl, by assumption⟩
  | false =>
    by_cases h0 : xs.length = 0
    · go_enter Tryd.func22, Tryd.ntmps22
      go_wp2
      go_ret
      exact ⟨by rw [HJC.out, if_pos h0]; rfl, Below.refl _ _⟩
    · go_enter Tryd.func22, Tryd.ntmps22
      go_wp2_with (go_at_call 28; refine HJ.out.mono ?_; rintro _ W ⟨rfl, hb⟩)
      go_ret
      exact ⟨by rw [HJC.out, if_neg h0]; rfl, by assumption⟩

set_option maxHeartbeats 2000000 in
theorem refjoin_any (xs : List T) (a : Bool) (ao : Option Addr) (cap : Nat) (w : World) (h : At w w.heap.size ao cap xs) (ht : ∀ k, (txt (xs.take k)).length ≤ 100000) (hs : ∀ x ∈ xs, x.length ≤ 100000) (hn : xs.length ≤ 1000000) :
    Calls Tryd.prog 23 #[.slice ao xs.length cap, .bool a] w fun e w' => e = .returned (.string ⟨(joinR xs a).toArray⟩) ∧ w = w' := by
  have HJC : Hid (joinR xs a = if a then 47 :: txt xs else if txt xs = [] then [46] else txt xs) := Lib.hid rfl
  generalize joinR xs a = R at HJC
  go_enter Tryd.func23, Tryd.ntmps23
  go_wp2
  go_loopw [5, 6] (fun s i wr => ∃ k : Nat, k ≤ xs.length ∧ i = .int .i64 k ∧ s = .string ⟨(txt (xs.take k)).toArray⟩ ∧ w = wr) (fun _ i _ => xs.length - (intOf i).toNat)
  case atStart => exact ⟨0, Nat.zero_le _, rfl, rfl, rfl⟩
  case round =>
    obtain ⟨k, hk, rfl, rfl, rfl⟩ := hrel
    by_cases hlt : k < xs.length
    · obtain ⟨g, rfl, hg, hcx⟩ := h.get hlt
      have htk := ht k
      have hxl := hs xs[k] (List.getElem_mem hlt)
      have HTN := Lib.hid (txt_next xs hlt)
      have hy0 : k = 0 → txt (xs.take k) = [] := fun e => by rw [e]; rfl
      clear h
      generalize xs[k] = x at hcx hxl HTN
      generalize txt (xs.take k) = y at htk HTN hy0 ⊢
      by_cases hk0 : k = 0
      · subst hk0
        obtain rfl := hy0 rfl
        have hadd : ∀ W, (Op.stringOp .add ⟨#[]⟩ ⟨x.toArray⟩).run Tryd.prog W = .ok (.string ⟨x.toArray⟩) W := fun W => run_string_add_lists W [] x (by simp) (by omega)
        go_wp2
        go_roundw
        case rel => exact ⟨1, by omega, by go_num, by rw [show (1 : Nat) = 0 + 1 from rfl, HTN.out]; rfl, trivial⟩
        case measure => simp [intOf]; omega
      · have hadd : ∀ W, (Op.stringOp .add ⟨y.toArray⟩ ⟨#[47]⟩).run Tryd.prog W = .ok (.string ⟨(y ++ [47]).toArray⟩) W := fun W => run_string_add_lists W y [47] (by omega) (by simp)
        have hadd2 : ∀ W, (Op.stringOp .add ⟨(y ++ [47]).toArray⟩ ⟨x.toArray⟩).run Tryd.prog W = .ok (.string ⟨((y ++ [47]) ++ x).toArray⟩) W := fun W => run_string_add_lists W (y ++ [47]) x (by simp; omega) (by omega)
        have hHT : Hid (txt (xs.take (k + 1)) = (y ++ [47]) ++ x) := Lib.hid (by rw [HTN.out, if_neg hk0])
        clear HTN hy0
        generalize (y ++ [47]) = y2 at hadd hadd2 hHT
        generalize (y2 ++ x) = y3 at hadd2 hHT
        go_wp2
        go_roundw
        case rel => exact ⟨k + 1, by omega, by go_num, by rw [hHT.out], trivial⟩
        case measure => simp [intOf]; omega
    · obtain rfl : k = xs.length := by omega
      have htk := ht xs.length
      rw [List.take_length] at htk ⊢
      clear h ht
      have hadd : ∀ W, (Op.stringOp .add ⟨#[47]⟩ ⟨(txt xs).toArray⟩).run Tryd.prog W = .ok (.string ⟨((47 : UInt8) :: txt xs).toArray⟩) W := fun W => run_string_add_lists W [47] (txt xs) (by simp) (by omega)
      generalize txt xs = X at hadd htk HJC ⊢
      cases a with
      | true =>
        go_wp2
        go_ret
        exact ⟨by rw [HJC.out]; rfl, rfl⟩
      | false =>
        by_cases h0 : X = []
        · subst h0
          go_wp2
          go_ret
          exact ⟨by rw [HJC.out]; rfl, rfl⟩
        · have h1 : X.isEmpty = false := by simp [h0]
          go_wp2
          go_ret
          exact ⟨by rw [HJC.out, if_neg (by decide), if_neg h0]; rfl, rfl⟩

set_option maxHeartbeats 2000000 in
theorem same_any (xs ys : List T) (ao bo : Option Addr) (cap c2 : Nat) (w : World) (hx : At w w.heap.size ao cap xs) (hy : At w w.heap.size bo c2 ys) (hn : xs.length ≤ 1000000) (hm : ys.length ≤ 1000000) :
    Calls Tryd.prog 10 #[.slice ao xs.length cap, .slice bo ys.length c2] w fun e w' => e = .returned (.bool (decide (xs = ys))) ∧ Below w.heap.size w w' := by
  by_cases hl : xs.length = ys.length
  · have HS : Hid ((∀ k, (h : k < xs.length) → (h2 : k < ys.length) → xs[k] = ys[k]) → decide (xs = ys) = true) := Lib.hid fun h => by
      simp only [decide_eq_true_eq]
      exact List.ext_getElem hl h
    have HD : Hid (∀ k, (h : k < xs.length) → (h2 : k < ys.length) → xs[k] ≠ ys[k] → decide (xs = ys) = false) := Lib.hid fun k h h2 hne => by
      simp only [decide_eq_false_iff_not]
      rintro rfl
      exact hne rfl
    generalize decide (xs = ys) = R at HS HD
    rw [← hl]
    have HL := Lib.hid hl
    clear hl hm
    go_enter Tryd.func10, Tryd.ntmps10
    go_wp2
    go_loopw [5] (fun i wr => ∃ k : Nat, k ≤ xs.length ∧ i = .int .i64 k ∧ Hid (∀ j, (h : j < xs.length) → (h2 : j < ys.length) → j < k → xs[j] = ys[j]) ∧ Below w.heap.size w wr) (fun i _ => xs.length - (intOf i).toNat)
    case atStart => exact ⟨0, Nat.zero_le _, rfl, Lib.hid (fun j _ _ h => by omega), Below.refl _ _⟩
    case round =>
      obtain ⟨k, hk, rfl, HC, hb⟩ := hrel
      by_cases hlt : k < xs.length
      · have hlt2 : k < ys.length := by have := HL.out; omega
        obtain ⟨g, rfl, hg, hcx⟩ := (hx.below hb (Nat.le_refl _)).get hlt
        obtain ⟨g2, rfl, hg2, hcy⟩ := (hy.below hb (Nat.le_refl _)).get hlt2
        have HD2 := Lib.hid (HD.out k hlt hlt2)
        have HC2 : Hid (xs[k] = ys[k] → ∀ j, (h : j < xs.length) → (h2 : j < ys.length) → j < k + 1 → xs[j] = ys[j]) := Lib.hid fun e j h h2 hj => by
          by_cases e2 : j = k
          · subst e2; exact e
          · exact HC.out j h h2 (by omega)
        clear hx hy HC HD
        generalize xs[k] = x at hcx HD2 HC2
        generalize ys[k] = y at hcy HD2 HC2
        by_cases hxy : x = y
        · subst hxy
          go_wp2
          go_quiet (fail)
          go_wp2
          go_roundw
          case rel => exact ⟨k + 1, by omega, by go_num, Lib.hid (HC2.out trivial), below_drewN hb nq⟩
          case measure => simp [intOf]; omega
        · have h1 : (x == y) = false := by simp [hxy]
          go_wp2
          go_quiet (fail)
          go_wp2
          go_ret
          exact ⟨by rw [HD2.out hxy]; rfl, below_drewN hb nq⟩
      · have hR := HS.out fun j h h2 => HC.out j h h2 (by omega)
        clear hx hy HC HD HS
        subst hR
        go_wp2
        go_ret
        exact ⟨rfl, hb⟩
  · have hR : decide (xs = ys) = false := by
      simp only [decide_eq_false_iff_not]
      rintro rfl
      exact hl rfl
    rw [hR]
    have hli : ¬ ((xs.length : Nat) : Int) = (ys.length : Int) := by omega
    go_enter Tryd.func10, Tryd.ntmps10
    go_wp2
    go_ret
    exact ⟨rfl, Below.refl _ _⟩
end Nm
end Go.Proofs.YthmcjjfhfkcheaaDoor
