/- Layer 12's laws: the fixed fact, NameSplits, NameCleans. -/
import Derived.Test.YthmcjjfhfkcheaaDoorNmQ
namespace Go.Proofs.YthmcjjfhfkcheaaDoor
set_option maxRecDepth 20000
namespace Nm
open Go.RowKit

set_option maxRecDepth 20000 in
theorem al1 : abs [47, 97, 47, 47, 98, 47, 46, 47, 99, 47] = true ∧ dir [47, 97, 47, 47, 98, 47, 46, 47, 99, 47] = true ∧ code [47, 97, 47, 47, 98, 47, 46, 47, 99, 47] = 0 ∧ steps [47, 97, 47, 47, 98, 47, 46, 47, 99, 47] = [[97], [98], [99]] := by
  refine ⟨by decide +kernel, by decide +kernel, by decide +kernel, by decide +kernel⟩
theorem al2 : clean [97, 47, 46, 46, 47, 46, 46, 47, 98] = [46, 46, 47, 98] ∧ code [97, 47, 46, 46, 47, 46, 46, 47, 98] = 0 := ⟨by decide +kernel, by decide +kernel⟩
theorem al3 : valid [97] = true ∧ valid [46, 46] = false := ⟨by decide +kernel, by decide +kernel⟩
theorem at_lit3 (w : World) (x y z : T) : At (w.alloc (.cells #[.string ⟨x.toArray⟩, .string ⟨y.toArray⟩, .string ⟨z.toArray⟩] 9)) (w.heap.size + 1) (some ⟨w.heap.size, 0, none⟩) 3 [x, y, z] :=
  ⟨Nat.le_refl _, fun _ => ⟨_, rfl, Nat.lt_succ_self _, fun i u hu => at_new w [x, y, z] hu⟩⟩

theorem same3 (w : World) (ao : Option Addr) (c : Nat) (h : At w w.heap.size ao c [[97], [98], [99]]) : Calls Tryd.prog 10 #[.slice ao 3 c, .slice (some ⟨w.heap.size, 0, none⟩) 3 3]
    (w.alloc (.cells #[.string ⟨#[97]⟩, .string ⟨#[98]⟩, .string ⟨#[99]⟩] 9)) fun e w' => e = .returned (.bool true) ∧ Below w.heap.size w w' := by
  have hs : w.heap.size + 1 ≤ (w.alloc (.cells #[.string ⟨#[97]⟩, .string ⟨#[98]⟩, .string ⟨#[99]⟩] 9)).heap.size := by simp
  have hb : Below w.heap.size w (w.alloc (.cells #[.string ⟨#[97]⟩, .string ⟨#[98]⟩, .string ⟨#[99]⟩] 9)) := (Below.refl _ _).alloc (Nat.le_refl _) _
  have h1 : At (w.alloc (.cells #[.string ⟨#[97]⟩, .string ⟨#[98]⟩, .string ⟨#[99]⟩] 9)) _ ao c [[97], [98], [99]] := (h.below hb (Nat.le_refl w.heap.size)).more (Nat.le_trans (Nat.le_succ _) hs)
  have h2 : At (w.alloc (.cells #[.string ⟨#[97]⟩, .string ⟨#[98]⟩, .string ⟨#[99]⟩] 9)) _ (some ⟨w.heap.size, 0, none⟩) 3 [[97], [98], [99]] := (at_lit3 w [97] [98] [99]).more hs
  have c := same_any [[97], [98], [99]] [[97], [98], [99]] ao (some ⟨w.heap.size, 0, none⟩) c 3 _ h1 h2 (by simp) (by simp)
  refine c.mono ?_
  rintro e w' ⟨he, hb'⟩
  exact ⟨he.trans (by simp), hb.trans (hb'.mono (by omega))⟩

set_option maxHeartbeats 2000000 in
theorem alive_any (w : World) (hm : Mx w) : Calls Tryd.prog 7 #[] w fun e w' => e = .returned (.bool true) ∧ Below w.heap.size w w' := by
  have HS : Hid (Calls Tryd.prog 8 #[.string ⟨#[47, 97, 47, 47, 98, 47, 46, 47, 99, 47]⟩] w fun e w' => ∃ v, e = .returned (.tuple #[v, .bool true, .bool true, .int .i64 0]) ∧ Own w' w.heap.size v [[97], [98], [99]] ∧ Below w.heap.size w w') := Lib.hid (by
    have := split_any [47, 97, 47, 47, 98, 47, 46, 47, 99, 47] w (by decide) hm
    rw [al1.1, al1.2.1, al1.2.2.1, al1.2.2.2] at this
    exact this)
  have HC : Hid (∀ W, Mx W → Calls Tryd.prog 13 #[.string ⟨#[97, 47, 46, 46, 47, 46, 46, 47, 98]⟩] W fun e w' => e = .returned (.tuple #[.string ⟨#[46, 46, 47, 98]⟩, .int .i64 0]) ∧ Below W.heap.size W w') := Lib.hid (fun W h => by
    have := clean_any [97, 47, 46, 46, 47, 46, 46, 47, 98] W (by decide) h
    rw [al2.1, al2.2] at this
    exact this)
  have HV : Hid (∀ (x : T) W, Calls Tryd.prog 11 #[.string ⟨x.toArray⟩] W fun e w' => e = .returned (.bool (valid x)) ∧ W = w') := Lib.hid (fun x W => (valid_any x W).mono fun e w' h => ⟨h.1, h.2.symm⟩)
  have v1 := al3.1
  have v2 := al3.2
  have HM := Lib.hid (fun W (hb : Below w.heap.size w W) => hm.below hb hm.size)
  clear hm
  go_enter Tryd.func7, Tryd.ntmps7
  go_wp2_with (first
    | (go_at_call 8; refine HS.out.mono ?_; rintro _ w1 ⟨v, rfl, hO, hb1⟩; obtain ⟨ao, c1, rfl, hA, _, _⟩ := hO.slice; have hs1 := hb1.size)
    | (go_at_call 13; refine (HC.out w1 (HM.out _ hb1)).mono ?_; rintro _ w2 ⟨rfl, hb2⟩; have hs2 := hb2.size; have hA2 := hA.below hb2 (Nat.le_refl _); have hB2 := Lib.hid (hb1.trans (hb2.mono hs1)))
    | (go_at_call 10; refine (same3 w2 ao c1 (hA2.more hs2)).mono ?_; rintro _ w3 ⟨rfl, hb3⟩; have hB3 := hB2.out.trans (hb3.mono (by omega)))
    | (go_at_call 11; refine (HV.out _ _).mono ?_; rintro _ _ ⟨rfl, rfl⟩)
    | go_in)
  go_ret
  exact ⟨rfl, by assumption⟩

set_option maxHeartbeats 2000000 in
theorem namesplits_any (s : T) (w : World) (hl : s.length ≤ 140737488355328) (hm : Mx w) : Calls Tryd.prog 3 #[.string ⟨s.toArray⟩] w fun e w' => e = .returned (.bool true) ∧ Below w.heap.size w w' := by
  have HA := Lib.hid (alive_any w hm)
  have HS := Lib.hid (fun W (h : Mx W) => split_any s W hl h)
  have HR := Lib.hid (fun W => refsplit_any s W hl)
  have HV := Lib.hid (fun W => (valid_any s W).mono fun e w' (h : _ ∧ _) => And.intro h.1 h.2.symm)
  have HX := Lib.hid (fun W => (refvalid_any s W hl).mono fun e w' (h : _ ∧ _) => And.intro h.1 h.2.symm)
  have HM := Lib.hid (fun W (hb : Below w.heap.size w W) => hm.below hb hm.size)
  have hn := steps_len s
  generalize steps s = P at HS HR hn
  generalize abs s = Ab at HS HR
  generalize dir s = Di at HS HR
  generalize code s = Co at HS HR
  generalize valid s = Va at HV HX
  have HE := Lib.hid (fun (ao bo : Option Addr) (c1 c2 : Nat) (W : World) (h1 : At W W.heap.size ao c1 P) (h2 : At W W.heap.size bo c2 P) => (same_any P P ao bo c1 c2 W h1 h2 (by omega) (by omega)).mono fun e w' (h : _ ∧ _) => And.intro (h.1.trans (by rw [decide_eq_true rfl]) : e = .returned (.bool true)) h.2)
  clear hm hl
  go_enter Tryd.func3, Tryd.ntmps3
  go_wp2_with (first
    | (go_at_call 7; refine HA.out.mono ?_; rintro _ w1 ⟨rfl, hb1⟩; have hs1 := hb1.size)
    | (go_at_call 8; refine (HS.out w1 (HM.out _ hb1)).mono ?_; rintro _ w2 ⟨v, rfl, hO, hb2⟩; obtain ⟨ao, c1, rfl, hA, _, _⟩ := hO.slice; have hs2 := hb2.size; have hB2 := hb1.trans (hb2.mono hs1))
    | (go_at_call 9; refine (HR.out w2).mono ?_; rintro _ w3 ⟨v3, rfl, hO3, hb3⟩; obtain ⟨bo, c2, rfl, hA3, _, _⟩ := hO3.slice; have hs3 := hb3.size; have hB3 := hB2.trans (hb3.mono (by omega)))
    | (go_at_call 10; refine (HE.out ao bo c1 c2 w3 ((hA.below hb3 (Nat.le_refl _)).more hs3) hA3).mono ?_; rintro _ w4 ⟨rfl, hb4⟩; have hB4 := hB3.trans (hb4.mono (by omega)))
    | (go_at_call 11; refine (HV.out _).mono ?_; rintro _ _ ⟨rfl, rfl⟩)
    | (go_at_call 12; refine (HX.out _).mono ?_; rintro _ _ ⟨rfl, rfl⟩)
    | go_in)
  go_ret
  exact ⟨rfl, by assumption⟩

set_option maxHeartbeats 2000000 in
theorem namecleans_any (s : T) (w : World) (hl : s.length ≤ 140737488355328) (hm : Mx w) : Calls Tryd.prog 4 #[.string ⟨s.toArray⟩] w fun e w' => e = .returned (.bool true) ∧ Below w.heap.size w w' := by
  have HA := Lib.hid (alive_any w hm)
  have HC := Lib.hid (fun W (h : Mx W) => clean_any s W hl h)
  have HD := Lib.hid (fun W => refclean_any s W hl)
  have HP := Lib.hid (fun W (h : Mx W) => parent_any s W hl h)
  have HQ := Lib.hid (fun W => refparent_any s W hl)
  have HM := Lib.hid (fun W (hb : Below w.heap.size w W) => hm.below hb hm.size)
  generalize clean s = Cl at HC HD
  generalize code s = Co at HC HD
  generalize pdir s = Pd at HP HQ
  generalize pname s = Pn at HP HQ
  generalize pcode s = Pc at HP HQ
  clear hm hl
  go_enter Tryd.func4, Tryd.ntmps4
  go_wp2_with (first
    | (go_at_call 7; refine HA.out.mono ?_; rintro _ w1 ⟨rfl, hb1⟩; have hs1 := hb1.size)
    | (go_at_call 13; refine (HC.out w1 (HM.out _ hb1)).mono ?_; rintro _ w2 ⟨rfl, hb2⟩; have hs2 := hb2.size; have hB2 := hb1.trans (hb2.mono hs1))
    | (go_at_call 14; refine (HD.out w2).mono ?_; rintro _ w3 ⟨rfl, hb3⟩; have hs3 := hb3.size; have hB3 := hB2.trans (hb3.mono (by omega)))
    | (go_at_call 15; refine (HP.out w3 (HM.out _ hB3)).mono ?_; rintro _ w4 ⟨rfl, hb4⟩; have hs4 := hb4.size; have hB4 := hB3.trans (hb4.mono (by omega)))
    | (go_at_call 16; refine (HQ.out w4).mono ?_; rintro _ w5 ⟨rfl, hb5⟩; have hB5 := hB4.trans (hb5.mono (by omega)))
    | go_in)
  go_ret
  exact ⟨rfl, by assumption⟩
end Nm
end Go.Proofs.YthmcjjfhfkcheaaDoor
