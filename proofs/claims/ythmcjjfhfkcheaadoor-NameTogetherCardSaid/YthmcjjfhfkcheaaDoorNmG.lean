/- Layer 12's laws: NameAgain, NameTogether. -/
import Derived.Test.YthmcjjfhfkcheaaDoorNmL
import Derived.Test.YthmcjjfhfkcheaaDoorNmN
namespace Go.Proofs.YthmcjjfhfkcheaaDoor
set_option maxRecDepth 20000
namespace Nm
open Go.RowKit

theorem bel_trans {w a b : World} (h1 : Below w.heap.size w a) (h2 : Below a.heap.size a b) : Below w.heap.size w b := h1.trans (h2.mono h1.size)

set_option maxHeartbeats 2000000 in
theorem nameagain_any (s : T) (w : World) (hl : s.length ≤ 140737488355328) (hm : Mx w) : Calls Tryd.prog 5 #[.string ⟨s.toArray⟩] w fun e w' => e = .returned (.bool true) ∧ Below w.heap.size w w' := by
  have HA := Lib.hid (alive_any w hm)
  have HC := Lib.hid (fun (x : T) W (hx : x.length ≤ 140737488355328) (h : Mx W) => clean_any x W hx h)
  have HS := Lib.hid (fun (x : T) W (hx : x.length ≤ 140737488355328) (h : Mx W) => split_any x W hx h)
  have HM := Lib.hid (fun W (hb : Below w.heap.size w W) => hm.below hb hm.size)
  clear hm
  cases hf : fine s with
  | false =>
    have e1 : clean s = [] := by simp [clean, hf]
    have k1 : code s = 12 := by simp [code, hf]
    clear hf
    go_enter Tryd.func5, Tryd.ntmps5
    go_wp2_with (first
      | (go_at_call 7; refine HA.out.mono ?_; rintro _ w1 ⟨rfl, hb1⟩; have hs1 := hb1.size)
      | (go_at_call 13; refine (HC.out _ w1 hl (HM.out _ hb1)).mono ?_; rintro _ w2 ⟨rfl, hb2⟩; have hB2 := hb1.trans (hb2.mono hs1))
      | go_in)
    go_ret
    exact ⟨rfl, by assumption⟩
  | true =>
    obtain ⟨f2, e2, hq, a2, hlen⟩ := again hf
    have k1 : code s = 0 := by simp [code, hf]
    have k2 : code (clean s) = 0 := by simp [code, f2]
    have hcl : (clean s).length ≤ 140737488355328 := by omega
    obtain ⟨Cl, e1⟩ : ∃ Cl, Cl = clean s := ⟨_, rfl⟩
    rw [← e1] at f2 e2 hq a2 hlen k2 hcl
    have e0 : clean s = Cl := e1.symm
    clear hf f2 e1
    go_enter Tryd.func5, Tryd.ntmps5
    go_wp2_with (first
      | (go_at_call 7; refine HA.out.mono ?_; rintro _ w1 ⟨rfl, hb1⟩; have hs1 := hb1.size)
      | (go_at_call 13; refine (HC.out _ _ (by first | exact hl | exact hcl) (HM.out _ (by assumption))).mono ?_; rintro _ w2 ⟨rfl, hb2⟩; have hB2 := bel_trans (by assumption) hb2; clear hb2)
      | (go_at_call 8; refine (HS.out _ _ (by first | exact hl | exact hcl) (HM.out _ (by assumption))).mono ?_; rintro _ w3 ⟨v, rfl, hO, hb3⟩; obtain ⟨ao, c1, rfl, _, _, _⟩ := hO.slice; have hB3 := bel_trans (by assumption) hb3; clear hb3 hO)
      | go_in)
    go_ret
    refine ⟨ret_b rfl ?_, by assumption⟩
    rw [decide_eq_true_eq]
    omega

/-- append(v, y), a guarded one that is wanted -/
theorem wpList_appW {w : World} {ops : Array Oper} {rest : List Oper} {o : Oper} {a : Act} {Q : Exit → Act → World → Prop} (hw : Region.wanted o (yielded ops a.tmps) = true) (s x : Operand)
    (ho : o.op = .call { callee := .builtin .append, args := #[s, x], argTypes := #[23, 23] }) (base : Nat) (v : Value) (xs : List T) (hs : a.eval s = v) (hown : Own w base v xs)
    (y : T) (g c : Nat) (hx : a.eval x = .slice (some ⟨g, 0, none⟩) 1 c) (hy : w.cell? ⟨g, 0, none⟩ = some (.string ⟨y.toArray⟩)) (hlen : xs.length + 1 ≤ 1000000) (hbase : base ≤ w.heap.size)
    (h : ∀ v' w', Own w' base v' (xs ++ [y]) → Below base w w' → wpList Tryd.prog ops Q rest (a.put o.dst v') w') : wpList Tryd.prog ops Q (o :: rest) a w := by
  refine wpList_step fun K hK => ?_
  rw [if_pos hw]
  obtain ⟨v', w', hr, h2, h3⟩ := run_app o.type hown y g c hy hlen hbase
  unfold Oper.wp execOp
  simp only [ho, resolve, invoke, builtin, Sem.run_bind, Sem.run_pure, Result.andThen_ok, List.map_toArray, List.map_cons, List.map_nil, hs, hx, hr]
  exact hK _ _ (h v' w' h2 h3)
/-- append(v, ys...) -/
theorem run_apps {w : World} {base b : Nat} {v : Value} {xs ys : List T} (ty : TypeId) (hown : Own w base v xs) (ao : Option Addr) (c : Nat) (hA : At w b ao c ys) (hc : ao = none → c = 0) (hlen : xs.length + ys.length ≤ 1000000) (hbase : base ≤ w.heap.size) :
    ∃ v' w', (Builtin.append_ #[23, 23] ty #[v, .slice ao ys.length c]).run Tryd.prog w = .ok v' w' ∧ Own w' base v' (xs ++ ys) ∧ Below base w w' := by
  obtain ⟨i0, hi, hz0, hz1, hz2⟩ := info_parts str_info
  have hlt := World.ownsRow.lt hown
  cases ao with
  | none =>
    have h0 := hc rfl
    have hy : ys = [] := by
      apply Classical.byContradiction
      intro h
      obtain ⟨g, h1, _⟩ := hA.cells h
      cases h1
    subst h0 hy
    exact ⟨v, w, run_append_owned_none w base 23 ty 9 i0 1 und_strs hi v xs.length (strs xs) hown, by simpa using hown, Below.refl _ _⟩
  | some ad =>
    obtain ⟨v', w', h1, h2, h3, _⟩ := run_append_own (P := Tryd.prog) w base 23 ty 9 i0 _ 1 16 und_strs hi hz0 hz1 hz2 rfl (by decide) v xs.length (strs xs) hown ad ys.length c (strs ys) (by rw [strs_len, Nat.mul_one])
      (fun j u hj => by
        have hjl : j < ys.length := by have := (List.getElem?_eq_some_iff.1 hj).1; rwa [strs_len] at this
        obtain ⟨g, h1, _, h3⟩ := hA.get hjl
        injection h1 with h1
        subst h1
        have e : (⟨g, 0, none⟩ : Addr).add j = ⟨g, j, none⟩ := by unfold Addr.add; split <;> simp_all
        rw [e, h3]
        have := strs_get (List.getElem?_eq_getElem hjl)
        rw [this] at hj
        exact hj)
      (strs_one ys) (by unfold maxLen; omega) (by omega) hbase
    refine ⟨v', w', h1, ?_, (Below.refl _ _).grown h3 hbase fun k hk => (hlt k hk).1⟩
    unfold Own
    rw [List.length_append, strs_app]
    exact h2
theorem wpList_appsW {w : World} {ops : Array Oper} {rest : List Oper} {o : Oper} {a : Act} {Q : Exit → Act → World → Prop} (hw : Region.wanted o (yielded ops a.tmps) = true) (s x : Operand)
    (ho : o.op = .call { callee := .builtin .append, args := #[s, x], argTypes := #[23, 23] }) (base b : Nat) (v : Value) (xs ys : List T) (hs : a.eval s = v) (hown : Own w base v xs)
    (ao : Option Addr) (c : Nat) (hx : a.eval x = .slice ao ys.length c) (hA : At w b ao c ys) (hc : ao = none → c = 0) (hlen : xs.length + ys.length ≤ 1000000) (hbase : base ≤ w.heap.size)
    (h : ∀ v' w', Own w' base v' (xs ++ ys) → Below base w w' → wpList Tryd.prog ops Q rest (a.put o.dst v') w') : wpList Tryd.prog ops Q (o :: rest) a w := by
  refine wpList_step fun K hK => ?_
  rw [if_pos hw]
  obtain ⟨v', w', hr, h2, h3⟩ := run_apps o.type hown ao c hA hc hlen hbase
  unfold Oper.wp execOp
  simp only [ho, resolve, invoke, builtin, Sem.run_bind, Sem.run_pure, Result.andThen_ok, List.map_toArray, List.map_cons, List.map_nil, hs, hx, hr]
  exact hK _ _ (h v' w' h2 h3)

theorem own_empty (w : World) : Own (w.alloc (.cells #[] 9)) w.heap.size (.slice (some ⟨w.heap.size, 0, none⟩) 0 0) [] := World.ownsRow_lit w #[] 0 (Nat.le_refl _) (by unfold maxLen; omega) rfl
theorem bel_alloc (w : World) (o : Obj) : Below w.heap.size w (w.alloc o) := (Below.refl _ _).alloc (Nat.le_refl _) o
theorem tog_bel2 {w4 w5 w6 : World} {o o2 : Obj} (h5 : Below w4.heap.size (w4.alloc o) w5) (h6 : Below w4.heap.size (w5.alloc o2) w6) : Below w4.heap.size w4 w6 := by
  have h4 := (bel_alloc w4 o).trans h5
  exact (h4.alloc h4.size o2).trans h6
theorem tog_at {w3 w4 w5 w6 : World} {o o2 : Obj} {ao : Option Addr} {c : Nat} {xs : List T} (h : At w4 w3.heap.size ao c xs) (hs : w3.heap.size ≤ w4.heap.size) (h5 : Below w4.heap.size (w4.alloc o) w5) (h6 : Below w4.heap.size (w5.alloc o2) w6) : At w6 w6.heap.size ao c xs := by
  have hb := tog_bel2 h5 h6
  exact (h.below hb hs).more (Nat.le_trans hs hb.size)
theorem tog_bel {w w4 w5 w6 w7 : World} {o o2 : Obj} (h : Below w.heap.size w w4) (h5 : Below w4.heap.size (w4.alloc o) w5) (h6 : Below w4.heap.size (w5.alloc o2) w6) (h7 : Below w6.heap.size w6 w7) : Below w.heap.size w w7 :=
  bel_trans (bel_trans h (tog_bel2 h5 h6)) h7

set_option maxHeartbeats 2000000 in
theorem nametogether_any (s : T) (w : World) (hl : s.length ≤ 140737488355328) (hm : Mx w) : Calls Tryd.prog 6 #[.string ⟨s.toArray⟩] w fun e w' => e = .returned (.bool true) ∧ Below w.heap.size w w' := by
  have HA := Lib.hid (alive_any w hm)
  have HP := Lib.hid (fun W (h : Mx W) => parent_any s W hl h)
  have HS := Lib.hid (fun (x : T) W (hx : x.length ≤ 140737488355328) (h : Mx W) => split_any x W hx h)
  have HM := Lib.hid (fun W (hb : Below w.heap.size w W) => hm.below hb hm.size)
  clear hm
  cases hp : pok s with
  | false =>
    have p1 : pdir s = [] := by simp [pdir, hp]
    have p2 : pname s = [] := by simp [pname, hp]
    have p3 : pcode s = 12 := by simp [pcode, hp]
    rw [p1, p2, p3] at HP
    have hc : code s = 12 ∨ (code s = 0 ∧ steps s = []) ∨ (code s = 0 ∧ 0 < (steps s).length ∧ (steps s).getLastD [] = [46, 46]) := by
      cases hf : fine s with
      | false => exact .inl (by simp [code, hf])
      | true =>
        by_cases h0 : steps s = []
        · exact .inr (.inl ⟨by simp [code, hf], h0⟩)
        · refine .inr (.inr ⟨by simp [code, hf], List.length_pos_iff.2 h0, ?_⟩)
          unfold pok at hp
          rw [hf] at hp
          simpa [h0] using hp
    clear hp p1 p2 p3
    rcases hc with k1 | ⟨k1, hk⟩ | ⟨k1, hk, hz⟩
    · go_enter Tryd.func6, Tryd.ntmps6
      go_wp2_with (first
        | (go_at_call 7; refine HA.out.mono ?_; rintro _ w1 ⟨rfl, hb1⟩)
        | (go_at_call 15; refine (HP.out _ (HM.out _ (by assumption))).mono ?_; rintro _ w2 ⟨rfl, hb2⟩; have hB2 := bel_trans (by assumption) hb2; clear hb2)
        | (go_at_call 8; refine (HS.out _ _ hl (HM.out _ (by assumption))).mono ?_; rintro _ w3 ⟨v, rfl, hO, hb3⟩; obtain ⟨ao, c1, rfl, _, _, _⟩ := hO.slice; have hB3 := bel_trans (by assumption) hb3; clear hb3 hO)
        | go_in)
      go_ret
      exact ⟨rfl, by assumption⟩
    · go_enter Tryd.func6, Tryd.ntmps6
      go_wp2_with (first
        | (go_at_call 7; refine HA.out.mono ?_; rintro _ w1 ⟨rfl, hb1⟩)
        | (go_at_call 15; refine (HP.out _ (HM.out _ (by assumption))).mono ?_; rintro _ w2 ⟨rfl, hb2⟩; have hB2 := bel_trans (by assumption) hb2; clear hb2)
        | (go_at_call 8; refine (HS.out _ _ hl (HM.out _ (by assumption))).mono ?_; rintro _ w3 ⟨v, rfl, hO, hb3⟩; obtain ⟨ao, c1, rfl, _, _, _⟩ := hO.slice; have hB3 := bel_trans (by assumption) hb3; clear hb3 hO)
        | go_in)
      go_ret
      exact ⟨rfl, by assumption⟩
    · have hi : ((((steps s).length - 1 : Nat)) : Int) = ((steps s).length : Int) - 1 := by omega
      have hn := steps_len s
      go_enter Tryd.func6, Tryd.ntmps6
      go_wp2_with (first
        | (go_at_call 7; refine HA.out.mono ?_; rintro _ w1 ⟨rfl, hb1⟩)
        | (go_at_call 15; refine (HP.out _ (HM.out _ (by assumption))).mono ?_; rintro _ w2 ⟨rfl, hb2⟩; have hB2 := bel_trans (by assumption) hb2; clear hb2)
        | (go_at_call 8; refine (HS.out _ _ hl (HM.out _ (by assumption))).mono ?_; rintro _ w3 ⟨v, rfl, hO, hb3⟩; obtain ⟨g2, c1, rfl, _, _, hcl, hroom⟩ := own_end hO hk; rw [hz] at hcl; have hB3 := bel_trans (by assumption) hb3; clear hb3 hO)
        | go_in)
      all_goals
        go_ret
        exact ⟨rfl, by assumption⟩
  | true =>
    obtain ⟨hf, f2, s2, a2, v2, happ⟩ := together hp
    have p3 : pcode s = 0 := by simp [pcode, hp]
    have k1 : code s = 0 := by simp [code, hf]
    have k2 : code (pdir s) = 0 := by simp [code, f2]
    have hpl : (pdir s).length ≤ 140737488355328 := by have := fine_inr f2; omega
    have hn := steps_len s
    have hq := steps_len (pdir s)
    rw [p3] at HP
    have HV : Hid (∀ (x : T) W, Calls Tryd.prog 11 #[.string ⟨x.toArray⟩] W fun e w' => e = .returned (.bool (valid x)) ∧ W = w') := Lib.hid (fun x W => (valid_any x W).mono fun e w' h => ⟨h.1, h.2.symm⟩)
    generalize pdir s = Pd at HP f2 s2 a2 happ k2 hpl hq
    generalize pname s = Pn at HP v2 happ
    have HE : Hid (∀ (ao bo : Option Addr) (n m c1 c2 : Nat) (W : World), n = (steps Pd).length + 1 → m = (steps s).length → At W W.heap.size ao c1 (steps Pd ++ [Pn]) → At W W.heap.size bo c2 (steps s) → Calls Tryd.prog 10 #[.slice ao n c1, .slice bo m c2] W fun e w' => e = .returned (.bool true) ∧ Below W.heap.size W w') :=
      Lib.hid (fun ao bo n m c1 c2 W en em h1 h2 => by
        have c := same_any _ _ ao bo c1 c2 W h1 h2 (by simp; omega) (by omega)
        rw [List.length_append, List.length_cons, List.length_nil, Nat.zero_add] at c
        rw [en, em]
        exact c.mono fun e w' (h : _ ∧ _) => And.intro (h.1.trans (by rw [happ, decide_eq_true rfl])) h.2)
    have HS1 := Lib.hid (fun W (h : Mx W) => split_any s W hl h)
    have HS2 := Lib.hid (fun W (h : Mx W) => split_any Pd W hpl h)
    clear hp hf f2 s2 p3 happ HS
    go_enter Tryd.func6, Tryd.ntmps6
    go_wp2_with (first
      | (go_at_call 7; refine HA.out.mono ?_; rintro _ w1 ⟨rfl, hb1⟩)
      | (go_at_call 15; refine (HP.out _ (HM.out _ (by assumption))).mono ?_; rintro _ w2 ⟨rfl, hb2⟩; have hB2 := bel_trans (by assumption) hb2; clear hb2)
      | (go_at_call 11; refine (HV.out _ _).mono ?_; rintro _ _ ⟨rfl, rfl⟩)
      | (go_at_call 8; refine (HS1.out _ (HM.out _ (by assumption))).mono ?_; clear HS1; rintro _ w3 ⟨v3, rfl, hO3, hb3⟩; obtain ⟨ao, c1, rfl, hA1, _, _⟩ := hO3.slice; have hB3 := bel_trans (by assumption) hb3; clear hO3)
      | (go_at_call 8; refine (HS2.out _ (HM.out _ (by assumption))).mono ?_; rintro _ w4 ⟨v4, rfl, hO4, hb4⟩; obtain ⟨bo, c2, rfl, hA2, _, hz2⟩ := hO4.slice; have hB4 := bel_trans hB3 hb4; have hs4 := hb4.size; have hA1' := hA1.below hb4 (Nat.le_refl _); clear hO4)
      | (at_builtin; refine wpList_appsW (by rfl) (.tmp 70) (.tmp 71) rfl w4.heap.size w4.heap.size _ [] (steps Pd) rfl (own_empty w4) bo c2 rfl (hA2.below (bel_alloc w4 _) (Nat.le_refl _)) hz2 (by simp; omega) (by simp) ?_; intro v5 w5 hS5 hB5; rw [List.nil_append] at hS5; have hs5 := hB5.size)
      | (at_builtin; refine wpList_appW (by rfl) (.tmp 72) (.tmp 74) rfl w4.heap.size _ _ rfl (hS5.alloc _) Pn w5.heap.size 1 rfl (by simp) (by simp; omega) (by simp at hs5 ⊢; omega) ?_; intro v6 w6 hS6 hB6; obtain ⟨co, c3, rfl, hA3, _, _⟩ := hS6.slice; have hs6 := hB6.size)
      | (go_at_call 10; refine (HE.out co ao _ _ c3 c1 w6 (by simp) rfl hA3 (tog_at hA1' hs4 hB5 hB6)).mono ?_; rintro _ w7 ⟨rfl, hb7⟩; have hB7 := tog_bel hB4 hB5 hB6 hb7)
      | go_in)
    go_ret
    exact ⟨rfl, by assumption⟩
end Nm
end Go.Proofs.YthmcjjfhfkcheaaDoor
