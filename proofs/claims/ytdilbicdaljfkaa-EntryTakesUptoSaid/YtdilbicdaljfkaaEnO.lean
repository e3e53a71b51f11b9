/- Without, of the code. -/
import Derived.Test.YtdilbicdaljfkaaEnW
namespace Go.Proofs.Ytdilbicdaljfkaa
set_option maxRecDepth 20000
namespace En
open Go.RowKit Sha

theorem at_lt {l : List E} {n : T} (h : at' l n = true) : pos l n < l.length := by
  unfold at' at h
  by_cases hl : pos l n < l.length
  · exact hl
  · rw [List.getElem?_eq_none (by omega)] at h
    cases h

set_option maxHeartbeats 4000000 in
theorem without_any (l : List E) (x : T) (ao : Option Addr) (cap : Nat) (w : World) (h : LiesE w w.heap.size ao cap l) :
    Calls Try.prog 26 #[.slice ao l.length cap, .string ⟨x.toArray⟩] w fun e w' => ∃ v, e = .returned (.tuple #[v, .int .i64 (oE l x)]) ∧ OwnE w' w.heap.size v (oV l x) ∧ Below w.heap.size w w' := by
  have HR := Lib.hid (right_any l ao cap w h)
  have HL := Lib.hid (fun W2 (hb : Below w.heap.size w W2) => h.to hb hb.size)
  clear h
  by_cases h1 : rt l = true
  · have hasc : asc none l = true := by simp only [rt, Bool.and_eq_true] at h1; exact h1.2
    have HPL : Hid (∀ W1, Below w.heap.size w W1 → Calls Try.prog 35 #[.slice ao l.length cap, .string ⟨x.toArray⟩] W1 fun e w' => e = .returned (.tuple #[.int .i64 (pos l x), .bool (at' l x)]) ∧ Below W1.heap.size W1 w') := Lib.hid fun W1 hb => place_any l x ao cap W1 (HL.out W1 hb) h1
    have hat := has_at hasc x
    rw [hat] at HPL
    have hle := rt_len h1
    rw [h1] at HR
    by_cases h4 : has l x = true
    · rw [h4] at HPL
      have hpl := at_lt (hat.trans h4)
      have HC0 : Hid (oE l x = 0 ∧ oV l x = ([l.take (pos l x), l.drop (pos l x + 1)] : List (List E)).flatten) := Lib.hid (by
        have e : oE l x = 0 := by simp [oE, h1, h4]
        refine ⟨e, ?_⟩
        unfold oV
        rw [if_pos e, out_is hasc x (hat.trans h4)]
        simp)
      have HS24 : Hid (∀ y ∈ ([l.take (pos l x), l.drop (pos l x + 1)] : List (List E)).flatten, y.1.length ≤ 140737488355328) := Lib.hid fun y hy => by
        have hv : y ∈ l := by
          simp only [List.flatten_cons, List.flatten_nil, List.append_nil, List.mem_append] at hy
          rcases hy with hy | hy
          · exact List.mem_of_mem_take hy
          · exact List.mem_of_mem_drop hy
        have := valid_len (rt_mem h1 y hv).1
        omega
      have HLEN : Hid (([l.take (pos l x), l.drop (pos l x + 1)] : List (List E)).flatten.length ≤ 1000) := Lib.hid (by simp; omega)
      clear h1 h4 hasc hat
      generalize oE l x = c at HC0 ⊢
      generalize oV l x = V at HC0 ⊢
      generalize pos l x = p at hpl HPL HC0 HS24 HLEN
      obtain ⟨m, hm⟩ : ∃ m, m = p + 1 := ⟨_, rfl⟩
      rw [← hm] at HC0 HS24 HLEN
      have hpm : p ≤ m := by omega
      have hml : m ≤ l.length := by omega
      have hwp : IntKind.i64.wrap ((p : Int) + 1) = (m : Int) := by rw [IntKind.wrap_i64]; omega
      clear hm
      by_cases hcp : cap = m
      · subst hcp
        go_enter Try.func26, Try.ntmps26
        go_wp2_with (first
          | (go_at_call 11; refine HR.out.mono ?_; rintro _ W1 ⟨rfl, hb1⟩)
          | (go_at_call 35; refine (HPL.out _ hb1).mono ?_; rintro _ W2 ⟨rfl, hb2⟩; have hB2 := hb1.trans (hb2.mono hb1.size); have hl2 := HL.out W2 hB2; have hpc : cap ≤ cap := Nat.le_trans hml hl2.room; have hpc1 : (p : Int) ≤ (cap : Int) := (by omega); have hpc2 : (cap : Int) ≤ (l.length : Int) := (by omega); have hpc3 : (cap : Int) ≤ (cap : Int) := (by omega); have hws := hB2.size; clear hb2 hb1)
          | go_in)
        have HJ : Hid (Calls Try.prog 36 #[.slice (some ⟨W2.heap.size, 0, none⟩) 2 2] (W2.alloc (.cells #[.slice ao p cap, .slice (ao) (l.length - cap) (0)] 22)).drew fun e w' => ∃ v, e = .returned v ∧ OwnE w' w.heap.size v V ∧ Below w.heap.size w w') := Lib.hid (by
          have hpt := (pts_two (w := W2) (g := W2.heap.size) (l1 := l.take p) (l2 := l.drop cap) (n1 := p) (n2 := l.length - cap) (a2 := ao) (c2 := 0) rfl (by simp; omega) (by simp) (lies_take hl2 (by omega)) (show LiesE W2 W2.heap.size ao 0 (l.drop cap) by have := lies_drop0 hl2 hml rfl; rwa [Nat.sub_self] at this)).drew
          have hj := joined_any [l.take p, l.drop cap] _ 2 _ hpt HLEN.out (by simp) HS24.out
          rw [← HC0.out.2] at hj
          refine hj.mono ?_
          rintro _ w6 ⟨v, rfl, hO, hb6⟩
          have hs6 : (W2.alloc (.cells #[.slice ao p cap, .slice (ao) (l.length - cap) (0)] 22)).drew.heap.size = W2.heap.size + 1 := by simp
          have hbB := below_drewN ((Below.refl W2.heap.size W2).alloc (Nat.le_refl _) (.cells #[.slice ao p cap, .slice (ao) (l.length - cap) (0)] 22)) 1
          have hbC := hbB.trans (hb6.mono (by omega))
          exact ⟨v, rfl, hO.less (by omega), hB2.trans (hbC.mono (by omega))⟩)
        clear hl2 hB2 HS24 HLEN HL
        go_region_held3 (fun _ => True)
          (first
            | trivial)
          (first
            | ((go_at_call 36; refine HJ.out.mono ?_; rintro _ w6 ⟨v, rfl, hO, hb6⟩)))
        go_wp2
        refine bodyPost_ret (results_2 rfl rfl rfl) rfl ?_
        rw [HC0.out.1]
        exact ⟨_, rfl, hO, hb6⟩
      · go_enter Try.func26, Try.ntmps26
        go_wp2_with (first
          | (go_at_call 11; refine HR.out.mono ?_; rintro _ W1 ⟨rfl, hb1⟩)
          | (go_at_call 35; refine (HPL.out _ hb1).mono ?_; rintro _ W2 ⟨rfl, hb2⟩; have hB2 := hb1.trans (hb2.mono hb1.size); have hl2 := HL.out W2 hB2; have hpc : m ≤ cap := Nat.le_trans hml hl2.room; have hpc1 : (p : Int) ≤ (cap : Int) := (by omega); have hpc2 : (m : Int) ≤ (l.length : Int) := (by omega); have hpc3 : (m : Int) ≤ (cap : Int) := (by omega); have hws := hB2.size; clear hb2 hb1)
          | go_in)
        have HJ : Hid (Calls Try.prog 36 #[.slice (some ⟨W2.heap.size, 0, none⟩) 2 2] (W2.alloc (.cells #[.slice ao p cap, .slice (ao.map fun x => x.add (m * 2)) (l.length - m) (cap - m)] 22)).drew fun e w' => ∃ v, e = .returned v ∧ OwnE w' w.heap.size v V ∧ Below w.heap.size w w') := Lib.hid (by
          have hpt := (pts_two (w := W2) (g := W2.heap.size) (l1 := l.take p) (l2 := l.drop m) (n1 := p) (n2 := l.length - m) (a2 := ao.map fun x => x.add (m * 2)) (c2 := cap - m) rfl (by simp; omega) (by simp) (lies_take hl2 (by omega)) (lies_drop hl2 hcp)).drew
          have hj := joined_any [l.take p, l.drop m] _ 2 _ hpt HLEN.out (by simp) HS24.out
          rw [← HC0.out.2] at hj
          refine hj.mono ?_
          rintro _ w6 ⟨v, rfl, hO, hb6⟩
          have hs6 : (W2.alloc (.cells #[.slice ao p cap, .slice (ao.map fun x => x.add (m * 2)) (l.length - m) (cap - m)] 22)).drew.heap.size = W2.heap.size + 1 := by simp
          have hbB := below_drewN ((Below.refl W2.heap.size W2).alloc (Nat.le_refl _) (.cells #[.slice ao p cap, .slice (ao.map fun x => x.add (m * 2)) (l.length - m) (cap - m)] 22)) 1
          have hbC := hbB.trans (hb6.mono (by omega))
          exact ⟨v, rfl, hO.less (by omega), hB2.trans (hbC.mono (by omega))⟩)
        clear hl2 hB2 HS24 HLEN HL
        go_region_held3 (fun _ => True)
          (first
            | trivial)
          (first
            | ((go_at_call 36; refine HJ.out.mono ?_; rintro _ w6 ⟨v, rfl, hO, hb6⟩)))
        go_wp2
        refine bodyPost_ret (results_2 rfl rfl rfl) rfl ?_
        rw [HC0.out.1]
        exact ⟨_, rfl, hO, hb6⟩
    · have h4' : has l x = false := by simpa using h4
      rw [h4'] at HPL
      have e1 : oE l x = 4 := by simp [oE, h1, h4']
      have e2 : oV l x = [] := by simp [oV, e1]
      rw [e1, e2]
      clear h1 h4 h4' e1 e2 hasc hat
      go_enter Try.func26, Try.ntmps26
      go_wp2_with (first
        | (go_at_call 11; refine HR.out.mono ?_; rintro _ W1 ⟨rfl, hb1⟩)
        | (go_at_call 35; refine (HPL.out _ hb1).mono ?_; rintro _ W2 ⟨rfl, hb2⟩; have hB2 := hb1.trans (hb2.mono hb1.size))
        | go_in)
      refine bodyPost_ret (results_2 rfl rfl rfl) rfl ?_
      exact ⟨_, rfl, OwnE.nil _ _, hB2⟩
  · have h1' : rt l = false := by simpa using h1
    have e1 : oE l x = 1 := by simp [oE, h1']
    have e2 : oV l x = [] := by simp [oV, e1]
    rw [e1, e2]
    rw [h1'] at HR
    go_enter Try.func26, Try.ntmps26
    go_wp2_with (go_at_call 11; refine HR.out.mono ?_; rintro _ W1 ⟨rfl, hb1⟩)
    refine bodyPost_ret (results_2 rfl rfl rfl) rfl ?_
    exact ⟨_, rfl, OwnE.nil _ _, hb1⟩
end En
end Go.Proofs.Ytdilbicdaljfkaa
