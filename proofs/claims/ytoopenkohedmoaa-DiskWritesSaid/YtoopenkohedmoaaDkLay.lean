/- disk: the reference's lay. -/
import Derived.Test.YtoopenkohedmoaaDkSettle2
import Derived.Deep.RegionHeld3
namespace Go.Proofs.Ytoopenkohedmoaa
namespace Dk
open Go.RowKit

theorem owns_form {w : World} {B n : Nat} {S : Nat → Sec} {v : Value} (h : w.ownsRow B 67 130 v n (flat (fun i => secV (S i)) n)) (hn : 1 ≤ n) : ∃ b sc, v = .slice (some ⟨b, 0, none⟩) n sc ∧ B ≤ b ∧ b < w.heap.size ∧ n ≤ sc ∧ Rw w b n S := by
  have hlt := h.lt
  have h2 := h.2
  rcases h2 with ⟨_, h0⟩ | ⟨b, cap, cur, hv, hb, hc, hnc, _⟩
  · omega
  · subst hv
    obtain ⟨b', off, e, _, _, hr⟩ := (lay_own (g := w.heap.size) (fun i _ => secV_length _) h (.inr (Nat.le_refl _))).rows.resolve_left (by omega)
    injection e with e
    injection e with e1 e2
    subst e1 e2
    exact ⟨b, cap, rfl, hb, (hlt b rfl).2, hnc, fun i hi => by have := hr i hi; rwa [Nat.zero_add] at this, fun j => frozen_of_row w b j _ _ hc⟩

/-- append([]Sector{}, s...) -/
theorem fresh_sec {w : World} {ops : Array Oper} {rest : List Oper} {o : Oper} {a : Act} {Q : Exit → Act → World → Prop} (hgd : o.guard = none) (s x : Operand)
    (ho : o.op = .call { callee := .builtin .append, args := #[s, x], argTypes := #[22, 22] }) (g : Nat) (ao : Option Addr) (n cap : Nat) (S : Nat → Sec)
    (hs : a.eval s = .slice (some ⟨w.heap.size, 0, none⟩) 0 0) (hx : a.eval x = .slice ao n cap) (hl : Lay w w.heap.size g ao n cap 130 (fun i => secV (S i))) (hn : n * 130 ≤ 140737488355328)
    (h : ∀ v' w', w'.ownsRow w.heap.size 67 130 v' n (flat (fun i => secV (S i)) n) → Below w.heap.size w w' → wpList Try.prog ops Q rest (a.put o.dst v') w') : wpList Try.prog ops Q (o :: rest) a (w.alloc (.cells #[] 67)) := by
  obtain ⟨i0, hi, hz0, hz1, hz2⟩ := info_parts info_sec
  refine append_lay hgd s x 22 67 i0 _ 130 130 ho slice_sec hi hz0 hz1 hz2 (by rw [show (Value.agg (secV sec0).toArray).cells = (secV sec0).toArray from rfl, List.size_toArray, secV_length]) (by omega) w.heap.size _ [] 0 hs (World.ownsRow_lit w #[] 0 (Nat.le_refl _) (by decide) rfl) w.heap.size g ao n cap (fun i => secV (S i)) hx (hl.keep fun b hb _ => Below.heap_alloc _ _ _ hb) (fun i _ => secV_length _) (fun i _ => secV_one _) (maxLen_ge (by omega)) (by omega) (by simp) ?_
  intro v' w' hown hg
  refine h v' w' (by simpa using hown) (((Below.refl _ _).alloc (Nat.le_refl _) _).grown hg (by simp) ?_)
  intro k hk
  injection hk with hk
  subst hk
  exact Nat.le_refl _

theorem Rd.heap {B g b q qo n m : Nat} {v0 v1 v2 v3 : Value} {S : Nat → Sec} {C : Nat → Wr} {w wr wr' : World} (h : Rd B g b q qo n m v0 v1 v2 v3 S C w wr) (hh : ∀ k : Nat, wr'.heap[k]? = wr.heap[k]?) (hs : wr'.heap.size = wr.heap.size) (ho : wr'.os = wr.os) (ht : wr'.tape = wr.tape) (hp : wr'.output = wr.output) : Rd B g b q qo n m v0 v1 v2 v3 S C w wr' :=
  ⟨h.bx.block (hh g), h.rows.block (hh b), fun i hi j v hv => (World.cell?_of_block (w := wr) (hh q)).trans (h.cache i hi j v hv), h.near.trans ⟨ho, ht, hp, by rw [hs]; exact Nat.le_refl _, fun k _ _ => hh k⟩⟩

set_option maxRecDepth 100000 in
set_option maxHeartbeats 600000 in
theorem lay_any (g : Nat) (sa ca : Option Addr) (n sc m cc : Nat) (S : Nat → Sec) (C : Nat → Wr) (f : Int) (d : Bool) (all : Bool) (ka : Option Addr) (kn kc : Nat) (kf : Nat → Bool) (w : World) (h : Has w g sa ca n sc m cc S C f d) (hn : 1 ≤ n) (hC : inAll n C m = true)
    (hkp : Keeps w w.heap.size g ka kn kf) (hkn : kn ≤ 140737488355328) :
    Calls Try.prog 38 #[.pointer (some ⟨g, 0, none⟩), .bool all, .slice ka kn kc] w fun e w' => (∃ v, e = .returned v) ∧ w.grownBy w' (some g) ∧ ∃ sa' sc', Has w' g sa' none n sc' 0 0 (stS S C (fun i => all || keepB kn kf i) m) C f d := by
  have c0 := h.bx.c0
  have c1 := h.bx.c1
  have f0 := h.bx.fr 0
  have hg := h.bx.lt
  have nb := h.nb
  have mb := h.mb
  have HH := Lib.hid h
  have HK := Lib.hid hkp
  have HC := Lib.hid hC
  clear h hkp hC
  go_enter Try.func38, Try.ntmps38
  go_wp2_with (at_builtin; refine fresh_sec rfl (.tmp 8) (.tmp 12) rfl g sa n sc S rfl rfl HH.out.ss nb ?_; intro v1 w1 hs1 hb1; obtain ⟨b, sc1, rfl, hBb, hbl, hsc1, hRw⟩ := owns_form hs1 hn; have k0 := (hb1.cell (p := ⟨g, 0, none⟩) hg).trans c0; have kf0 := (hb1.frozen (p := ⟨g, 0, none⟩) hg).trans f0)
  generalize hW : w1.setCell ⟨g, 0, none⟩ (.slice (some ⟨b, 0, none⟩) n sc1) = W
  have hgb : g ≠ b := by omega
  have hnW : Near w.heap.size g w W := by rw [← hW]; exact (Near.of_below hb1 (Nat.le_refl _)).put _ _
  have hoW : w.grownBy W (some g) := by rw [← hW]; exact only_trans (only_below hb1) (only_put _ _ _ _)
  have hbx : Bx W g (.slice (some ⟨b, 0, none⟩) n sc1) (.slice ca m cc) (.int .i64 f) (.bool d) := by rw [← hW]; exact (HH.out.bx.below hb1).s0 _
  have hRW : Rw W b n S := by rw [← hW]; exact hRw.block (Below.heap_setCell _ _ _ _ (Ne.symm hgb))
  have hbW : b < W.heap.size := by rw [← hW]; simpa using hbl
  obtain ⟨q, qo, hq⟩ : ∃ q qo, m = 0 ∨ (ca = some ⟨q, qo, none⟩ ∧ q ≠ b ∧ q ≠ g ∧ ∀ i, i < m → W.rangeAt q (qo + i * 129) (wrV (C i))) := by
    rcases HH.out.cs.rows with h0 | ⟨q, qo, e, hq1, hq2, hr⟩
    · exact ⟨0, 0, .inl h0⟩
    · exact ⟨q, qo, .inr ⟨e, by omega, hq2, fun i hi j v hv => (World.cell?_of_block (w := w) (hnW.block q hq1 hq2)).trans (hr i hi j v hv)⟩⟩
  have hRd : Rd w.heap.size g b q qo n m (.slice (some ⟨b, 0, none⟩) n sc1) (.slice ca m cc) (.int .i64 f) (.bool d) S C w W :=
    ⟨hbx, hRW, fun i hi => by
      rcases hq with h0 | ⟨_, _, _, hr⟩
      · omega
      · exact hr i hi, hnW⟩
  clear hW hs1 hb1 hRw k0 kf0 hbx hRW c0 c1 f0 hbl
  have HRD := Lib.hid hRd
  have HQ := Lib.hid hq
  have HOW := Lib.hid hoW
  clear hRd hq hoW hnW
  have hwW : w.heap.size ≤ W.heap.size := HRD.out.near.size
  have hm47 : m ≤ 140737488355328 := by omega
  have hn47 : n ≤ 140737488355328 := by omega
  generalize hkp : (fun i => all || keepB kn kf i) = kp
  have HKP := Lib.hid hkp
  clear hkp
  go_loopw [6] (fun i wr => ∃ j : Nat, j ≤ m ∧ i = .int .i64 j ∧ Hid (Rd w.heap.size g b q qo n m (.slice (some ⟨b, 0, none⟩) n sc1) (.slice ca m cc) (.int .i64 f) (.bool d) (stS S C kp j) C w wr)) (fun i _ => m - (intOf i).toNat)
  case atStart => exact ⟨0, by omega, rfl, HRD⟩
  case round =>
    obtain ⟨j, hj, rfl, hR⟩ := hrel
    have c0 := hR.out.bx.c0
    have c1 := hR.out.bx.c1
    by_cases hlt : j < m
    · obtain ⟨rfl, hqb, hqg, _⟩ := HQ.out.resolve_left (by omega)
      obtain ⟨hp0, hp1⟩ := hasB_nat (inAll_at hlt HC.out)
      have hj0 : (0 : Int) ≤ (j : Int) := by omega
      have hjm : (j : Int) < (m : Int) := by omega
      have hKr := HK.out.near hR.out.near
      have hcase : (all = true ∨ (all = false ∧ j < kn ∧ kf j = true)) ∨ ((all = false ∧ j < kn ∧ kf j = false) ∨ (all = false ∧ kn ≤ j)) := by
        cases all with
        | true => exact .inl (.inl rfl)
        | false =>
          by_cases h1 : j < kn
          · cases h2 : kf j with
            | true => exact .inl (.inr ⟨rfl, h1, rfl⟩)
            | false => exact .inr (.inl ⟨rfl, h1, rfl⟩)
          · exact .inr (.inr ⟨rfl, by omega⟩)
      rcases hcase with hk | hk
      · have hkj : kp j = true := by
          rw [← HKP.out]
          rcases hk with rfl | ⟨rfl, h1, h2⟩
          · rfl
          · show (false || keepB kn kf j) = true
            unfold keepB
            rw [decide_eq_true h1, h2]
            rfl
        obtain ⟨p, hp⟩ : ∃ p : Nat, (C j).place = p := ⟨(C j).place.toNat, by omega⟩
        have cA : wr.cell? ⟨q, qo + j * 129, none⟩ = some (.int .i64 p) := by rw [← hp]; exact hR.out.cache j hlt 0 _ (wrV_place _)
        rw [hp] at hp0 hp1
        have hpn : p < n := by omega
        have hs : stS S C kp (j + 1) = upd (stS S C kp j) p ⟨(C j).data, false, (stS S C kp j p).noWrite⟩ := by rw [stS, if_pos hkj, hp, Int.toNat_natCast]
        have hS := Lib.hid hs
        clear hs
        have hdat := wr_range (C j) (hR.out.cache j hlt)
        have hth : wr.there b (p * 130) 128 := by
          have := hR.out.rows.there hpn (o := 0) (k := 128) (by omega)
          rwa [Nat.add_zero] at this
        have hcell2 : ∃ ko kq, ((all = true) ∨ (all = false ∧ (j : Int) < (kn : Int) ∧ ka = some ⟨kq, ko, none⟩ ∧ wr.cell? ⟨kq, ko + j, none⟩ = some (.bool true))) := by
          rcases hk with h | ⟨h, h1, h2⟩
          · exact ⟨0, 0, .inl h⟩
          · obtain ⟨kq, ko, e, _, _, hc⟩ := hKr.resolve_left (by omega)
            exact ⟨ko, kq, .inr ⟨h, by omega, e, by rw [hc j h1, h2]⟩⟩
        clear hk hkj hKr
        obtain ⟨ko, kq, hcell2⟩ := hcell2
        have hbl1 := bl_one (C j).data
        have hbl2 := size_bl (C j).data
        have hbl3 := bl_length (C j).data
        generalize hD : (C j).data = D at hdat hS hbl1 hbl2 hbl3
        have und := und29
        generalize hL : bl D = L at hdat hbl1 hbl2 hbl3
        have HL := Lib.hid hL
        clear hL
        rcases hcell2 with rfl | ⟨rfl, hjk, rfl, hkv⟩
        all_goals
          go_wp2_with fail
          go_region_held3 (fun w' => w'.cell? ⟨g, 0, none⟩ = some (.slice (some ⟨b, 0, none⟩) n sc1) ∧ w'.cell? ⟨g, 1, none⟩ = some (.slice (some ⟨q, qo, none⟩) m cc) ∧ w'.cell? ⟨q, qo + j * 129, none⟩ = some (.int .i64 p) ∧ w'.rangeAt q (qo + j * 129 + 1) L ∧ w'.there b (p * 130) 128)
            (first
              | go_keep_ranges
              | go_keep
              | exact ⟨(World.cell?_setCells_out b _ _ _ _ (fun h _ => absurd h hgb)).trans c0, (World.cell?_setCells_out b _ _ _ _ (fun h _ => absurd h hgb)).trans c1, (World.cell?_setCells_out b _ _ _ _ (fun h _ => absurd h hqb)).trans cA, World.rangeAt_setCells_apart (w := wr.drew) hdat _ _ _ (.inl hqb), World.there_setCells (w := wr.drew) hth _ _ _⟩)
            (fail)
          have hR1 := hR.out.below (wr' := wr.drew) ⟨rfl, rfl, rfl, Nat.le_refl _, fun _ _ => rfl⟩ (by omega) (Nat.le_refl _)
          have h128 : (wr.drew.setCells b (p * 130) L).cell? ⟨b, p * 130 + 128, none⟩ = some (.bool (stS S C kp j p).noRead) := by
            rw [World.cell?_setCells_out b _ _ wr.drew _ (fun _ _ => .inr (by rw [hbl3]; exact Nat.le_refl _))]
            exact hR1.rows.rows p hpn 128 _ (secV_read _)
          have f128 : (wr.drew.setCells b (p * 130) L).frozen? ⟨b, p * 130 + 128, none⟩ = false := by
            rw [World.frozen?_setCells]
            exact hR1.rows.free _
          have e0 := (World.cell?_setCells_out b L (p * 130) wr.drew ⟨g, 0, none⟩ (fun h _ => absurd h hgb)).trans c0
          have e1 := (World.cell?_setCells_out b L (p * 130) wr.drew ⟨g, 1, none⟩ (fun h _ => absurd h hgb)).trans c1
          have eA := (World.cell?_setCells_out b L (p * 130) wr.drew ⟨q, qo + j * 129, none⟩ (fun h _ => absurd h hqb)).trans cA
          have hR2 : Hid (∀ W5 W6, W5 = wr.drew.setCells b (p * 130) L → (∀ k, W6.heap[k]? = (W5.setCell ⟨b, p * 130 + 128, none⟩ (.bool false)).heap[k]?) → W6.heap.size = W5.heap.size → W6.os = W5.os → W6.tape = W5.tape → W6.output = W5.output → Rd w.heap.size g b q qo n m (.slice (some ⟨b, 0, none⟩) n sc1) (.slice (some ⟨q, qo, none⟩) m cc) (.int .i64 f) (.bool d) (stS S C kp (j + 1)) C w W6) := Lib.hid (by
            rintro W5 W6 rfl h6 hs6 ho6 ht6 hp6
            have h1 := hR1.write hpn D hgb hqb hBb
            rw [← hS.out, HL.out] at h1
            exact h1.heap h6 (by rw [hs6]; simp) ho6 ht6 hp6)
          clear hR1 hdat hth c0 c1 cA
          generalize hW5 : wr.drew.setCells b (p * 130) L = W5 at h128 f128 e0 e1 eA hR2 ⊢
          have hR3 := Lib.hid (fun W6 => hR2.out W5 W6 rfl)
          clear hW5 hR2
          have e0' : (W5.setCell ⟨b, p * 130 + 128, none⟩ (.bool false)).drew.cell? ⟨g, 0, none⟩ = some (.slice (some ⟨b, 0, none⟩) n sc1) := (World.cell?_setCell_other W5 ⟨b, p * 130 + 128, none⟩ ⟨g, 0, none⟩ (.bool false) (by intro h; injection h with h; exact hgb h.symm)).trans e0
          have e1' : (W5.setCell ⟨b, p * 130 + 128, none⟩ (.bool false)).drew.cell? ⟨g, 1, none⟩ = some (.slice (some ⟨q, qo, none⟩) m cc) := (World.cell?_setCell_other W5 ⟨b, p * 130 + 128, none⟩ ⟨g, 1, none⟩ (.bool false) (by intro h; injection h with h; exact hgb h.symm)).trans e1
          have eA' : (W5.setCell ⟨b, p * 130 + 128, none⟩ (.bool false)).drew.cell? ⟨q, qo + j * 129, none⟩ = some (.int .i64 p) := (World.cell?_setCell_other W5 ⟨b, p * 130 + 128, none⟩ ⟨q, qo + j * 129, none⟩ (.bool false) (by intro h; injection h with h; exact hqb h.symm)).trans eA
          have HE := Lib.hid (And.intro e0' (And.intro e1' eA'))
          clear e0' e1' eA'
          go_wp2_with fail
          go_region_held3 (fun w' => w'.cell? ⟨g, 0, none⟩ = some (.slice (some ⟨b, 0, none⟩) n sc1) ∧ w'.cell? ⟨g, 1, none⟩ = some (.slice (some ⟨q, qo, none⟩) m cc) ∧ w'.cell? ⟨q, qo + j * 129, none⟩ = some (.int .i64 p))
            (first
              | exact HE.out
              | go_keep)
            (fail)
          go_wp2_with fail
          go_roundw
          case rel => exact ⟨j + 1, by omega, by go_num, Lib.hid (hR3.out _ (fun _ => rfl) (by simp) rfl rfl rfl)⟩
          case measure => simp [intOf]; omega
      · have hkj : kp j = false := by
          rw [← HKP.out]
          rcases hk with ⟨rfl, h1, h2⟩ | ⟨rfl, h1⟩
          · show (false || keepB kn kf j) = false
            unfold keepB
            rw [decide_eq_true h1, h2]
            rfl
          · show (false || keepB kn kf j) = false
            unfold keepB
            rw [decide_eq_false (by omega)]
            rfl
        have hs : stS S C kp (j + 1) = stS S C kp j := by rw [stS, if_neg (by rw [hkj]; simp)]
        have hR2 : Hid (Rd w.heap.size g b q qo n m (.slice (some ⟨b, 0, none⟩) n sc1) (.slice (some ⟨q, qo, none⟩) m cc) (.int .i64 f) (.bool d) (stS S C kp (j + 1)) C w wr) := Lib.hid (by rw [hs]; exact hR.out)
        clear hs hkj
        have hcell2 : ∃ ko kq, ((all = false ∧ (kn : Int) ≤ (j : Int)) ∨ (all = false ∧ (j : Int) < (kn : Int) ∧ ka = some ⟨kq, ko, none⟩ ∧ wr.cell? ⟨kq, ko + j, none⟩ = some (.bool false))) := by
          rcases hk with ⟨h, h1, h2⟩ | ⟨h, h1⟩
          · obtain ⟨kq, ko, e, _, _, hc⟩ := hKr.resolve_left (by omega)
            exact ⟨ko, kq, .inr ⟨h, by omega, e, by rw [hc j h1, h2]⟩⟩
          · exact ⟨0, 0, .inl ⟨h, by omega⟩⟩
        obtain ⟨ko, kq, hcell2⟩ := hcell2
        clear hk hKr
        rcases hcell2 with ⟨rfl, hjk⟩ | ⟨rfl, hjk, rfl, hkv⟩
        all_goals
          go_wp2_with fail
          go_roundw
          case rel => exact ⟨j + 1, by omega, by go_num, hR2⟩
          case measure => simp [intOf]; omega
    · obtain rfl : j = m := by omega
      have kf1 := hR.out.bx.fr 1
      go_wp2_with fail
      go_end0
      refine ⟨⟨_, rfl⟩, Near.only (World.grownBy.refl _ _) (hR.out.near.put _ _), some ⟨b, 0, none⟩, sc1, hR.out.bx.s1 _, ?_, Lay.empty _ _ _ 0 _ _, nb, by omega⟩
      have hlt' := hR.out.rows.lt (by omega)
      refine ⟨hsc1, by simp, .inr ⟨b, 0, rfl, by simpa using hlt', Ne.symm hgb, fun i hi => ?_⟩⟩
      rw [Nat.zero_add, HKP.out]
      exact range_other (hR.out.rows.rows i hi) hgb _ _

end Dk
end Go.Proofs.Ytoopenkohedmoaa
