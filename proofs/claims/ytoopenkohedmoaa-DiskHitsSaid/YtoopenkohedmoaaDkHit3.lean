/- disk: the reference's Hit, walked. -/
import Derived.Test.YtoopenkohedmoaaDkHit2
namespace Go.Proofs.Ytoopenkohedmoaa
namespace Dk
open Go.RowKit

theorem hitsB_low {k p : Int} (h : k < 1) : hitsB k p = false := by
  unfold hitsB
  rw [if_neg (by omega), decide_eq_false (by omega), decide_eq_false (by omega)]; rfl
theorem hitsB_high {k p : Int} (h : 3 < k) : hitsB k p = false := by
  unfold hitsB
  rw [if_neg (by omega), decide_eq_false (by omega), decide_eq_false (by omega)]; rfl
theorem hitOk_false {n m : Nat} {C : Nat → Wr} {a k p : Int} (h : hitOk n m C a k p = false) (S : Nat → Sec) (y : Int) : hitE n m C a k p = 1 ∧ hitS n m S C a k p y = S := by
  unfold hitE hitS
  rw [h]
  exact ⟨rfl, rfl⟩
theorem hitOk_true {n m : Nat} {C : Nat → Wr} {a k p : Int} (h : hitOk n m C a k p = true) (S : Nat → Sec) (y : Int) : hitE n m C a k p = 0 ∧ hitS n m S C a k p y = upd S a.toNat (hitSec (S a.toNat) k p y) := by
  unfold hitE hitS
  rw [h]
  exact ⟨rfl, rfl⟩

set_option maxRecDepth 100000 in
set_option maxHeartbeats 2000000 in
theorem refhit_any (g : Nat) (sa ca : Option Addr) (n sc m cc : Nat) (S : Nat → Sec) (C : Nat → Wr) (f : Int) (d : Bool) (a k p y : Int) (w : World) (h : Has w g sa ca n sc m cc S C f d) :
    Calls Try.prog 27 #[.pointer (some ⟨g, 0, none⟩), .int .i64 a, .int .i64 k, .int .i64 p, .int .u8 y] w (Turns w g (hitE n m C a k p) n m (hitS n m S C a k p y) C f d) := by
  have hF := h.refFormed
  have HH := Lib.hid h
  have d0 := h.bx.c0
  have d1 := h.bx.c1
  have d2 := h.bx.c2
  have d3 := h.bx.c3
  clear h
  unfold Turns
  cases hf : formedB n m C with
  | false =>
    have H12 := Lib.hid (hitOk_false (n := n) (m := m) (C := C) (a := a) (k := k) (p := p) (by unfold hitOk; rw [hf]; rfl) S y)
    rw [hf] at hF
    clear hf
    go_enter Try.func27, Try.ntmps27
    go_wp2_with fail
    refine hF.mono ?_
    rintro _ w1 ⟨rfl, hb⟩
    dsimp only
    go_wp2_with fail
    go_ret
    exact ⟨by rw [H12.out.1]; rfl, only_below hb, by rw [H12.out.2]; exact ⟨sa, sc, ca, cc, HH.out.below hb⟩⟩
  | true =>
    rw [hf] at hF
    go_enter Try.func27, Try.ntmps27
    go_wp2_with fail
    refine hF.mono ?_
    rintro _ w1 ⟨rfl, hb1⟩
    have hH1 := HH.out.below hb1
    clear d0 d1 d2 d3 hF
    have d0 := hH1.bx.c0
    have d1 := hH1.bx.c1
    have d2 := hH1.bx.c2
    have d3 := hH1.bx.c3
    have h47 := hH1.n47
    dsimp only
    go_wp2_with fail
    refine (there_any sa ca n sc m cc f a d w1 h47.1).mono ?_
    rintro _ w2 ⟨rfl, hb2⟩
    have hB2 := hb1.trans (hb2.mono hb1.size)
    clear d0 d1 d2 d3 hH1 hb2
    cases hha : hasB n a with
    | false =>
      have H12 := Lib.hid (hitOk_false (n := n) (m := m) (C := C) (a := a) (k := k) (p := p) (by unfold hitOk; rw [hf, hha]; rfl) S y)
      dsimp only
      go_wp2_with fail
      go_ret
      exact ⟨by rw [H12.out.1]; rfl, only_below hB2, by rw [H12.out.2]; exact ⟨sa, sc, ca, cc, HH.out.below hB2⟩⟩
    | true =>
      cases hhi : hitsB k p with
      | false =>
        have H12 := Lib.hid (hitOk_false (n := n) (m := m) (C := C) (a := a) (k := k) (p := p) (by unfold hitOk; rw [hf, hha, hhi]; rfl) S y)
        by_cases kl : k < 1
        · dsimp only
          go_wp2_with fail
          go_ret
          exact ⟨by rw [H12.out.1]; rfl, only_below hB2, by rw [H12.out.2]; exact ⟨sa, sc, ca, cc, HH.out.below hB2⟩⟩
        · have kl' : (1 : Int) ≤ k := by omega
          by_cases kh : 3 < k
          · dsimp only
            go_wp2_with fail
            go_ret
            exact ⟨by rw [H12.out.1]; rfl, only_below hB2, by rw [H12.out.2]; exact ⟨sa, sc, ca, cc, HH.out.below hB2⟩⟩
          · obtain rfl : k = 1 := by
              unfold hitsB at hhi
              split at hhi
              · assumption
              · simp only [Bool.or_eq_false_iff, decide_eq_false_iff_not] at hhi
                omega
            by_cases pl : p < 0
            · dsimp only
              go_wp2_with fail
              go_ret
              exact ⟨by rw [H12.out.1]; rfl, only_below hB2, by rw [H12.out.2]; exact ⟨sa, sc, ca, cc, HH.out.below hB2⟩⟩
            · have pl' : (0 : Int) ≤ p := by omega
              have ph : (127 : Int) < p := by
                unfold hitsB at hhi
                simp only [if_true, decide_eq_true pl', Bool.true_and, decide_eq_false_iff_not] at hhi
                omega
              dsimp only
              go_wp2_with fail
              go_ret
              exact ⟨by rw [H12.out.1]; rfl, only_below hB2, by rw [H12.out.2]; exact ⟨sa, sc, ca, cc, HH.out.below hB2⟩⟩
      | true =>
        have H12 := Lib.hid (hitOk_true (n := n) (m := m) (C := C) (a := a) (k := k) (p := p) (by unfold hitOk; rw [hf, hha, hhi]; rfl) S y)
        obtain ⟨i, rfl⟩ : ∃ i : Nat, a = i := ⟨a.toNat, by have := hasB_nat hha; omega⟩
        have hin : i < n := by have := hasB_nat hha; omega
        rw [Int.toNat_natCast] at H12
        have hH2 := HH.out.below hB2
        have nb := hH2.nb
        have mb := hH2.mb
        have hg2 := hH2.bx.lt
        have c0 := hH2.bx.c0
        have f0 := hH2.bx.fr 0
        have hi0 : (0 : Int) ≤ (i : Int) := by omega
        have hin' : (i : Int) < (n : Int) := by omega
        have hn47 : n ≤ 140737488355328 := by omega
        have hgl := HH.out.bx.lt
        -- what is there once the list is a new one
        have HK : Hid (∀ (b sc3 : Nat) (w3 : World), w2.heap.size ≤ b → b < w3.heap.size → n ≤ sc3 → Rw w3 b n S → Below w2.heap.size w2 w3 → ∀ (j : Nat), j < 130 → ∀ (v : Value) (s : Sec), (secV (S i)).set j v = secV s →
            w.grownBy ((w3.setCell ⟨g, 0, none⟩ (.slice (some ⟨b, 0, none⟩) n sc3)).setCell ⟨b, i * 130 + j, none⟩ v) (some g) ∧ ∃ sa sc' ca' cc', Has ((w3.setCell ⟨g, 0, none⟩ (.slice (some ⟨b, 0, none⟩) n sc3)).setCell ⟨b, i * 130 + j, none⟩ v) g sa ca' n sc' m cc' (upd S i s) C f d) := Lib.hid (by
          intro b sc3 w3 hBb hbl hsc3 hRw hb3 j hj v s hs
          have hgb : g ≠ b := by omega
          have hG := only_trans (g := g) (only_below hB2) (only_below hb3)
          have hsz := hB2.size
          have hsz3 := hb3.size
          refine poked (B := w2.heap.size) (only_trans hG (only_put _ _ _ _)) (by omega) hgb (by rw [World.size_setCell]; exact hbl) hsc3 ((hH2.bx.below hb3).s0 _) (hRw.block (Below.heap_setCell _ _ _ _ (Ne.symm hgb))) ((hH2.cs.below hb3).grown (only_put _ _ _ _) hsz3) (by rw [World.size_setCell]; exact hsz3) ?_ nb mb hin hj v s hs
          intro q o hq
          rcases hH2.cs.rows with h0 | ⟨q', o', e, h1, _, _⟩
          · exact .inl h0
          · right
            rw [hq] at e
            injection e with e
            injection e with e _
            omega)
        have HH2 := hH2
        by_cases k1 : k = 1
        · subst k1
          simp only [hitsB, if_true, Bool.and_eq_true, decide_eq_true_eq] at hhi
          obtain ⟨j, rfl⟩ : ∃ j : Nat, p = j := ⟨p.toNat, by omega⟩
          have hj : j < 128 := by omega
          have hj0 : (0 : Int) ≤ (j : Int) := by omega
          have hj1 : (j : Int) < 128 := by omega
          have hj2 : (j : Int) ≤ 127 := by omega
          dsimp only
          go_wp2_with (at_builtin; refine fresh_sec rfl (.tmp 45) (.tmp 49) rfl g sa n sc S rfl rfl hH2.ss nb ?_; intro v1 w3 hs3 hb3; obtain ⟨b, sc3, rfl, hBb, hbl, hsc3, hRw⟩ := owns_form hs3 (by omega); have k0 := (hb3.cell (p := ⟨g, 0, none⟩) hg2).trans c0; have kf0 := (hb3.frozen (p := ⟨g, 0, none⟩) hg2).trans f0; have hgb : ¬ g = b := (by omega); have hbg : ¬ b = g := (by omega); have HP := HK.out b sc3 w3 hBb hbl hsc3 hRw hb3; have cD := hRw.rows i hin j _ (secV_data (S i) hj); have fD := hRw.free (i * 130 + j); clear hRw hs3 hb3)
          have HP1 := HP j (by omega) _ _ (set_data (S i) hj (bits .xor .u8 ((S i).data j) y))
          rw [← hitSec_data] at HP1
          have c4 : (w3.setCell ⟨g, 0, none⟩ (.slice (some ⟨b, 0, none⟩) n sc3)).cell? ⟨g, 0, none⟩ = some (.slice (some ⟨b, 0, none⟩) n sc3) := World.cell?_setCell_same _ _ _ k0
          have cD4 : (w3.setCell ⟨g, 0, none⟩ (.slice (some ⟨b, 0, none⟩) n sc3)).cell? ⟨b, i * 130 + j, none⟩ = some (.int .u8 ((S i).data j)) := by
            rw [World.cell?_setCell_other _ _ _ _ (by intro h; injection h with h _; omega)]; exact cD
          have fD4 : (w3.setCell ⟨g, 0, none⟩ (.slice (some ⟨b, 0, none⟩) n sc3)).frozen? ⟨b, i * 130 + j, none⟩ = false := by
            rw [World.frozen?_setCell]; exact fD
          clear HP cD fD k0 kf0
          generalize w3.setCell ⟨g, 0, none⟩ (.slice (some ⟨b, 0, none⟩) n sc3) = W4 at HP1 c4 cD4 fD4 ⊢
          go_region
          generalize W4.setCell ⟨b, i * 130 + j, none⟩ (.int .u8 (bits .xor .u8 ((S i).data j) y)) = W5 at HP1 ⊢
          have hd : Below W5.heap.size W5 W5.drew := ⟨rfl, rfl, rfl, Nat.le_refl _, fun _ _ => rfl⟩
          generalize W5.drew = W6 at hd ⊢
          go_wp2_with fail
          go_ret
          obtain ⟨h1, sa', sc', ca', cc', h2⟩ := HP1
          exact ⟨by rw [H12.out.1]; rfl, only_trans h1 (only_below hd), by rw [H12.out.2]; exact ⟨sa', sc', ca', cc', h2.below hd⟩⟩
        · have b1 : (k == 1) = false := by simpa using k1
          by_cases k2 : k = 2
          · subst k2
            dsimp only
            go_wp2_with (at_builtin; refine fresh_sec rfl (.tmp 45) (.tmp 49) rfl g sa n sc S rfl rfl hH2.ss nb ?_; intro v1 w3 hs3 hb3; obtain ⟨b, sc3, rfl, hBb, hbl, hsc3, hRw⟩ := owns_form hs3 (by omega); have k0 := (hb3.cell (p := ⟨g, 0, none⟩) hg2).trans c0; have kf0 := (hb3.frozen (p := ⟨g, 0, none⟩) hg2).trans f0; have hgb : ¬ g = b := (by omega); have hbg : ¬ b = g := (by omega); have HP := HK.out b sc3 w3 hBb hbl hsc3 hRw hb3; have cD := hRw.rows i hin 128 _ (secV_read _); have fD := hRw.free (i * 130 + 128); clear hRw hs3 hb3)
            go_ret
            obtain ⟨h1, h2⟩ := HP 128 (by omega) _ _ (set_read (S i))
            exact ⟨by rw [H12.out.1]; rfl, h1, by rw [H12.out.2]; exact h2⟩
          · have b2 : (k == 2) = false := by simpa using k2
            have hk3 : k = 3 := by simpa [hitsB, k1, k2] using hhi
            subst hk3
            dsimp only
            go_wp2_with (at_builtin; refine fresh_sec rfl (.tmp 45) (.tmp 49) rfl g sa n sc S rfl rfl hH2.ss nb ?_; intro v1 w3 hs3 hb3; obtain ⟨b, sc3, rfl, hBb, hbl, hsc3, hRw⟩ := owns_form hs3 (by omega); have k0 := (hb3.cell (p := ⟨g, 0, none⟩) hg2).trans c0; have kf0 := (hb3.frozen (p := ⟨g, 0, none⟩) hg2).trans f0; have hgb : ¬ g = b := (by omega); have hbg : ¬ b = g := (by omega); have HP := HK.out b sc3 w3 hBb hbl hsc3 hRw hb3; have cD := hRw.rows i hin 129 _ (secV_write _); have fD := hRw.free (i * 130 + 129); clear hRw hs3 hb3)
            go_ret
            obtain ⟨h1, h2⟩ := HP 129 (by omega) _ _ (set_write (S i))
            exact ⟨by rw [H12.out.1]; rfl, h1, by rw [H12.out.2]; exact h2⟩
end Dk
end Go.Proofs.Ytoopenkohedmoaa
