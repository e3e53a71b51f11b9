import Derived.Test.YtllejfnmbpjhaaaGreatDoorJDl
import Derived.BigRegion
/- disk: Hit (under way): hits; one cell of a sector written. -/
namespace Go.Proofs.YtllejfnmbpjhaaaGreatDoor
set_option maxRecDepth 20000
namespace Dk
open Go.RowKit

/-- a kind of hit, and one that may be at that place -/
def hitsB (kind place : Int) : Bool := if kind = 1 then decide (0 ≤ place) && decide (place < 128) else decide (kind = 2) || decide (kind = 3)

set_option maxRecDepth 100000 in
set_option maxHeartbeats 1000000 in
theorem hits_any (kind place : Int) (w : World) :
    Calls Tryz.prog 37 #[.int .i64 kind, .int .i64 place] w fun e w' => e = .returned (.bool (hitsB kind place)) ∧ Below w.heap.size w w' := by
  by_cases h1 : kind = 1
  · subst h1
    by_cases h2 : 0 ≤ place
    · have e : hitsB 1 place = decide (place < 128) := by unfold hitsB; rw [if_pos rfl, decide_eq_true h2]; rfl
      rw [e]
      go_enter Tryz.func37, Tryz.ntmps37
      go_wp2_with fail
      go_ret
      exact ⟨rfl, Below.refl _ _⟩
    · have e : hitsB 1 place = false := by unfold hitsB; rw [if_pos rfl, decide_eq_false h2]; rfl
      rw [e]
      have h3 : place < 0 := by omega
      go_enter Tryz.func37, Tryz.ntmps37
      go_wp2_with fail
      go_ret
      exact ⟨rfl, Below.refl _ _⟩
  · have b1 : (kind == 1) = false := by simpa using h1
    by_cases h2 : kind = 2
    · subst h2
      go_enter Tryz.func37, Tryz.ntmps37
      go_wp2_with fail
      go_ret
      exact ⟨rfl, Below.refl _ _⟩
    · have b2 : (kind == 2) = false := by simpa using h2
      by_cases h3 : kind = 3
      · subst h3
        go_enter Tryz.func37, Tryz.ntmps37
        go_wp2_with fail
        go_ret
        exact ⟨rfl, Below.refl _ _⟩
      · have b3 : (kind == 3) = false := by simpa using h3
        have e : hitsB kind place = false := by unfold hitsB; rw [if_neg h1, decide_eq_false h2, decide_eq_false h3]; rfl
        rw [e]
        go_enter Tryz.func37, Tryz.ntmps37
        go_wp2_with fail
        go_ret
        exact ⟨rfl, Below.refl _ _⟩

/-- one cell of a sector is written -/
theorem Rw.poke {w : World} {b n : Nat} {S : Nat → Sec} (h : Rw w b n S) {p j : Nat} (hp : p < n) (hj : j < 130) (v : Value) (s : Sec) (hs : (secV (S p)).set j v = secV s) : Rw (w.setCell ⟨b, p * 130 + j, none⟩ v) b n (upd S p s) := by
  refine ⟨fun i hi => ?_, fun k => by rw [World.frozen?_setCell]; exact h.free k⟩
  unfold upd
  by_cases e : i = p
  · subst e
    rw [if_pos rfl, ← hs]
    exact range_setCell_same (h.rows i hi) (by rw [secV_length]; exact hj) v
  · rw [if_neg e]
    refine range_setCell_out (h.rows i hi) ?_ v
    rw [secV_length]
    omega
theorem Rw.lay {w : World} {b n sc B g : Nat} {S : Nat → Sec} (h : Rw w b n S) (hn : n ≤ sc) (hb : b < B) (hg : b ≠ g) : Lay w B g (some ⟨b, 0, none⟩) n sc 130 (fun i => secV (S i)) :=
  ⟨hn, (fun e => by cases e), .inr ⟨b, 0, rfl, hb, hg, fun i hi => by rw [Nat.zero_add]; exact h.rows i hi⟩⟩
theorem Lay.setCell {w : World} {B g : Nat} {ao : Option Addr} {n cap k : Nat} {T : Nat → List Value} (h : Lay w B g ao n cap k T) {b off : Nat} (hb : ∀ q o, ao = some ⟨q, o, none⟩ → n = 0 ∨ q ≠ b) (v : Value) : Lay (w.setCell ⟨b, off, none⟩ v) B g ao n cap k T :=
  ⟨h.room, h.nil, by
    rcases h.rows with h0 | ⟨q, o, e, h1, h2, hr⟩
    · exact .inl h0
    · rcases hb q o e with h0 | hqb
      · exact .inl h0
      · exact .inr ⟨q, o, e, h1, h2, fun i hi j u hu => (World.cell?_of_block (w := w) (Below.heap_setCell _ _ _ _ hqb)).trans (hr i hi j u hu)⟩⟩
theorem grown_new {w w' : World} {g b off : Nat} {v : Value} (h : w.grownBy w' (some g)) (hb : w.heap.size ≤ b) : w.grownBy (w'.setCell ⟨b, off, none⟩ v) (some g) :=
  ⟨h.os, h.tape, h.output, by rw [World.size_setCell]; exact h.size, fun k hk hr => (Below.heap_setCell _ _ _ _ (by simp only []; omega)).trans (h.block k hk hr)⟩
/-- sectors of one's own, of a disk that is one's own -/
theorem Mine.rw {w : World} {B g : Nat} {sa ca : Option Addr} {n sc m cc : Nat} {S : Nat → Sec} {C : Nat → Wr} {f : Int} {d : Bool} (h : Mine w B g sa ca n sc m cc S C f d) (hn : 1 ≤ n) :
    ∃ b, sa = Option.some ⟨b, 0, none⟩ ∧ B ≤ b ∧ b < w.heap.size ∧ n ≤ sc ∧ Rw w b n S ∧ ∀ q o, ca = Option.some ⟨q, o, none⟩ → m = 0 ∨ q ≠ b := by
  obtain ⟨b, sc', e, h1, h2, h3, h4⟩ := owns_form h.ss hn
  injection e with e1 _ e3
  subst e1 e3
  refine ⟨b, rfl, h1, h2, h3, h4, fun q o hq => ?_⟩
  rcases Nat.eq_zero_or_pos m with h0 | h0
  · exact .inl h0
  · right
    rintro rfl
    subst hq
    rcases h.cs.2 with ⟨hv, hm0⟩ | ⟨q', cap, cur, hv, _, hc, _⟩
    · omega
    · injection hv with hv _ _
      injection hv with hv
      injection hv with hv1 hv2
      subst hv1 hv2
      rcases h.ss.2 with ⟨hv, hm0⟩ | ⟨b', cap', cur', hv', _, hc', _⟩
      · omega
      · injection hv' with hv' _ _
        injection hv' with hv'
        injection hv' with hv1 hv2
        subst hv1
        rw [hc] at hc'
        injection hc' with hc'
        injection hc' with _ hc' _
        cases hc'
end Dk
end Go.Proofs.YtllejfnmbpjhaaaGreatDoor
/- disk: Hit, walked. -/
namespace Go.Proofs.YtllejfnmbpjhaaaGreatDoor
set_option maxRecDepth 20000
namespace Dk
open Go.RowKit

def hitOk (n m : Nat) (C : Nat → Wr) (a k p : Int) : Bool := formedB n m C && hasB n a && hitsB k p
def hitE (n m : Nat) (C : Nat → Wr) (a k p : Int) : Int := if hitOk n m C a k p then 0 else 1
def hitSec (s : Sec) (k p y : Int) : Sec :=
  if k = 1 then ⟨fun j => if j = p.toNat then bits .xor .u8 (s.data j) y else s.data j, s.noRead, s.noWrite⟩
  else if k = 2 then ⟨s.data, true, s.noWrite⟩ else ⟨s.data, s.noRead, true⟩
def hitS (n m : Nat) (S : Nat → Sec) (C : Nat → Wr) (a k p y : Int) : Nat → Sec := if hitOk n m C a k p then upd S a.toNat (hitSec (S a.toNat) k p y) else S

theorem set_data (s : Sec) {j : Nat} (hj : j < 128) (v : Int) : (secV s).set j (.int .u8 v) = secV ⟨fun i => if i = j then v else s.data i, s.noRead, s.noWrite⟩ := by
  unfold secV
  rw [List.set_append_left _ _ (by rw [bl_length]; exact hj)]
  congr 1
  apply List.ext_getElem?
  intro i
  by_cases hi : i < 128
  · rw [bl_get _ hi]
    by_cases e : i = j
    · subst e
      rw [List.getElem?_set_self (by rw [bl_length]; exact hi)]
      simp only [if_true]
    · rw [List.getElem?_set_ne (Ne.symm e), bl_get _ hi]
      simp only [if_neg e]
  · rw [List.getElem?_eq_none (by rw [List.length_set, bl_length]; omega), List.getElem?_eq_none (by rw [bl_length]; omega)]
theorem hitSec_data (s : Sec) (j : Nat) (y : Int) : hitSec s 1 (j : Int) y = ⟨fun i => if i = j then bits .xor .u8 (s.data j) y else s.data i, s.noRead, s.noWrite⟩ := by
  unfold hitSec
  simp only [if_true, Int.toNat_natCast]
  congr 1
  funext i
  by_cases e : i = j
  · subst e; rfl
  · simp only [if_neg e]
theorem set_read (s : Sec) : (secV s).set 128 (.bool true) = secV ⟨s.data, true, s.noWrite⟩ := by
  unfold secV
  rw [List.set_append_right _ _ (by rw [bl_length]; exact Nat.le_refl _), bl_length]
  rfl
theorem set_write (s : Sec) : (secV s).set 129 (.bool true) = secV ⟨s.data, s.noRead, true⟩ := by
  unfold secV
  rw [List.set_append_right _ _ (by rw [bl_length]; omega), bl_length]
  rfl
/-- a disk behind one cell of its sectors -/
theorem poked {w0 w : World} {g b n sc m cc B : Nat} {ca : Option Addr} {S : Nat → Sec} {C : Nat → Wr} {f : Int} {d : Bool} (hg : w0.grownBy w (some g)) (hB : w0.heap.size ≤ b) (hgb : g ≠ b) (hbl : b < w.heap.size) (hn : n ≤ sc) (bx : Bx w g (.slice (some ⟨b, 0, none⟩) n sc) (.slice ca m cc) (.int .i64 f) (.bool d)) (hr : Rw w b n S)
    (hc : Lay w B g ca m cc 129 (fun i => wrV (C i))) (hB2 : B ≤ w.heap.size) (hca : ∀ q o, ca = some ⟨q, o, none⟩ → m = 0 ∨ q ≠ b) (nb : n * 130 ≤ 140737488355328) (mb : m * 136 ≤ 140737488355328) {p j : Nat} (hp : p < n) (hj : j < 130) (v : Value) (s : Sec) (hs : (secV (S p)).set j v = secV s) :
    w0.grownBy (w.setCell ⟨b, p * 130 + j, none⟩ v) (some g) ∧ ∃ sa sc' ca' cc', Has (w.setCell ⟨b, p * 130 + j, none⟩ v) g sa ca' n sc' m cc' (upd S p s) C f d :=
  ⟨grown_new hg hB, _, _, _, _, ⟨bx.block (Below.heap_setCell _ _ _ _ (by simp only []; exact hgb)), (hr.poke hp hj v s hs).lay hn (by rw [World.size_setCell]; exact hbl) (Ne.symm hgb), (hc.setCell hca v).more (by rw [World.size_setCell]; exact hB2), nb, mb⟩⟩

set_option maxRecDepth 100000 in
set_option maxHeartbeats 1000000 in
theorem hit_any (g : Nat) (sa ca : Option Addr) (n sc m cc : Nat) (S : Nat → Sec) (C : Nat → Wr) (f : Int) (d : Bool) (a k p y : Int) (w : World) (h : Has w g sa ca n sc m cc S C f d) :
    Calls Tryz.prog 19 #[.pointer (some ⟨g, 0, none⟩), .int .i64 a, .int .i64 k, .int .i64 p, .int .u8 y] w (Turns w g (hitE n m C a k p) n m (hitS n m S C a k p y) C f d) := by
  have hF := h.formed
  have HH := Lib.hid h
  clear h
  unfold Turns
  cases hf : formedB n m C with
  | false =>
    have hok : hitOk n m C a k p = false := by unfold hitOk; rw [hf]; rfl
    have e1 : hitE n m C a k p = 1 := by unfold hitE; rw [hok]; rfl
    have e2 : hitS n m S C a k p y = S := by unfold hitS; rw [hok]; rfl
    rw [e1, e2]
    rw [hf] at hF
    clear e1 e2 hok hf
    go_enter Tryz.func19, Tryz.ntmps19
    go_wp2_with fail
    refine hF.mono ?_
    rintro _ w1 ⟨rfl, hb⟩
    dsimp only
    go_wp2_with fail
    go_ret
    exact ⟨rfl, only_below hb, sa, sc, ca, cc, HH.out.below hb⟩
  | true =>
    rw [hf] at hF
    go_enter Tryz.func19, Tryz.ntmps19
    go_wp2_with fail
    refine hF.mono ?_
    rintro _ w1 ⟨rfl, hb1⟩
    have hH1 := HH.out.below hb1
    have d0 := hH1.bx.c0
    have d1 := hH1.bx.c1
    have d2 := hH1.bx.c2
    have d3 := hH1.bx.c3
    have h47 := hH1.n47
    clear hF
    dsimp only
    go_wp2_with fail
    refine (has_any sa ca n sc m cc f a d w1 h47.1).mono ?_
    rintro _ w2 ⟨rfl, hb2⟩
    have hB2 := hb1.trans (hb2.mono hb1.size)
    clear d0 d1 d2 d3 hH1 hb2
    cases hha : hasB n a with
    | false =>
      have hok : hitOk n m C a k p = false := by unfold hitOk; rw [hf, hha]; rfl
      have e1 : hitE n m C a k p = 1 := by unfold hitE; rw [hok]; rfl
      have e2 : hitS n m S C a k p y = S := by unfold hitS; rw [hok]; rfl
      have H12 := Lib.hid (And.intro e1 e2)
      clear e1 e2 hok
      dsimp only
      go_wp2_with fail
      go_ret
      exact ⟨by rw [H12.out.1]; rfl, only_below hB2, by rw [H12.out.2]; exact ⟨sa, sc, ca, cc, HH.out.below hB2⟩⟩
    | true =>
      dsimp only
      go_wp2_with fail
      refine (hits_any k p w2).mono ?_
      rintro _ w3 ⟨rfl, hb3⟩
      have hB3 := hB2.trans (hb3.mono hB2.size)
      cases hhi : hitsB k p with
      | false =>
        have hok : hitOk n m C a k p = false := by unfold hitOk; rw [hf, hha, hhi]; rfl
        have e1 : hitE n m C a k p = 1 := by unfold hitE; rw [hok]; rfl
        have e2 : hitS n m S C a k p y = S := by unfold hitS; rw [hok]; rfl
        have H12 := Lib.hid (And.intro e1 e2)
        clear e1 e2 hok
        dsimp only
        go_wp2_with fail
        go_ret
        exact ⟨by rw [H12.out.1]; rfl, only_below hB3, by rw [H12.out.2]; exact ⟨sa, sc, ca, cc, HH.out.below hB3⟩⟩
      | true =>
        have hok : hitOk n m C a k p = true := by unfold hitOk; rw [hf, hha, hhi]; rfl
        have e1 : hitE n m C a k p = 0 := by unfold hitE; rw [hok]; rfl
        have e2 : hitS n m S C a k p y = upd S a.toNat (hitSec (S a.toNat) k p y) := by unfold hitS; rw [hok]; rfl
        have H12 := Lib.hid (And.intro e1 e2)
        clear e1 e2 hok
        obtain ⟨i, rfl⟩ : ∃ i : Nat, a = i := ⟨a.toNat, by have := hasB_nat hha; omega⟩
        have hin : i < n := by have := hasB_nat hha; omega
        rw [Int.toNat_natCast] at H12
        dsimp only
        go_wp2_with fail
        have hH3 := HH.out.below hB3
        have nb := hH3.nb
        have mb := hH3.mb
        have hgl := HH.out.bx.lt
        refine (renew_any g sa ca n sc m cc S C f d w3 hH3).mono ?_
        rintro e w4 ⟨⟨v, rfl⟩, hg4, sa4, sc4, ca4, cc4, hM⟩
        obtain ⟨b, rfl, hb1', hbl, hns, hR, hca⟩ := hM.rw (by omega)
        have hG := only_trans (only_below hB3) hg4
        have hgb : g ≠ b := by have := hB3.size; omega
        have c0 := hM.bx.c0
        have hLc := lay_own (g := g) (fun i _ => wrV_length _) hM.cs (.inl hM.far)
        have HP := Lib.hid (fun (w5 : World) (hw5 : Below w4.heap.size w4 w5) (j : Nat) (hj : j < 130) (v : Value) (s : Sec) (hs : (secV (S i)).set j v = secV s) => poked (only_trans hG (only_below hw5)) (by have := hB3.size; omega) hgb (Nat.lt_of_lt_of_le hbl hw5.size) hns (hM.bx.below hw5) (hR.block (hw5.block b hbl)) (hLc.below hw5) hw5.size hca nb mb hin hj v s hs)
        have hrow := hR.rows i hin
        have hfr := hR.free
        have hi0 : (0 : Int) ≤ (i : Int) := by omega
        have hin' : (i : Int) < (n : Int) := by omega
        have hn47 : n ≤ 140737488355328 := by omega
        clear hM hLc hG hg4 hca hR hb3 hB2 hb1 h47
        by_cases k1 : k = 1
        · subst k1
          simp only [hitsB, if_true, Bool.and_eq_true, decide_eq_true_eq] at hhi
          obtain ⟨j, rfl⟩ : ∃ j : Nat, p = j := ⟨p.toNat, by omega⟩
          have hj : j < 128 := by omega
          have cD : w4.cell? ⟨b, i * 130 + j, none⟩ = some (.int .u8 ((S i).data j)) := hrow j _ (secV_data (S i) hj)
          have fD := hfr (i * 130 + j)
          have hj0 : (0 : Int) ≤ (j : Int) := by omega
          have hj1 : (j : Int) < 128 := by omega
          go_wp2_with fail
          go_region
          generalize hW5 : w4.setCell ⟨b, i * 130 + j, none⟩ (.int .u8 (bits .xor .u8 ((S i).data j) y)) = W5
          have hP := HP.out w4 (Below.refl _ _) j (by omega) _ _ (set_data (S i) hj (bits .xor .u8 ((S i).data j) y))
          rw [hW5, ← hitSec_data] at hP
          clear hW5
          have hd : Below W5.heap.size W5 W5.drew := ⟨rfl, rfl, rfl, Nat.le_refl _, fun _ _ => rfl⟩
          generalize W5.drew = W6 at hd ⊢
          go_wp2_with fail
          go_ret
          obtain ⟨h1, sa', sc', ca', cc', h2⟩ := hP
          exact ⟨by rw [H12.out.1]; rfl, only_trans h1 (only_below hd), by rw [H12.out.2]; exact ⟨sa', sc', ca', cc', h2.below hd⟩⟩
        · have b1 : (k == 1) = false := by simpa using k1
          by_cases k2 : k = 2
          · subst k2
            have cD : w4.cell? ⟨b, i * 130 + 128, none⟩ = some (.bool (S i).noRead) := hrow 128 _ (secV_read _)
            have fD := hfr (i * 130 + 128)
            go_wp2_with fail
            go_ret
            obtain ⟨h1, h2⟩ := HP.out w4 (Below.refl _ _) 128 (by omega) _ _ (set_read (S i))
            exact ⟨by rw [H12.out.1]; rfl, h1, by rw [H12.out.2]; exact h2⟩
          · have b2 : (k == 2) = false := by simpa using k2
            have hk3 : k = 3 := by simpa [hitsB, k1, k2] using hhi
            subst hk3
            have cD : w4.cell? ⟨b, i * 130 + 129, none⟩ = some (.bool (S i).noWrite) := hrow 129 _ (secV_write _)
            have fD := hfr (i * 130 + 129)
            go_wp2_with fail
            go_ret
            obtain ⟨h1, h2⟩ := HP.out w4 (Below.refl _ _) 129 (by omega) _ _ (set_write (S i))
            exact ⟨by rw [H12.out.1]; rfl, h1, by rw [H12.out.2]; exact h2⟩
end Dk
end Go.Proofs.YtllejfnmbpjhaaaGreatDoor
