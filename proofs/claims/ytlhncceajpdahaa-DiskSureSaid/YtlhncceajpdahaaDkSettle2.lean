/- disk: settle, walked. -/
import Derived.Test.YtlhncceajpdahaaDkSettle
namespace Go.Proofs.Ytlhncceajpdahaa
namespace Dk
open Go.RowKit
attribute [local go_sem] zv65 zv29
theorem range_other {w : World} {b o : Nat} {cs : List Value} (h : w.rangeAt b o cs) {g : Nat} (hg : g ≠ b) (j : Nat) (v : Value) : (w.setCell ⟨g, j, none⟩ v).rangeAt b o cs := World.rangeAt_setCells_apart h g j [v] (.inl (Ne.symm hg))
theorem flush1K (K : Nat → Bool) {i : Nat} (h : K i = true) (w : World) : Calls Try.prog 16 #[.int .i64 i] w fun e w' => e = .returned (.bool (K i)) ∧ w = w' := by rw [h]; exact flush1_any i w

set_option maxRecDepth 100000 in
set_option maxHeartbeats 600000 in
theorem settleF_any (B g b : Nat) (ca : Option Addr) (n sc m cc : Nat) (S : Nat → Sec) (C : Nat → Wr) (f : Int) (d : Bool) (K : Nat → Bool) (w : World) (hM : Mine w B g (some ⟨b, 0, none⟩) ca n sc m cc S C f d) (hn : 1 ≤ n) (nb : n * 130 ≤ 140737488355328) (mb : m * 136 ≤ 140737488355328) (hC : inAll n C m = true) (hK : ∀ i, K i = true) :
    Calls Try.prog 15 #[.pointer (some ⟨g, 0, none⟩), .func (.func 16) #[] #[]] w fun e w' => (∃ v, e = .returned v) ∧ Near B g w w' ∧ Has w' g (some ⟨b, 0, none⟩) none n sc 0 0 (stS S C K m) C f d := by
  have hss := hM.ss
  have hcs := hM.cs
  have hgB := hM.far
  have hb := (hss.lt b rfl).2
  have hBb := (hss.lt b rfl).1
  have hBw : B ≤ w.heap.size := by omega
  obtain ⟨hsl, hsr⟩ := hss
  obtain ⟨_, curS, hcurS⟩ : ∃ cap : Nat, ∃ cur : Array Value, w.heap[b]? = some (.cells cur 53 (0, 0)) := by
    rcases hsr with ⟨hv, _⟩ | ⟨b', cap, cur, hv, _, hc, _⟩
    · cases hv
    · injection hv with h1 _ _
      injection h1 with h1
      injection h1 with h1
      subst h1
      exact ⟨cap, cur, hc⟩
  have hlS := lay_own (g := g) (fun i _ => secV_length _) hM.ss (.inl hM.far)
  have hscap : n ≤ sc := hlS.room
  have hRw : Rw w b n S := by
    obtain ⟨b', off, e, _, _, hr⟩ := hlS.rows.resolve_left (by omega)
    injection e with e
    injection e with e1 e2
    subst e1 e2
    exact ⟨fun i hi => by have := hr i hi; rwa [Nat.zero_add] at this, fun j => frozen_of_row w b j _ _ hcurS⟩
  obtain ⟨q, hq⟩ : ∃ q, m = 0 ∨ (ca = some ⟨q, 0, none⟩ ∧ q ≠ b ∧ ∀ i, i < m → w.rangeAt q (0 + i * 129) (wrV (C i))) := by
    rcases Nat.eq_zero_or_pos m with h0 | h0
    · exact ⟨0, .inl h0⟩
    · have hlC := lay_own (g := g) (fun i _ => wrV_length _) hM.cs (.inl hM.far)
      obtain ⟨q, off, e, _, _, hr⟩ := hlC.rows.resolve_left (by omega)
      rcases hcs.2 with ⟨_, hm0⟩ | ⟨q', cap, cur, hv, _, hc, _⟩
      · omega
      · injection hv with h1 _ _
        rw [e] at h1
        injection h1 with h1
        injection h1 with h1 h2
        subst h1 h2
        refine ⟨q, .inr ⟨e, ?_, hr⟩⟩
        rintro rfl
        rw [hcurS] at hc
        injection hc with hc
        injection hc with _ hc _
        cases hc
  have hgb : g ≠ b := by omega
  have hRd : Rd B g b q 0 n m (.slice (some ⟨b, 0, none⟩) n sc) (.slice ca m cc) (.int .i64 f) (.bool d) S C w w :=
    ⟨hM.bx, hRw, fun i hi => by
      rcases hq with h0 | ⟨_, _, hr⟩
      · omega
      · exact hr i hi, .refl _ _ _⟩
  have c1 := hM.bx.c1
  have hn47 : n ≤ 140737488355328 := by omega
  have hm47 : m ≤ 140737488355328 := by omega
  clear hlS hRw hsl hsr hcurS hM hcs
  have HRD := Lib.hid hRd
  have HC := Lib.hid hC
  have HQ := Lib.hid hq
  clear hRd hC hq
  go_enter Try.func15, Try.ntmps15
  go_wp2_with fail
  go_loopw [12] (fun i wr => ∃ j : Nat, j ≤ m ∧ i = .int .i64 j ∧ Hid (Rd B g b q 0 n m (.slice (some ⟨b, 0, none⟩) n sc) (.slice ca m cc) (.int .i64 f) (.bool d) (stS S C K j) C w wr)) (fun i _ => m - (intOf i).toNat)
  case atStart => exact ⟨0, by omega, rfl, HRD⟩
  case round =>
    obtain ⟨j, hj, rfl, hR⟩ := hrel
    by_cases hlt : j < m
    · obtain ⟨rfl, hqb, _⟩ := HQ.out.resolve_left (by omega)
      obtain ⟨hp0, hp1⟩ := hasB_nat (inAll_at hlt HC.out)
      have hj0 : (0 : Int) ≤ (j : Int) := by omega
      have hjm : (j : Int) < (m : Int) := by omega
      have hrow := hR.out.cache j hlt
      rw [Nat.zero_add] at hrow
      go_wp2_with (first
        | (refine wpList_load_mid rfl 55 (.tmp 15) rfl q (j * 129) rfl (wrV (C j)) _ (by exact hrow) Try.underlying55 rfl (size_wr _) ?_; simp only [Act.put, List.setIfInBounds_toArray, List.set_cons_succ, List.set_cons_zero])
        | (refine wpList_store_row rfl 55 (.tmp 5) (.tmp 16) rfl wr.heap.size (wrV (C j)).toArray rfl rfl 55 _ (heap_alloc_new _ _) (by rw [List.size_toArray]; exact size_wr _) (by rw [List.size_toArray, wrV_length]; rfl) (all_oneCell_toArray (wrV_one _)) ?_; rw [World.setRow_alloc_new]; simp only [Act.put]))
      generalize hW1 : wr.alloc (.cells (wrV (C j)).toArray 55) = W1
      have hb1 : Below wr.heap.size wr W1 := by rw [← hW1]; exact (Below.refl _ _).alloc (Nat.le_refl _) _
      have hnew : W1.rangeAt wr.heap.size 0 (wrV (C j)) := by
        rw [← hW1]
        intro i v hv
        rw [cell_of_row _ _ _ _ _ _ (heap_alloc_new _ _), Nat.zero_add]
        simpa using hv
      have hR1 := Lib.hid (hR.out.below hb1 (by omega) hBw)
      have hlt1 : wr.heap.size < W1.heap.size := by rw [← hW1]; simp
      clear hW1 hrow
      refine (flush1K K (hK j) W1).mono ?_
      rintro _ _ ⟨rfl, rfl⟩
      dsimp only
      have cA := hnew 0 _ (wrV_place _)
      rw [Nat.zero_add] at cA
      have cS := hR1.out.bx.c0
      obtain ⟨p, hp⟩ : ∃ p : Nat, (C j).place = p := ⟨(C j).place.toNat, by omega⟩
      rw [hp] at cA hp0 hp1
      have hpn : p < n := by omega
      cases hk : K j with
      | false =>
        have hs : stS S C K (j + 1) = stS S C K j := by rw [stS, if_neg (by rw [hk]; simp)]
        have hR2 : Hid (Rd B g b q 0 n m (.slice (some ⟨b, 0, none⟩) n sc) (.slice (some ⟨q, 0, none⟩) m cc) (.int .i64 f) (.bool d) (stS S C K (j + 1)) C w W1) := Lib.hid (by rw [hs]; exact hR1.out)
        clear hs
        go_wp2_with fail
        go_roundw
        case rel => exact ⟨j + 1, by omega, by go_num, hR2⟩
        case measure => simp [intOf]; omega
      | true =>
        have hs : stS S C K (j + 1) = upd (stS S C K j) p ⟨(C j).data, false, (stS S C K j p).noWrite⟩ := by rw [stS, if_pos hk, hp, Int.toNat_natCast]
        go_wp2_with fail
        go_quiet (fail)
        have hb2 : Below W1.heap.size W1 (W1.drewN nq) := ⟨rfl, rfl, rfl, Nat.le_refl _, fun _ _ => rfl⟩
        generalize W1.drewN nq = W2 at hb2 ⊢
        have hR2 := hR1.out.below hb2 (by omega) hBw
        have hnew2 : W2.rangeAt wr.heap.size 0 (wrV (C j)) := fun i v hv => (hb2.cell hlt1).trans (hnew i v hv)
        have hdat := wr_range (C j) hnew2
        rw [Nat.zero_add] at hdat
        have hth : W2.there b (p * 130) 128 := by
          have := hR2.rows.there hpn (o := 0) (k := 128) (by omega)
          rwa [Nat.add_zero] at this
        have h128 : (W2.setCells b (p * 130) (bl (C j).data)).cell? ⟨b, p * 130 + 128, none⟩ = some (.bool (stS S C K j p).noRead) := by
          rw [World.cell?_setCells_out b _ _ W2 _ (fun _ _ => .inr (by rw [bl_length]; exact Nat.le_refl _))]
          exact hR2.rows.rows p hpn 128 _ (secV_read _)
        have f128 : (W2.setCells b (p * 130) (bl (C j).data)).frozen? ⟨b, p * 130 + 128, none⟩ = false := by
          rw [World.frozen?_setCells]
          exact hR2.rows.free _
        have hR3 : Hid (Rd B g b q 0 n m (.slice (some ⟨b, 0, none⟩) n sc) (.slice (some ⟨q, 0, none⟩) m cc) (.int .i64 f) (.bool d) (stS S C K (j + 1)) C w ((W2.setCells b (p * 130) (bl (C j).data)).setCell ⟨b, p * 130 + 128, none⟩ (.bool false))) := Lib.hid (by
          rw [hs]
          exact hR2.write hpn _ hgb hqb hBb)
        clear hs hR2 hnew2 hb2 hnew hR1 cA cS
        generalize hD : (C j).data = D at hdat hth h128 f128 hR3
        go_wp2_with (first
          | (refine wpList_load_mid rfl 41 (.tmp 29) rfl wr.heap.size 1 rfl (bl D) _ (by exact hdat) und29 rfl (size_bl _) ?_; simp only [Act.put, List.setIfInBounds_toArray, List.set_cons_succ, List.set_cons_zero])
          | (refine wpList_store_mid rfl 41 (.tmp 32) (.tmp 30) rfl b (p * 130) (bl D).toArray rfl rfl (by rw [List.size_toArray, bl_length]; exact hth) (by rw [List.size_toArray]; exact size_bl _) (all_oneCell_toArray (bl_one _)) ?_; simp only [Act.put, List.toList_toArray]; generalize W2.setCells b (p * 130) (bl D) = W3 at h128 f128 hR3 ⊢))
        go_roundw
        case rel => exact ⟨j + 1, by omega, by go_num, hR3⟩
        case measure => simp [intOf]; omega
    · obtain rfl : j = m := by omega
      have k1 := hR.out.bx.c1
      have kf := hR.out.bx.fr 1
      go_wp2_with fail
      go_end0
      refine ⟨⟨_, rfl⟩, hR.out.near.put _ _, hR.out.bx.s1 _, ?_, Lay.empty _ _ _ 0 _ _, nb, by omega⟩
      have hlt' := hR.out.rows.lt (by omega)
      refine ⟨hscap, by simp, .inr ⟨b, 0, rfl, by simpa using hlt', Ne.symm hgb, fun i hi => ?_⟩⟩
      rw [Nat.zero_add]
      exact range_other (hR.out.rows.rows i hi) hgb _ _

/-- which writes a crash keeps -/
def keepB (kn : Nat) (kf : Nat → Bool) (i : Nat) : Bool := decide (i < kn) && kf i
/-- the bools kf 0 .. kf (kn - 1) are read at ka, below block B, not in block g -/
def Keeps (w : World) (B g : Nat) (ka : Option Addr) (kn : Nat) (kf : Nat → Bool) : Prop := kn = 0 ∨ ∃ q o, ka = some ⟨q, o, none⟩ ∧ q < B ∧ q ≠ g ∧ ∀ i, i < kn → w.cell? ⟨q, o + i, none⟩ = some (.bool (kf i))
theorem Keeps.near {w w' : World} {B g : Nat} {ka : Option Addr} {kn : Nat} {kf : Nat → Bool} (h : Keeps w B g ka kn kf) (hn : Near B g w w') : Keeps w' B g ka kn kf :=
  h.imp id fun ⟨q, o, e, hq, hg, hc⟩ => ⟨q, o, e, hq, hg, fun i hi => (World.cell?_of_block (w := w) (hn.block q hq hg)).trans (hc i hi)⟩
set_option maxHeartbeats 400000 in
theorem crash1K (kb kn kc i B g : Nat) (ka : Option Addr) (kf : Nat → Bool) (w : World) (hc : w.cell? ⟨kb, 0, none⟩ = some (.slice ka kn kc)) (hk : Keeps w B g ka kn kf) (hkn : kn ≤ 140737488355328) (hi : i ≤ 140737488355328) :
    Calls Try.prog 18 #[.int .i64 i, .pointer (some ⟨kb, 0, none⟩)] w fun e w' => e = .returned (.bool (keepB kn kf i)) ∧ w = w' := by
  by_cases h : i < kn
  · obtain ⟨q, o, rfl, _, _, hq⟩ := hk.resolve_left (by omega)
    have hv := hq i h
    have e : keepB kn kf i = kf i := by unfold keepB; rw [decide_eq_true h, Bool.true_and]
    rw [e]
    have h0 : (0 : Int) ≤ (i : Int) := by omega
    have h1 : (i : Int) < (kn : Int) := by omega
    clear hq
    go_enter Try.func18, Try.ntmps18
    go_wp2_with fail
    go_ret
    exact ⟨rfl, rfl⟩
  · have e : keepB kn kf i = false := by unfold keepB; rw [decide_eq_false h, Bool.false_and]
    rw [e]
    have h1 : (kn : Int) ≤ (i : Int) := by omega
    clear hk
    go_enter Try.func18, Try.ntmps18
    go_wp2_with fail
    go_ret
    exact ⟨rfl, rfl⟩

set_option maxRecDepth 100000 in
set_option maxHeartbeats 600000 in
theorem settleC_any (B g b : Nat) (ca : Option Addr) (n sc m cc : Nat) (S : Nat → Sec) (C : Nat → Wr) (f : Int) (d : Bool) (kb kn kc : Nat) (ka : Option Addr) (kf : Nat → Bool) (w : World) (hM : Mine w B g (some ⟨b, 0, none⟩) ca n sc m cc S C f d) (hn : 1 ≤ n) (nb : n * 130 ≤ 140737488355328) (mb : m * 136 ≤ 140737488355328) (hC : inAll n C m = true) (hkc : w.cell? ⟨kb, 0, none⟩ = some (.slice ka kn kc)) (hkb : kb < B) (hkg : kb ≠ g) (hkp : Keeps w B g ka kn kf) (hkn : kn ≤ 140737488355328) :
    Calls Try.prog 15 #[.pointer (some ⟨g, 0, none⟩), .func (.func 18) #[] #[.pointer (some ⟨kb, 0, none⟩)]] w fun e w' => (∃ v, e = .returned v) ∧ Near B g w w' ∧ Has w' g (some ⟨b, 0, none⟩) none n sc 0 0 (stS S C (keepB kn kf) m) C f d := by
  have hss := hM.ss
  have hcs := hM.cs
  have hgB := hM.far
  have hb := (hss.lt b rfl).2
  have hBb := (hss.lt b rfl).1
  have hBw : B ≤ w.heap.size := by omega
  obtain ⟨hsl, hsr⟩ := hss
  obtain ⟨_, curS, hcurS⟩ : ∃ cap : Nat, ∃ cur : Array Value, w.heap[b]? = some (.cells cur 53 (0, 0)) := by
    rcases hsr with ⟨hv, _⟩ | ⟨b', cap, cur, hv, _, hc, _⟩
    · cases hv
    · injection hv with h1 _ _
      injection h1 with h1
      injection h1 with h1
      subst h1
      exact ⟨cap, cur, hc⟩
  have hlS := lay_own (g := g) (fun i _ => secV_length _) hM.ss (.inl hM.far)
  have hscap : n ≤ sc := hlS.room
  have hRw : Rw w b n S := by
    obtain ⟨b', off, e, _, _, hr⟩ := hlS.rows.resolve_left (by omega)
    injection e with e
    injection e with e1 e2
    subst e1 e2
    exact ⟨fun i hi => by have := hr i hi; rwa [Nat.zero_add] at this, fun j => frozen_of_row w b j _ _ hcurS⟩
  obtain ⟨q, hq⟩ : ∃ q, m = 0 ∨ (ca = some ⟨q, 0, none⟩ ∧ q ≠ b ∧ ∀ i, i < m → w.rangeAt q (0 + i * 129) (wrV (C i))) := by
    rcases Nat.eq_zero_or_pos m with h0 | h0
    · exact ⟨0, .inl h0⟩
    · have hlC := lay_own (g := g) (fun i _ => wrV_length _) hM.cs (.inl hM.far)
      obtain ⟨q, off, e, _, _, hr⟩ := hlC.rows.resolve_left (by omega)
      rcases hcs.2 with ⟨_, hm0⟩ | ⟨q', cap, cur, hv, _, hc, _⟩
      · omega
      · injection hv with h1 _ _
        rw [e] at h1
        injection h1 with h1
        injection h1 with h1 h2
        subst h1 h2
        refine ⟨q, .inr ⟨e, ?_, hr⟩⟩
        rintro rfl
        rw [hcurS] at hc
        injection hc with hc
        injection hc with _ hc _
        cases hc
  have hgb : g ≠ b := by omega
  have hRd : Rd B g b q 0 n m (.slice (some ⟨b, 0, none⟩) n sc) (.slice ca m cc) (.int .i64 f) (.bool d) S C w w :=
    ⟨hM.bx, hRw, fun i hi => by
      rcases hq with h0 | ⟨_, _, hr⟩
      · omega
      · exact hr i hi, .refl _ _ _⟩
  have c1 := hM.bx.c1
  have hn47 : n ≤ 140737488355328 := by omega
  have hm47 : m ≤ 140737488355328 := by omega
  clear hlS hRw hsl hsr hcurS hM hcs
  have HRD := Lib.hid hRd
  have HC := Lib.hid hC
  have HQ := Lib.hid hq
  clear hRd hC hq
  have HKC := Lib.hid hkc
  have HKP := Lib.hid hkp
  clear hkc hkp
  go_enter Try.func15, Try.ntmps15
  go_wp2_with fail
  go_loopw [12] (fun i wr => ∃ j : Nat, j ≤ m ∧ i = .int .i64 j ∧ Hid (Rd B g b q 0 n m (.slice (some ⟨b, 0, none⟩) n sc) (.slice ca m cc) (.int .i64 f) (.bool d) (stS S C (keepB kn kf) j) C w wr)) (fun i _ => m - (intOf i).toNat)
  case atStart => exact ⟨0, by omega, rfl, HRD⟩
  case round =>
    obtain ⟨j, hj, rfl, hR⟩ := hrel
    by_cases hlt : j < m
    · obtain ⟨rfl, hqb, _⟩ := HQ.out.resolve_left (by omega)
      obtain ⟨hp0, hp1⟩ := hasB_nat (inAll_at hlt HC.out)
      have hj0 : (0 : Int) ≤ (j : Int) := by omega
      have hjm : (j : Int) < (m : Int) := by omega
      have hrow := hR.out.cache j hlt
      rw [Nat.zero_add] at hrow
      go_wp2_with (first
        | (refine wpList_load_mid rfl 55 (.tmp 15) rfl q (j * 129) rfl (wrV (C j)) _ (by exact hrow) Try.underlying55 rfl (size_wr _) ?_; simp only [Act.put, List.setIfInBounds_toArray, List.set_cons_succ, List.set_cons_zero])
        | (refine wpList_store_row rfl 55 (.tmp 5) (.tmp 16) rfl wr.heap.size (wrV (C j)).toArray rfl rfl 55 _ (heap_alloc_new _ _) (by rw [List.size_toArray]; exact size_wr _) (by rw [List.size_toArray, wrV_length]; rfl) (all_oneCell_toArray (wrV_one _)) ?_; rw [World.setRow_alloc_new]; simp only [Act.put]))
      generalize hW1 : wr.alloc (.cells (wrV (C j)).toArray 55) = W1
      have hb1 : Below wr.heap.size wr W1 := by rw [← hW1]; exact (Below.refl _ _).alloc (Nat.le_refl _) _
      have hnew : W1.rangeAt wr.heap.size 0 (wrV (C j)) := by
        rw [← hW1]
        intro i v hv
        rw [cell_of_row _ _ _ _ _ _ (heap_alloc_new _ _), Nat.zero_add]
        simpa using hv
      have hR1 := Lib.hid (hR.out.below hb1 (by omega) hBw)
      have hlt1 : wr.heap.size < W1.heap.size := by rw [← hW1]; simp
      clear hW1 hrow
      have hnr : Near B g w W1 := hR1.out.near
      refine (crash1K kb kn kc j B g ka kf W1 ((World.cell?_of_block (w := w) (hnr.block kb hkb hkg)).trans HKC.out) (HKP.out.near hnr) hkn (by omega)).mono ?_
      rintro _ _ ⟨rfl, rfl⟩
      clear hnr
      dsimp only
      have cA := hnew 0 _ (wrV_place _)
      rw [Nat.zero_add] at cA
      have cS := hR1.out.bx.c0
      obtain ⟨p, hp⟩ : ∃ p : Nat, (C j).place = p := ⟨(C j).place.toNat, by omega⟩
      rw [hp] at cA hp0 hp1
      have hpn : p < n := by omega
      cases hk : (keepB kn kf) j with
      | false =>
        have hs : stS S C (keepB kn kf) (j + 1) = stS S C (keepB kn kf) j := by rw [stS, if_neg (by rw [hk]; simp)]
        have hR2 : Hid (Rd B g b q 0 n m (.slice (some ⟨b, 0, none⟩) n sc) (.slice (some ⟨q, 0, none⟩) m cc) (.int .i64 f) (.bool d) (stS S C (keepB kn kf) (j + 1)) C w W1) := Lib.hid (by rw [hs]; exact hR1.out)
        clear hs
        go_wp2_with fail
        go_roundw
        case rel => exact ⟨j + 1, by omega, by go_num, hR2⟩
        case measure => simp [intOf]; omega
      | true =>
        have hs : stS S C (keepB kn kf) (j + 1) = upd (stS S C (keepB kn kf) j) p ⟨(C j).data, false, (stS S C (keepB kn kf) j p).noWrite⟩ := by rw [stS, if_pos hk, hp, Int.toNat_natCast]
        go_wp2_with fail
        go_quiet (fail)
        have hb2 : Below W1.heap.size W1 (W1.drewN nq) := ⟨rfl, rfl, rfl, Nat.le_refl _, fun _ _ => rfl⟩
        generalize W1.drewN nq = W2 at hb2 ⊢
        have hR2 := hR1.out.below hb2 (by omega) hBw
        have hnew2 : W2.rangeAt wr.heap.size 0 (wrV (C j)) := fun i v hv => (hb2.cell hlt1).trans (hnew i v hv)
        have hdat := wr_range (C j) hnew2
        rw [Nat.zero_add] at hdat
        have hth : W2.there b (p * 130) 128 := by
          have := hR2.rows.there hpn (o := 0) (k := 128) (by omega)
          rwa [Nat.add_zero] at this
        have h128 : (W2.setCells b (p * 130) (bl (C j).data)).cell? ⟨b, p * 130 + 128, none⟩ = some (.bool (stS S C (keepB kn kf) j p).noRead) := by
          rw [World.cell?_setCells_out b _ _ W2 _ (fun _ _ => .inr (by rw [bl_length]; exact Nat.le_refl _))]
          exact hR2.rows.rows p hpn 128 _ (secV_read _)
        have f128 : (W2.setCells b (p * 130) (bl (C j).data)).frozen? ⟨b, p * 130 + 128, none⟩ = false := by
          rw [World.frozen?_setCells]
          exact hR2.rows.free _
        have hR3 : Hid (Rd B g b q 0 n m (.slice (some ⟨b, 0, none⟩) n sc) (.slice (some ⟨q, 0, none⟩) m cc) (.int .i64 f) (.bool d) (stS S C (keepB kn kf) (j + 1)) C w ((W2.setCells b (p * 130) (bl (C j).data)).setCell ⟨b, p * 130 + 128, none⟩ (.bool false))) := Lib.hid (by
          rw [hs]
          exact hR2.write hpn _ hgb hqb hBb)
        clear hs hR2 hnew2 hb2 hnew hR1 cA cS
        generalize hD : (C j).data = D at hdat hth h128 f128 hR3
        go_wp2_with (first
          | (refine wpList_load_mid rfl 41 (.tmp 29) rfl wr.heap.size 1 rfl (bl D) _ (by exact hdat) und29 rfl (size_bl _) ?_; simp only [Act.put, List.setIfInBounds_toArray, List.set_cons_succ, List.set_cons_zero])
          | (refine wpList_store_mid rfl 41 (.tmp 32) (.tmp 30) rfl b (p * 130) (bl D).toArray rfl rfl (by rw [List.size_toArray, bl_length]; exact hth) (by rw [List.size_toArray]; exact size_bl _) (all_oneCell_toArray (bl_one _)) ?_; simp only [Act.put, List.toList_toArray]; generalize W2.setCells b (p * 130) (bl D) = W3 at h128 f128 hR3 ⊢))
        go_roundw
        case rel => exact ⟨j + 1, by omega, by go_num, hR3⟩
        case measure => simp [intOf]; omega
    · obtain rfl : j = m := by omega
      have k1 := hR.out.bx.c1
      have kf := hR.out.bx.fr 1
      go_wp2_with fail
      go_end0
      refine ⟨⟨_, rfl⟩, hR.out.near.put _ _, hR.out.bx.s1 _, ?_, Lay.empty _ _ _ 0 _ _, nb, by omega⟩
      have hlt' := hR.out.rows.lt (by omega)
      refine ⟨hscap, by simp, .inr ⟨b, 0, rfl, by simpa using hlt', Ne.symm hgb, fun i hi => ?_⟩⟩
      rw [Nat.zero_add]
      exact range_other (hR.out.rows.rows i hi) hgb _ _

end Dk
end Go.Proofs.Ytlhncceajpdahaa
