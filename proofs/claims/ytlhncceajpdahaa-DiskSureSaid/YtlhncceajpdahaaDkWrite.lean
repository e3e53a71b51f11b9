/- disk: Write. -/
import Derived.Test.YtlhncceajpdahaaDkWrInv
namespace Go.Proofs.Ytlhncceajpdahaa
namespace Dk
open Go.RowKit

def updC (C : Nat → Wr) (p : Nat) (x : Wr) (i : Nat) : Wr := if i = p then x else C i
theorem flat_updC (C : Nat → Wr) (m : Nat) (x : Wr) : flat (fun i => wrV (updC C m x i)) (m + 1) = flat (fun i => wrV (C i)) m ++ wrV x := by
  rw [flat_succ]
  congr 1
  · exact flat_congr fun i hi => by simp only [updC]; rw [if_neg (by omega)]
  · simp [updC]
def wrOk (n m : Nat) (C : Nat → Wr) (a : Int) : Bool := formedB n m C && hasB n a
def wrE (n m : Nat) (S : Nat → Sec) (C : Nat → Wr) (f : Int) (d : Bool) (a : Int) : Int := if wrOk n m C a then if actE f d = 0 then if (S a.toNat).noWrite then 2 else 0 else 3 else 1
def wrM (n m : Nat) (S : Nat → Sec) (C : Nat → Wr) (f : Int) (d : Bool) (a : Int) : Nat := if wrE n m S C f d a = 0 then m + 1 else m
def wrC (n m : Nat) (S : Nat → Sec) (C : Nat → Wr) (f : Int) (d : Bool) (a : Int) (D : Nat → Int) : Nat → Wr := if wrE n m S C f d a = 0 then updC C m ⟨a, D⟩ else C
def wrF (n m : Nat) (C : Nat → Wr) (f : Int) (d : Bool) (a : Int) : Int := if wrOk n m C a then actF f d else f
def wrD (n m : Nat) (C : Nat → Wr) (f : Int) (d : Bool) (a : Int) : Bool := if wrOk n m C a then actD f d else d
/-- what a call of Write comes to -/
def Writes (w : World) (g : Nat) (n m : Nat) (S : Nat → Sec) (C : Nat → Wr) (f : Int) (d : Bool) (a : Int) (D : Nat → Int) : Ending → World → Prop :=
  Turns w g (wrE n m S C f d a) n (wrM n m S C f d a) S (wrC n m S C f d a D) (wrF n m C f d a) (wrD n m C f d a)

section
variable {w : World} {g n m : Nat} {S : Nat → Sec} {C : Nat → Wr} {f : Int} {d : Bool} {a : Int} {D : Nat → Int} {e : Ending} {w' : World}
theorem writes_no (hok : wrOk n m C a = false) (h : Turns w g 1 n m S C f d e w') : Writes w g n m S C f d a D e w' := by
  have h0 : wrE n m S C f d a = 1 := by unfold wrE; rw [hok]; rfl
  unfold Writes wrM wrC wrF wrD
  rw [h0, hok]
  exact h
theorem writes_down (hok : wrOk n m C a = true) (ha : actE f d = 3) (h : Turns w g 3 n m S C (actF f d) (actD f d) e w') : Writes w g n m S C f d a D e w' := by
  have h0 : wrE n m S C f d a = 3 := by unfold wrE; rw [hok, ha]; rfl
  unfold Writes wrM wrC wrF wrD
  rw [h0, hok]
  exact h
theorem writes_io (hok : wrOk n m C a = true) (ha : actE f d = 0) (hs : (S a.toNat).noWrite = true) (h : Turns w g 2 n m S C (actF f d) (actD f d) e w') : Writes w g n m S C f d a D e w' := by
  have h0 : wrE n m S C f d a = 2 := by unfold wrE; rw [hok, ha, hs]; rfl
  unfold Writes wrM wrC wrF wrD
  rw [h0, hok]
  exact h
theorem writes_ok (hok : wrOk n m C a = true) (ha : actE f d = 0) (hs : (S a.toNat).noWrite = false) (h : Turns w g 0 n (m + 1) S (updC C m ⟨a, D⟩) (actF f d) (actD f d) e w') : Writes w g n m S C f d a D e w' := by
  have h0 : wrE n m S C f d a = 0 := by unfold wrE; rw [hok, ha, hs]; rfl
  unfold Writes wrM wrC wrF wrD
  rw [h0, hok]
  exact h
end

theorem near_below {B g k : Nat} {w w' : World} (h : Below B w w') (hk : k ≤ B) : Near k g w w' := ⟨h.os, h.tape, h.output, h.size, fun i hi _ => h.block i (by omega)⟩

set_option maxRecDepth 100000 in
set_option maxHeartbeats 1000000 in
theorem write_any (g : Nat) (sa ca : Option Addr) (n sc m cc : Nat) (S : Nat → Sec) (C : Nat → Wr) (f : Int) (d : Bool) (a : Int) (D : Nat → Int) (w : World) (h : Has w g sa ca n sc m cc S C f d) (hf : -9223372036854775808 ≤ f ∧ f ≤ 9223372036854775807) (hm1 : (m + 1) * 136 ≤ 140737488355328) :
    Calls Try.prog 8 #[.pointer (some ⟨g, 0, none⟩), .int .i64 a, .agg (bl D).toArray] w (Writes w g n m S C f d a D) := by
  have HH := Lib.hid h
  have nb := h.nb
  have mb := h.mb
  clear h
  have hb0 : Below w.heap.size w (w.alloc (.cells (bl D).toArray 41)) := (Below.refl _ _).alloc (Nat.le_refl _) _
  have hx0 : (w.alloc (.cells (bl D).toArray 41)).heap[w.heap.size]? = some (.cells (bl D).toArray 41 (0, 0)) := heap_alloc_new _ _
  have hs0 : (w.alloc (.cells (bl D).toArray 41)).heap.size = w.heap.size + 1 := by simp
  have hF := (HH.out.below hb0).formed
  have hgw := HH.out.bx.lt
  have h47 := HH.out.n47
  have hl1 := bl_one D
  have hl2 := size_bl D
  have hl3 := bl_length D
  generalize hL : bl D = L at hb0 hx0 hs0 hF hl1 hl2 hl3 ⊢
  have HL := Lib.hid hL
  clear hL
  cases hfm : formedB n m C with
  | false =>
    have hok : wrOk n m C a = false := by unfold wrOk; rw [hfm]; rfl
    rw [hfm] at hF
    clear hfm
    go_enter Try.func8, Try.ntmps8
    go_wp2_with fail
    refine hF.mono ?_
    rintro _ w1 ⟨rfl, hb⟩
    dsimp only
    go_wp2_with fail
    go_ret
    have hb1 : Below w.heap.size w w1 := hb0.trans (hb.mono (by omega))
    exact writes_no hok ⟨rfl, only_below hb1, sa, sc, ca, cc, HH.out.below hb1⟩
  | true =>
    rw [hfm] at hF
    cases hha : hasB n a with
    | false =>
      have hok : wrOk n m C a = false := by unfold wrOk; rw [hfm, hha]; rfl
      clear hfm
      go_enter Try.func8, Try.ntmps8
      go_wp2_with fail
      refine hF.mono ?_
      rintro _ w1 ⟨rfl, hb⟩
      have hb1 : Below w.heap.size w w1 := hb0.trans (hb.mono (by omega))
      have hH1 := HH.out.below hb1
      have d0 := hH1.bx.c0
      have d1 := hH1.bx.c1
      have d2 := hH1.bx.c2
      have d3 := hH1.bx.c3
      dsimp only
      go_wp2_with fail
      refine (has_any sa ca n sc m cc f a d w1 h47.1).mono ?_
      rw [hha]
      rintro _ w2 ⟨rfl, hb2⟩
      dsimp only
      go_wp2_with fail
      go_ret
      have hb3 : Below w.heap.size w w2 := hb1.trans (hb2.mono hb1.size)
      exact writes_no hok ⟨rfl, only_below hb3, sa, sc, ca, cc, HH.out.below hb3⟩
    | true =>
      have hok : wrOk n m C a = true := by unfold wrOk; rw [hfm, hha]; rfl
      obtain ⟨hn, _⟩ := formed_n hfm
      obtain ⟨ha0, ha1⟩ := hasB_nat hha
      obtain ⟨p, rfl⟩ : ∃ p : Nat, a = p := ⟨a.toNat, by omega⟩
      have hpn : p < n := by omega
      clear hfm
      have HA := Lib.hid (fun w1 (h1 : Has w1 g sa ca n sc m cc S C f d) => act_any g sa ca n sc m cc S C f d w1 h1 hf)
      have HOK := Lib.hid hok
      clear hok
      have hEnd1 := Lib.hid (fun (e : Ending) (w' : World) (ha : actE f d = 3) (h : Turns w g 3 n m S C (actF f d) (actD f d) e w') => writes_down (D := D) HOK.out ha h)
      have hEnd2 := Lib.hid (fun (e : Ending) (w' : World) (ha : actE f d = 0) (hs : (S ((p : Int)).toNat).noWrite = true) (h : Turns w g 2 n m S C (actF f d) (actD f d) e w') => writes_io (D := D) HOK.out ha hs h)
      have hEnd3 := Lib.hid (fun (e : Ending) (w' : World) (ha : actE f d = 0) (hs : (S ((p : Int)).toNat).noWrite = false) (h : Turns w g 0 n (m + 1) S (updC C m ⟨p, D⟩) (actF f d) (actD f d) e w') => writes_ok (D := D) HOK.out ha hs h)
      unfold Acts at HA
      generalize actF f d = fa at HA hEnd1 hEnd2 hEnd3
      generalize actD f d = da at HA hEnd1 hEnd2 hEnd3
      have hc := actE_cases f d
      generalize actE f d = ea at HA hEnd1 hEnd2 hEnd3 hc
      go_enter Try.func8, Try.ntmps8
      go_wp2_with fail
      generalize hW : w.alloc (.cells L.toArray 41) = W at hb0 hx0 hs0 hF ⊢
      clear hW
      refine hF.mono ?_
      rintro _ w1 ⟨rfl, hb⟩
      have hb1 : Below w.heap.size w w1 := hb0.trans (hb.mono (by omega))
      have hH1 := HH.out.below hb1
      have d0 := hH1.bx.c0
      have d1 := hH1.bx.c1
      have d2 := hH1.bx.c2
      have d3 := hH1.bx.c3
      have hx1 := (hb.block w.heap.size (by omega)).trans hx0
      have hs1 := hb.size
      clear hF hb hx0
      dsimp only
      go_wp2_with fail
      refine (has_any sa ca n sc m cc f p d w1 h47.1).mono ?_
      rw [hha]
      rintro _ w2 ⟨rfl, hb2⟩
      have hb3 : Below w.heap.size w w2 := hb1.trans (hb2.mono hb1.size)
      have hx2 := (hb2.block w.heap.size (by omega)).trans hx1
      have hs2 := hb2.size
      clear hH1 d0 d1 d2 d3 hx1 hb2
      dsimp only
      go_wp2_with fail
      refine (HA.out w2 (HH.out.below hb3)).mono ?_
      rintro _ w3 ⟨rfl, hg3, hH3, hM⟩
      have hx3 := (hg3.block w.heap.size (by omega) (by simp; omega)).trans hx2
      clear HA hx2
      rcases hc with rfl | rfl
      · obtain ⟨sa3, sc3, ca3, cc3, hM3⟩ := hM rfl
        clear hM
        obtain ⟨b, rfl⟩ := hM3.some hn
        have k0 := hM3.bx.c0
        have k1 := hM3.bx.c1
        have kf1 := hM3.bx.fr 1
        have hg3' := hM3.bx.lt
        obtain ⟨b0, sc0, e, _, _, _, hRw⟩ := owns_form hM3.ss hn
        obtain rfl : b = b0 := by
          injection e with e
          injection e with e
          injection e with e
        clear e
        have cN : w3.cell? ⟨b, p * 130 + 129, none⟩ = some (.bool (S p).noWrite) := hRw.rows p hpn 129 _ (secV_write _)
        cases hnw : (S p).noWrite with
        | true =>
          rw [hnw] at cN
          dsimp only
          go_wp2_with fail
          go_ret
          exact hEnd2.out _ _ (by first | trivial | rfl) hnw ⟨rfl, only_trans (only_below hb3) hg3, hH3⟩
        | false =>
          rw [hnw] at cN
          have hrg : w3.rangeAt w.heap.size 0 L := fun j v hv => by rw [cell_of_row w3 w.heap.size _ _ _ _ hx3, Nat.zero_add]; simpa using hv
          have hnewg : ∀ o, (w3.alloc o).cell? ⟨g, 1, none⟩ = some (.slice ca3 m cc3) := fun o => (World.cell?_alloc_lt _ _ _ hg3').trans k1
          have hfrg : ∀ o, (w3.alloc o).frozen? ⟨g, 1, none⟩ = false := fun o => (World.frozen?_alloc_past _ _ _ hg3').trans kf1
          have und := und29
          dsimp only
          go_wp2_with fail
          obtain rfl := HL.out
          have hwB : w2.heap.size ≤ w3.heap.size := hg3.size
          have hgB := hM3.far
          have hxB : w.heap.size < w2.heap.size := by omega
          refine QuietTail.regionInv (n := 10) (Inv := WInv _ _ _ _ _ _ _ _ _ _ _ _ _ _ _ _ _ _ _ _ _ _ _ _ _ _ _ _ _ _ _ g w.heap.size p D ca3 m cc3 w2.heap.size (flat (fun i => wrV (C i)) m) (.slice (some ⟨b, 0, none⟩) n sc3) n (flat (fun i => secV (S i)) n) w3) (by kernel_rfl) (by decide) (by kernel_rfl) ⟨_, _, _, _, _, _, _, _, _, _, rfl, by simp, by simp, by simp, by simp, by simp, by simp, by simp, by simp, by simp, by simp, ⟨rfl, rfl, rfl, Nat.le_refl _, fun _ _ => rfl⟩, hwB, hM3.ss, fun _ => hM3.cs⟩ ?step ?fin
          case step =>
            rintro i o hi ho L a w' ⟨u0, u1, u2, u3, u4, u5, u6, u7, u8, u9, rfl, i0, i1, i2, i3, i4, i5, i6, i7, i8, i9, iB, iS, iO, iC⟩ hL hpre
            have hxr := hrg
            have hg1 := k1
            generalize hxb : w.heap.size = xb at hxr hxB ⊢
            match i, hi with
            | 0, _ =>
              simp at ho
              subst ho
              go_simp
              exact ⟨_, u1, u2, u3, u4, u5, u6, u7, u8, u9, rfl, fun _ => rfl, keepL i1 rfl, keepL i2 rfl, keepL i3 rfl, keepL i4 rfl, keepL i5 rfl, keepL i6 rfl, keepL i7 rfl, keepL i8 rfl, keepL i9 rfl, iB, iS, iO, keepL' iC rfl⟩
            | 1, _ =>
              simp at ho
              subst ho
              go_simp
              exact ⟨u0, _, u2, u3, u4, u5, u6, u7, u8, u9, rfl, keepL i0 rfl, fun _ => rfl, keepL i2 rfl, keepL i3 rfl, keepL i4 rfl, keepL i5 rfl, keepL i6 rfl, keepL i7 rfl, keepL i8 rfl, keepL i9 rfl, iB, iS, iO, keepL' iC rfl⟩
            | 2, _ =>
              simp at ho
              subst ho
              obtain rfl := i1 (hpre 1 (by kernel_rfl))
              go_simp
              exact ⟨u0, _, _, u3, u4, u5, u6, u7, u8, u9, rfl, keepL i0 rfl, fun _ => rfl, fun _ => rfl, keepL i3 rfl, keepL i4 rfl, keepL i5 rfl, keepL i6 rfl, keepL i7 rfl, keepL i8 rfl, keepL i9 rfl, iB, iS, iO, keepL' iC rfl⟩
            | 3, _ =>
              simp at ho
              subst ho
              obtain rfl := i2 (hpre 2 (by kernel_rfl))
              go_simp
              exact ⟨u0, u1, _, _, u4, u5, u6, u7, u8, u9, rfl, keepL i0 rfl, keepL i1 rfl, fun _ => rfl, fun _ => rfl, keepL i4 rfl, keepL i5 rfl, keepL i6 rfl, keepL i7 rfl, keepL i8 rfl, keepL i9 rfl, iB, iS, iO, keepL' iC rfl⟩
            | 4, _ =>
              simp at ho
              subst ho
              obtain rfl := i3 (hpre 3 (by kernel_rfl))
              have k1 := (iB.cell (p := ⟨g, 1, none⟩) hgB).trans hg1
              go_simp
              exact ⟨u0, u1, u2, _, _, u5, u6, u7, u8, u9, rfl, keepL i0 rfl, keepL i1 rfl, keepL i2 rfl, fun _ => rfl, fun _ => rfl, keepL i5 rfl, keepL i6 rfl, keepL i7 rfl, keepL i8 rfl, keepL i9 rfl, iB, iS, iO, keepL' iC rfl⟩
            | 5, _ =>
              simp at ho
              subst ho
              go_simp
              exact ⟨u0, u1, u2, u3, u4, _, u6, u7, u8, u9, rfl, keepL i0 rfl, keepL i1 rfl, keepL i2 rfl, keepL i3 rfl, keepL i4 rfl, fun _ => rfl, keepL i6 rfl, keepL i7 rfl, keepL i8 rfl, keepL i9 rfl, iB, iS, iO, keepL' iC rfl⟩
            | 6, _ =>
              simp at ho
              subst ho
              have hrg : w'.rangeAt xb 0 (bl D) := fun j v hv => (iB.cell (p := ⟨xb, 0 + j, none⟩) hxB).trans (hxr j v hv)
              refine wp_load_mid 41 (.tmp 5) rfl xb 0 rfl (bl D) _ hrg und29 rfl (size_bl D) ?_
              exact ⟨u0, u1, u2, u3, u4, u5, _, u7, u8, u9, rfl, keepL i0 rfl, keepL i1 rfl, keepL i2 rfl, keepL i3 rfl, keepL i4 rfl, keepL i5 rfl, fun _ => rfl, keepL i7 rfl, keepL i8 rfl, keepL i9 rfl, iB, iS, iO, keepL' iC rfl⟩
            | 7, _ =>
              simp at ho
              subst ho
              obtain rfl := i5 (hpre 5 (by kernel_rfl))
              obtain rfl := i6 (hpre 6 (by kernel_rfl))
              refine wp_build65 p D (.tmp 37) (.tmp 38) rfl rfl rfl ?_
              exact ⟨u0, u1, u2, u3, u4, _, _, _, u8, u9, rfl, keepL i0 rfl, keepL i1 rfl, keepL i2 rfl, keepL i3 rfl, keepL i4 rfl, fun _ => rfl, fun _ => rfl, fun _ => rfl, keepL i8 rfl, keepL i9 rfl, iB, iS, iO, keepL' iC rfl⟩
            | 8, _ =>
              simp at ho
              subst ho
              obtain rfl := i7 (hpre 7 (by kernel_rfl))
              refine wp_bslice65 p D (.tmp 39) rfl rfl ?_
              exact ⟨u0, u1, u2, u3, u4, u5, u6, _, _, u9, rfl, keepL i0 rfl, keepL i1 rfl, keepL i2 rfl, keepL i3 rfl, keepL i4 rfl, keepL i5 rfl, keepL i6 rfl, fun _ => rfl, fun _ => ⟨w'.heap.size, rfl, fun _ => heap_alloc_new _ _⟩, keepL (fun h => by obtain ⟨b5, c5, e, h5⟩ := i9 h; exact ⟨b5, c5, e, h5.alloc _⟩) rfl, iB.alloc iS _, by simp; omega, iO.alloc _, keepL' (fun h => (iC h).alloc _) rfl⟩
            | 9, _ =>
              simp at ho
              subst ho
              obtain rfl := i4 (hpre 4 (by kernel_rfl))
              obtain ⟨gb, rfl, hgb⟩ := i8 (hpre 8 (by kernel_rfl))
              have hcw := iC hL
              have hgb' := hgb hL
              have hne := owns_ne iO hcw (by decide)
              obtain ⟨i0', hi', hz0, hz1, hz2⟩ := info_parts info_wr
              refine wp_append_lies w' (.tmp 36) (.tmp 40) 26 rfl w2.heap.size 55 i0' _ 129 136 slice_wr hi' hz0 hz1 hz2 (wr_size wr0) (by omega) _ m _ rfl hcw ⟨gb, 0, none⟩ 1 1 (bw p D) rfl (wrV_length _) (World.news_of_block hgb') (wrV_one _) (by omega) (maxLen_ge (by omega)) hm1 iS _ rfl ?_
              intro b5 c5 w5 h5 hg5 _ hlt5
              have hb5 : Below w2.heap.size w3 w5 := iB.grown hg5 iS (fun k hk => (hcw.lt k hk).1)
              exact ⟨u0, u1, u2, u3, _, u5, u6, u7, _, _, rfl, keepL i0 rfl, keepL i1 rfl, keepL i2 rfl, keepL i3 rfl, fun _ => rfl, keepL i5 rfl, keepL i6 rfl, keepL i7 rfl, fun _ => ⟨gb, rfl, fun h => by simp at h⟩, fun _ => ⟨b5, c5, rfl, h5⟩, hb5, by have := hg5.size; omega, iO.kept hg5 hne, fun h => by simp at h⟩
            | i + 10, h => omega
          case fin =>
            rintro L a w' hall ⟨u0, u1, u2, u3, u4, u5, u6, u7, u8, u9, rfl, i0, i1, i2, i3, i4, i5, i6, i7, i8, i9, iB, iS, iO, iC⟩
            obtain rfl := i0 (hall 0 (by omega))
            obtain rfl := i1 (hall 1 (by omega))
            obtain ⟨b5, c5, rfl, h5⟩ := i9 (hall 9 (by omega))
            simp only [List.drop_succ_cons, List.drop_zero]
            have hbx := hM3.bx.block (iB.block g hgB)
            have q1 := hbx.c1
            have qf := hbx.fr 1
            have hgw' := hbx.lt
            go_wp2_with fail
            go_ret
            have hb5 := h5.lt
            refine hEnd3.out _ _ (by first | trivial | rfl) hnw ⟨rfl, only_trans (Near.only (only_trans (only_below hb3) hg3) (near_below iB (by omega))) (only_put _ _ _ _), some ⟨b, 0, none⟩, sc3, some ⟨b5, 0, none⟩, c5, hbx.s1 _, ?_, ?_, nb, by omega⟩
            · have := lay_own (g := g) (fun i _ => secV_length _) (owns_put iO hgB 1 (.slice (some ⟨b5, 0, none⟩) (m + 1) c5)) (.inl hgB)
              simpa using this
            · have h6 : w'.ownsRow w2.heap.size 55 129 (.slice (some ⟨b5, 0, none⟩) (m + 1) c5) (m + 1) (flat (fun i => wrV (updC C m ⟨p, D⟩ i)) (m + 1)) := by rw [flat_updC]; exact h5
              have := lay_own (g := g) (fun i _ => wrV_length _) (owns_put h6 hgB 1 (.slice (some ⟨b5, 0, none⟩) (m + 1) c5)) (.inl hgB)
              simpa using this
      · clear hM
        dsimp only
        go_wp2_with fail
        go_ret
        exact hEnd1.out _ _ (by first | trivial | rfl) ⟨rfl, only_trans (only_below hb3) hg3, hH3⟩

end Dk
end Go.Proofs.Ytlhncceajpdahaa
