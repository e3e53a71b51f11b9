/- remap: Take, and the reference's (made by tools/gen_rtake.py). -/
import Derived.Test.YtllejfnmbpjhaaaDoorRmTab
import Derived.Test.YtllejfnmbpjhaaaDoorJRr
import Derived.Test.YtllejfnmbpjhaaaDoorEq
namespace Go.Proofs.YtllejfnmbpjhaaaDoor
set_option maxRecDepth 20000
namespace Rm
open Go.RowKit Dk Byt Eqb

attribute [local go_sem] zv29
attribute [local go_sem] zc29
def tkF (D : Nat → Int) (i : Nat) : Int := Wd.takeN 128 (10 + 4 * (i : Int)) 2 D
def tkT (D : Nat → Int) (i : Nat) : Int := Wd.takeN 128 (12 + 4 * (i : Int)) 2 D
def tkK (D : Nat → Int) : Nat := (D 9).toNat
def tkA (D : Nat → Int) : Int := Wd.takeN 128 1 8 D
/-- do these bytes mean a table -/
def tkOk (s : Int) (D : Nat → Int) : Bool := decide (Wd.takeE 128 1 8 D = 0) && (decide (D 9 ≤ 20) && (decide (putEr s (tkA D) (tkK D) (tkF D) (tkT D) = 0) && eqB 128 (putV s (tkA D) (tkK D) (tkF D) (tkT D)) D))
def tkG (s : Int) (D : Nat → Int) : Int := if tkOk s D = true then tkA D else 0
def tkN (s : Int) (D : Nat → Int) : Nat := if tkOk s D = true then tkK D else 0
def tkE (s : Int) (D : Nat → Int) : Int := if tkOk s D = true then 0 else 15
theorem tk_y {s : Int} {D : Nat → Int} (h : tkOk s D = true) : tkG s D = tkA D ∧ tkN s D = tkK D ∧ tkE s D = 0 := by
  unfold tkG tkN tkE
  rw [if_pos h, if_pos h, if_pos h]
  exact ⟨rfl, rfl, rfl⟩
theorem tk_n {s : Int} {D : Nat → Int} (h : tkOk s D = false) : tkG s D = 0 ∧ tkN s D = 0 ∧ tkE s D = 15 := by
  have h' : ¬ tkOk s D = true := by rw [h]; simp
  unfold tkG tkN tkE
  rw [if_neg h', if_neg h', if_neg h']
  exact ⟨rfl, rfl, rfl⟩
theorem takeN_bd {n : Nat} {a k : Int} {f : Nat → Int} (hf : ∀ i, i < n → 0 ≤ f i ∧ f i < 256) : 0 ≤ Wd.takeN n a k f ∧ Wd.takeN n a k f ≤ 9223372036854775807 := by
  unfold Wd.takeN
  split
  · rename_i h
    obtain ⟨h1, h2, h3, h4⟩ := h
    have := Wd.sumLE_bd (fun i => f (a.toNat + i)) k.toNat (fun i hi => hf _ (by omega))
    split
    · exact ⟨this.1, by assumption⟩
    · omega
  · omega
/-- what a call of Take comes to -/
def TkPost (w : World) (s : Int) (D : Nat → Int) (e : Ending) (w' : World) : Prop :=
  (∃ v, e = .returned (.tuple #[v, .int .i64 (tkE s D)]) ∧ NewTab w' w.heap.size (tkG s D) (tkN s D) (tkF D) (tkT D) v) ∧ Below w.heap.size w w'
theorem tab_none (w : World) (B : Nat) (F T : Nat → Int) : NewTab w B 0 0 F T (.agg #[.int .i64 0, .slice none 0 0]) := ⟨none, 0, rfl, World.ownsRow_nil _ _ _ _⟩
theorem results_tk {tmps : Array Value} {w : World} {B : Nat} {u : Array Value} {e : Int} {fn : Func} (hf : fn.results = #[.cell 4 26, .tmp 5]) (h2 : tmps.getD 4 undef = .pointer (some ⟨B, 0, none⟩)) (h5 : tmps.getD 5 undef = .int .i64 e)
    (hA : w.heap[B]? = some (.cells u 26 (0, 0))) (su : u.size = 2) : (results fn tmps).run Tryd.prog w = .ok (.tuple #[.agg u, .int .i64 e]) w := by
  have h2' : tmps[4]?.getD undef = .pointer (some ⟨B, 0, none⟩) := by simpa using h2
  have h5' : tmps[5]?.getD undef = .int .i64 e := by simpa using h5
  have k2 := run_loadVar_row (P := Tryd.prog) w B 26 26 u (0, 0) _ hA Tryd.underlying26 rfl (by rw [su]; kernel_rfl)
  simp [results, hf, h2', h5', asAddr, k2]
theorem row_end {w : World} {B b : Nat} {c0 : Array Value} (h : Below B w w) (_hb : B ≤ b) (c : Array Value) (_hc : w.heap[b]? = some (.cells c0 26 (0, 0))) : Below B w (w.setRow b c) := Twin.row_below h _hb c
theorem row_blk {w : World} {g : Nat} {f : Nat → Int} {t : TypeId} (h : w.heap[g]? = some (.cells (bl f).toArray t (0, 0))) : Row w g 0 128 f :=
  ⟨⟨_, ⟨_, h⟩, fun j hj => by
    rw [Nat.zero_add]
    have := bl_get f hj
    simpa using this⟩⟩
theorem row_rg {w : World} {g : Nat} {f : Nat → Int} (h : Row w g 0 128 f) : w.rangeAt g 0 (bl f) := fun j v hv => by
  have hj : j < 128 := by
    have := (List.getElem?_eq_some_iff.1 hv).1
    rwa [bl_length] at this
  rw [bl_get f hj] at hv
  injection hv with hv
  subst hv
  exact h.cell hj
/-- the state at each round -/
def TkI (w : World) (b9 : Nat) (G : Int) (D : Nat → Int) (j : Nat) (wr : World) : Prop :=
  Below w.heap.size w wr ∧ b9 < wr.heap.size ∧ Row wr w.heap.size 0 128 D ∧ wr.heap[w.heap.size + 1]? = some (.cells #[.int .i64 0, .slice none 0 0] 26 (0, 0)) ∧ ∃ ao cap, wr.heap[b9]? = some (.cells #[.int .i64 G, .slice ao j cap] 26 (0, 0)) ∧ wr.ownsRow (b9 + 1) 100 2 (.slice ao j cap) j (flat (prV (tkF D) (tkT D)) j)

set_option maxRecDepth 100000 in
set_option maxHeartbeats 4000000 in
theorem take_d (s : Int) (D : Nat → Int) (w : World) (hD : ∀ i, i < 128 → 0 ≤ D i ∧ D i < 256) (hkp : Kp w) : Calls Tryd.prog 12 #[.agg (bl D).toArray, .int .i64 s] w (TkPost w s D) := by
  obtain ⟨W, hW, hB0, hd0, hx0, hs0⟩ : ∃ W, W = (w.alloc (.cells (bl D).toArray 22)).alloc (.cells #[.int .i64 0, .slice none 0 0] 26) ∧ Below w.heap.size w W ∧ Row W w.heap.size 0 128 D ∧ W.heap[w.heap.size + 1]? = some (.cells #[.int .i64 0, .slice none 0 0] 26 (0, 0)) ∧ W.heap.size = w.heap.size + 2 := by
    refine ⟨_, rfl, ((Below.refl _ _).alloc (Nat.le_refl _) _).alloc (by simp) _, row_blk (t := 22) ((Below.heap_alloc _ _ _ (by simp)).trans (heap_alloc_new w _)), ?_, by simp⟩
    have := heap_alloc_new (w.alloc (.cells (bl D).toArray 22)) (.cells #[.int .i64 0, .slice none 0 0] 26)
    rwa [World.size_alloc] at this
  have HS0 := Lib.hid hs0
  clear hs0
  have HK := Lib.hid (fun W (hb : Below w.heap.size w W) => hkp.below hb)
  have HRD := Lib.hid (fun (w' : World) (h : Row w' w.heap.size 0 128 D) (a k : Int) => Wd.take_any w' (some ⟨w.heap.size, 0, none⟩) 128 128 D a k ⟨Nat.le_refl _, (fun e => by cases e), .inr ⟨_, 0, rfl, fun j hj => h.cell hj⟩⟩ hD (by omega))
  have HY := Lib.hid (@tk_y s D)
  have HN := Lib.hid (@tk_n s D)
  have HOK : Hid (tkOk s D = (decide (Wd.takeE 128 1 8 D = 0) && (decide (D 9 ≤ 20) && (decide (putEr s (tkA D) (tkK D) (tkF D) (tkT D) = 0) && eqB 128 (putV s (tkA D) (tkK D) (tkF D) (tkT D)) D)))) := Lib.hid rfl
  have HFT := Lib.hid (fun (i : Nat) => show i64 (tkF D i) ∧ i64 (tkT D i) from by
    have h1 := takeN_bd (n := 128) (a := 10 + 4 * (i : Int)) (k := 2) hD
    have h2 := takeN_bd (n := 128) (a := 12 + 4 * (i : Int)) (k := 2) hD
    unfold i64 tkF tkT
    omega)
  have hk256 := hD 9 (by omega)
  obtain ⟨k, hk9⟩ : ∃ k : Nat, D 9 = k := ⟨(D 9).toNat, by omega⟩
  have hkK : tkK D = k := by unfold tkK; rw [hk9]; omega
  have HFX : Hid (∀ j : Nat, Wd.takeN 128 (10 + 4 * (j : Int)) 2 D = tkF D j) := Lib.hid fun _ => rfl
  have HTX : Hid (∀ j : Nat, Wd.takeN 128 (12 + 4 * (j : Int)) 2 D = tkT D j) := Lib.hid fun _ => rfl
  have hGA := takeN_bd (n := 128) (a := 1) (k := 8) hD
  have HAX : Hid (Wd.takeN 128 1 8 D = tkA D) := Lib.hid rfl
  unfold TkPost
  clear hkp
  go_enter Tryd.func12, Tryd.ntmps12
  go_wp2_with fail
  rw [← hW]
  clear hW
  refine (HRD.out W hd0 1 8).mono ?_
  rintro _ _ ⟨rfl, rfl⟩
  dsimp only
  rw [HAX.out] at hGA ⊢
  have d9 : W.cell? ⟨w.heap.size, 9, none⟩ = some (.int .u8 k) := by
    have := hd0.cell (j := 9) (by omega)
    rwa [Nat.zero_add, hk9] at this
  rw [hkK] at HOK HY
  rw [hk9] at HOK hk256
  generalize tkA D = G at HOK HY hGA ⊢
  generalize Wd.takeE 128 1 8 D = E1 at HOK ⊢
  by_cases e1 : E1 = 0
  · subst e1
    by_cases hk20 : (k : Int) ≤ 20
    · have HOK1 : Hid (tkOk s D = (decide (putEr s G k (tkF D) (tkT D) = 0) && eqB 128 (putV s G k (tkF D) (tkT D)) D)) := Lib.hid (by rw [HOK.out, decide_eq_true hk20]; simp)
      have hk20' : ¬ (20 : Int) < (k : Int) := by omega
      have hkw : IntKind.i64.wrap (k : Int) = k := IntWalk.i64_in _ (by omega)
      clear HOK
      go_wp2_with (refine @wpList_store_row _ _ _ _ _ _ _ rfl 26 (.tmp 9) (.tmp 34) rfl W.heap.size #[.int .i64 G, .slice none 0 0] rfl rfl 26 _ (heap_alloc_new _ _) (by kernel_rfl) rfl (tb_one _ _ _ _) ?_; rw [World.setRow_alloc_new]; simp only [Act.put])
      obtain ⟨b9, hb9⟩ : ∃ b9, b9 = W.heap.size := ⟨_, rfl⟩
      have HI : Hid (TkI w b9 G D 0 (W.alloc (.cells #[.int .i64 G, .slice none 0 0] 26))) := Lib.hid (by
        subst hb9
        have hb : Below W.heap.size W (W.alloc (.cells #[.int .i64 G, .slice none 0 0] 26)) := (Below.refl _ _).alloc (Nat.le_refl _) _
        exact ⟨hB0.trans (hb.mono hB0.size), by simp, hd0.block (hb.block _ (by rw [HS0.out]; omega)), (hb.block _ (by rw [HS0.out]; omega)).trans hx0, none, 0, heap_alloc_new _ _, World.ownsRow_nil _ _ _ _⟩)
      rw [← hb9]
      have hbb : w.heap.size + 1 < b9 := by rw [hb9, HS0.out]; omega
      generalize W.alloc (.cells #[.int .i64 G, .slice none 0 0] 26) = W1 at HI ⊢
      clear hB0 hd0 hx0 hb9 d9 HS0
      clear W
      go_loopw [36] (fun i wr => ∃ j : Nat, j ≤ k ∧ i = .int .i64 j ∧ Hid (TkI w b9 G D j wr)) (fun i _ => k - (intOf i).toNat)
      case atStart => exact ⟨0, by omega, rfl, HI⟩
      case round =>
        clear HI
        obtain ⟨j, hj, rfl, hR⟩ := hrel
        by_cases hlt : j < k
        · have hj0 : (0 : Int) ≤ (j : Int) := by omega
          have hjk : (j : Int) < (k : Int) := by omega
          have hw4 : IntKind.i64.wrap (4 * (j : Int)) = 4 * j := IntWalk.i64_in _ (by omega)
          have hw10 : IntKind.i64.wrap (10 + 4 * (j : Int)) = 10 + 4 * j := IntWalk.i64_in _ (by omega)
          have hw12 : IntKind.i64.wrap (12 + 4 * (j : Int)) = 12 + 4 * j := IntWalk.i64_in _ (by omega)
          have hw2 : IntKind.i64.wrap (10 + 4 * (j : Int) + 2) = 12 + 4 * j := by rw [IntWalk.i64_in _ (by omega)]; omega
          obtain ⟨hBr, hbr, hdr, hxr, ao, cap, htr, hor⟩ := hR.out
          have d9 : wr.cell? ⟨w.heap.size, 9, none⟩ = some (.int .u8 k) := by
            have := hdr.cell (j := 9) (by omega)
            rwa [Nat.zero_add, hk9] at this
          have HT := Lib.hid (HRD.out wr hdr)
          have t1 : wr.cell? ⟨b9, 1, none⟩ = some (.slice ao j cap) := by rw [cell_of_row _ _ _ _ _ _ htr]; rfl
          have t1' : ∀ o, (wr.alloc o).cell? ⟨b9, 1, none⟩ = some (.slice ao j cap) := fun o => (World.cell?_alloc_lt _ _ _ (by show b9 < wr.heap.size; exact hbr)).trans t1
          have HO := Lib.hid hor
          have HC3 := Lib.hid (fun (w3 : World) (hg : (wr.alloc (.cells #[.int .i64 (tkF D j), .int .i64 (tkT D j)] 100)).grownBy w3 (Value.slice ao j cap).ownBlock) => show w3.heap[b9]? = some (.cells #[.int .i64 G, .slice ao j cap] 26 (0, 0)) ∧ w3.heap[w.heap.size + 1]? = some (.cells #[.int .i64 0, .slice none 0 0] 26 (0, 0)) ∧ Row w3 w.heap.size 0 128 D ∧ Below w.heap.size w w3 ∧ b9 < w3.heap.size from by
            have hne : ∀ q, q ≤ b9 → some q ≠ (Value.slice ao j cap).ownBlock := fun q hq e => by
              have := (HO.out.lt q e.symm).1
              omega
            have blk : ∀ q, q ≤ b9 → w3.heap[q]? = wr.heap[q]? := fun q hq => (hg.block q (by simp; omega) (hne q hq)).trans (Below.heap_alloc _ _ _ (by omega))
            exact ⟨(blk _ (by omega)).trans htr, (blk _ (by omega)).trans hxr, hdr.block (blk _ (by omega)), (hBr.alloc hBr.size _).grown hg (by simp; omega) (fun q hq => by have := (HO.out.lt q hq).1; omega), by have := hg.size; simp at this; omega⟩)
          obtain ⟨i0, hi, hz0, hz1, hz2⟩ := info_parts info_pr
          clear hR hBr hdr hxr htr hor
          go_wp2_with fail
          refine (HT.out (10 + 4 * (j : Int)) 2).mono ?_
          rintro _ _ ⟨rfl, rfl⟩
          dsimp only
          go_wp2_with fail
          refine (HT.out (12 + 4 * (j : Int)) 2).mono ?_
          rintro _ _ ⟨rfl, rfl⟩
          dsimp only
          rw [HFX.out, HTX.out]
          generalize Wd.takeE 128 (10 + 4 * (j : Int)) 2 D = X1
          generalize Wd.takeE 128 (12 + 4 * (j : Int)) 2 D = X2
          go_wp2_with (first
            | (at_builtin; go_loud (refine append_lay rfl (.tmp 56) (.tmp 60) 24 100 i0 _ 2 16 rfl slice_pr hi hz0 hz1 hz2 rfl (by omega) (b9 + 1) (.slice ao j cap) (flat (prV (tkF D) (tkT D)) j) j rfl (owns_below HO.out ((Below.refl _ _).alloc (Nat.le_refl _) _)) (wr.heap.size + 1) (wr.heap.size + 1) (some ⟨wr.heap.size, 0, none⟩) 1 1 (fun _ => [.int .i64 (tkF D j), .int .i64 (tkT D j)]) rfl (one_lay wr (tkF D j) (tkT D j)) (fun _ _ => rfl) (fun _ _ => by simp [Value.oneCell']) (maxLen_ge (by omega)) (by omega) (by simp; omega) ?_)
               intro v' w3 hO3 hg3
               obtain ⟨e0, e1, e2, e3, e4⟩ := HC3.out w3 hg3
               obtain ⟨ao3, cap3, rfl⟩ := owns_slice hO3
               have k1 : w3.cell? ⟨b9, 1, none⟩ = some (.slice ao j cap) := by rw [cell_of_row _ _ _ _ _ _ e0]; rfl
               have f1 := frozen_of_row w3 b9 1 _ _ e0
               have HN3 : Hid (TkI w b9 G D (j + 1) (w3.setCell ⟨b9, 1, none⟩ (.slice ao3 (j + 1) cap3))) := Lib.hid (by
                 have hfl : flat (prV (tkF D) (tkT D)) j ++ flat (fun _ => [.int .i64 (tkF D j), .int .i64 (tkT D j)]) 1 = flat (prV (tkF D) (tkT D)) (j + 1) := by
                   have h1 : flat (fun _ : Nat => [.int .i64 (tkF D j), .int .i64 (tkT D j)]) 1 = prV (tkF D) (tkT D) j := by simp [flat, prV]
                   rw [h1, ← flat_succ]
                 rw [hfl] at hO3
                 exact ⟨e3.setCell (by show w.heap.size ≤ b9; omega) _, by simpa using e4, e2.block (Below.heap_setCell _ _ _ _ (by show w.heap.size ≠ b9; omega)), (Below.heap_setCell _ _ _ _ (by show w.heap.size + 1 ≠ b9; omega)).trans e1, ao3, cap3, heap_setCell_same w3 b9 1 #[.int .i64 G, .slice ao j cap] _ _ e0, owns_put hO3 (by omega) 1 _⟩)
               clear e0 e1 e2 e3 e4 hg3 hO3))
          go_roundw
          case rel => exact ⟨j + 1, by omega, by go_num, HN3⟩
          case measure => simp [intOf]; omega
        · obtain rfl : j = k := by omega
          obtain ⟨hBr, hbr, hdr, hxr, ao, cap, htr, hor⟩ := hR.out
          have m0 : wr.cell? ⟨b9, 0, none⟩ = some (.int .i64 G) := by rw [cell_of_row _ _ _ _ _ _ htr]; rfl
          have m1 : wr.cell? ⟨b9, 1, none⟩ = some (.slice ao j cap) := by rw [cell_of_row _ _ _ _ _ _ htr]; rfl
          have d9 : wr.cell? ⟨w.heap.size, 9, none⟩ = some (.int .u8 j) := by
            have := hdr.cell (j := 9) (by omega)
            rwa [Nat.zero_add, hk9] at this
          have hp := put_any s G j (tkF D) (tkT D) ao cap wr.heap.size wr (lay_own (fun i _ => prV_length _ _ i) hor (.inr (Nat.le_refl _))) (by omega) (fun i _ => HFT.out i) (HK.out wr hBr)
          have HP := Lib.hid hp
          clear hp hR
          go_wp2_with fail
          refine HP.out.mono ?_
          rintro _ w4 ⟨rfl, hb4⟩
          have hs4 := hb4.size
          obtain ⟨W5, hW5, hb5, hv5, hs5⟩ : ∃ W5, W5 = w4.alloc (.cells (bl (putV s G j (tkF D) (tkT D))).toArray 22) ∧ Below w4.heap.size w4 W5 ∧ W5.heap[w4.heap.size]? = some (.cells (bl (putV s G j (tkF D) (tkT D))).toArray 22 (0, 0)) ∧ W5.heap.size = w4.heap.size + 1 :=
            ⟨_, rfl, (Below.refl _ _).alloc (Nat.le_refl _) _, heap_alloc_new _ _, by simp⟩
          have hb45 : Below wr.heap.size wr W5 := hb4.trans (hb5.mono hs4)
          have hB5 : Below w.heap.size w W5 := hBr.trans (hb45.mono hBr.size)
          have hx5 := (hb45.block (w.heap.size + 1) (by omega)).trans hxr
          have ht5 := (hb45.block b9 hbr).trans htr
          have hd5 := hdr.block (hb45.block w.heap.size (by omega))
          have ho5 := owns_below hor hb45
          have rv5 := Twin.row_of hv5
          have rd5 : W5.rangeAt w.heap.size 0 (bl D) := row_rg hd5
          have k0 : W5.cell? ⟨b9, 0, none⟩ = some (.int .i64 G) := by rw [cell_of_row _ _ _ _ _ _ ht5]; rfl
          have k1 : W5.cell? ⟨b9, 1, none⟩ = some (.slice ao j cap) := by rw [cell_of_row _ _ _ _ _ _ ht5]; rfl
          clear HP m0 m1 d9 hBr hdr hxr htr hor hb4 hb5 hv5 hb45 ht5 hd5
          generalize putV s G j (tkF D) (tkT D) = V at HOK1 hW5 rv5 ⊢
          generalize putEr s G j (tkF D) (tkT D) = E2 at HOK1 ⊢
          dsimp only
          subst hW5
          by_cases e2 : E2 = 0
          · have HOK2 : Hid (tkOk s D = eqB 128 V D) := Lib.hid (by rw [HOK1.out, decide_eq_true e2]; simp)
            subst e2
            clear HOK1
            cases hq : eqB 128 V D with
            | true =>
              go_wp2_with (first
                | (refine @wpList_store_row _ _ _ _ _ _ _ rfl 22 (.tmp 16) (.tmp 68) rfl w4.heap.size (bl V).toArray rfl rfl 22 _ (heap_alloc_new _ _) (size_bl' _) rfl (bl_all _) ?_; rw [World.setRow_alloc_new]; simp only [Act.put])
                | (refine @wpList_loadG _ _ _ _ _ _ _ (by kernel_rfl) 22 (.tmp 16) rfl w4.heap.size 0 rfl (bl V) _ rv5 undB rfl (size_bl V) ?_; simp only [Act.put, List.setIfInBounds_toArray, List.set_cons_succ, List.set_cons_zero])
                | (refine @wpList_loadG _ _ _ _ _ _ _ (by kernel_rfl) 22 (.tmp 2) rfl w.heap.size 0 rfl (bl D) _ rd5 undB rfl (size_bl D) ?_; simp only [Act.put, List.setIfInBounds_toArray, List.set_cons_succ, List.set_cons_zero])
                | (refine @wpList_neqV _ _ _ _ _ _ _ 22 _ (.tmp 73) (.tmp 74) rfl (by kernel_rfl) (bl V).toArray (bl D).toArray rfl rfl true guardBl (by rw [Eqb.eq_bl, hq]) ?_; simp only [Act.put, List.setIfInBounds_toArray, List.set_cons_succ, List.set_cons_zero])
                | (refine @wpList_store_row _ _ _ _ _ _ _ rfl 26 (.tmp 4) (.tmp 78) rfl (w.heap.size + 1) #[.int .i64 G, .slice ao j cap] rfl rfl 26 _ hx5 (by kernel_rfl) rfl (tb_one _ _ _ _) ?_; simp only [Act.put]))
              have hrz := setRow_heap (w4.alloc (.cells (bl V).toArray 22)) (w.heap.size + 1) _ #[.int .i64 G, .slice ao j cap] 26 (0, 0) hx5
              refine bodyPost_ret (results_tk rfl rfl rfl hrz rfl) rfl ?_
              obtain ⟨g1, g2, g3⟩ := HY.out (by rw [HOK2.out, hq])
              exact ⟨⟨.agg #[.int .i64 G, .slice ao j cap], by rw [g3], by rw [g1, g2]; exact ⟨ao, cap, rfl, Twin.owns_row (owns_mono ho5 (by omega)) hx5 (by decide) _⟩⟩, Twin.row_below hB5 (by omega) _⟩
            | false =>
              go_wp2_with (first
                | (refine @wpList_store_row _ _ _ _ _ _ _ rfl 22 (.tmp 16) (.tmp 68) rfl w4.heap.size (bl V).toArray rfl rfl 22 _ (heap_alloc_new _ _) (size_bl' _) rfl (bl_all _) ?_; rw [World.setRow_alloc_new]; simp only [Act.put])
                | (refine @wpList_loadG _ _ _ _ _ _ _ (by kernel_rfl) 22 (.tmp 16) rfl w4.heap.size 0 rfl (bl V) _ rv5 undB rfl (size_bl V) ?_; simp only [Act.put, List.setIfInBounds_toArray, List.set_cons_succ, List.set_cons_zero])
                | (refine @wpList_loadG _ _ _ _ _ _ _ (by kernel_rfl) 22 (.tmp 2) rfl w.heap.size 0 rfl (bl D) _ rd5 undB rfl (size_bl D) ?_; simp only [Act.put, List.setIfInBounds_toArray, List.set_cons_succ, List.set_cons_zero])
                | (refine @wpList_neqV _ _ _ _ _ _ _ 22 _ (.tmp 73) (.tmp 74) rfl (by kernel_rfl) (bl V).toArray (bl D).toArray rfl rfl false guardBl (by rw [Eqb.eq_bl, hq]) ?_; simp only [Act.put, List.setIfInBounds_toArray, List.set_cons_succ, List.set_cons_zero])
                | (refine @wpList_store_row _ _ _ _ _ _ _ rfl 26 (.tmp 4) (.tmp 77) rfl (w.heap.size + 1) #[.int .i64 0, .slice none 0 0] rfl rfl 26 _ hx5 (by kernel_rfl) rfl (tb_one _ _ _ _) ?_; simp only [Act.put]))
              have hrz := setRow_heap (w4.alloc (.cells (bl V).toArray 22)) (w.heap.size + 1) _ #[.int .i64 0, .slice none 0 0] 26 (0, 0) hx5
              refine bodyPost_ret (results_tk rfl rfl rfl hrz rfl) rfl ?_
              obtain ⟨g1, g2, g3⟩ := HN.out (by rw [HOK2.out, hq]; try simp)
              exact ⟨⟨.agg #[.int .i64 0, .slice none 0 0], by rw [g3], by rw [g1, g2]; exact tab_none _ _ _ _⟩, Twin.row_below hB5 (by omega) _⟩
          · have ne : (E2 == 0) = false := by simpa using e2
            go_wp2_with (first
              | (refine @wpList_store_row _ _ _ _ _ _ _ rfl 22 (.tmp 16) (.tmp 68) rfl w4.heap.size (bl V).toArray rfl rfl 22 _ (heap_alloc_new _ _) (size_bl' _) rfl (bl_all _) ?_; rw [World.setRow_alloc_new]; simp only [Act.put])
              | (refine @wpList_store_row _ _ _ _ _ _ _ rfl 26 (.tmp 4) (.tmp 77) rfl (w.heap.size + 1) #[.int .i64 0, .slice none 0 0] rfl rfl 26 _ hx5 (by kernel_rfl) rfl (tb_one _ _ _ _) ?_; simp only [Act.put]))
            have hrz := setRow_heap (w4.alloc (.cells (bl V).toArray 22)) (w.heap.size + 1) _ #[.int .i64 0, .slice none 0 0] 26 (0, 0) hx5
            refine bodyPost_ret (results_tk rfl rfl rfl hrz rfl) rfl ?_
            obtain ⟨g1, g2, g3⟩ := HN.out (by rw [HOK1.out, decide_eq_false (p := E2 = 0) (by omega)]; try simp)
            exact ⟨⟨.agg #[.int .i64 0, .slice none 0 0], by rw [g3], by rw [g1, g2]; exact tab_none _ _ _ _⟩, Twin.row_below hB5 (by omega) _⟩
    · have hk20' : (20 : Int) < (k : Int) := by omega
      have hkw : IntKind.i64.wrap (k : Int) = k := IntWalk.i64_in _ (by omega)
      have hl1 : w.heap.size + 1 < W.heap.size := by rw [HS0.out]; omega
      go_wp2_with (refine @wpList_store_row _ _ _ _ _ _ _ rfl 26 (.tmp 4) (.tmp 32) rfl (w.heap.size + 1) #[.int .i64 0, .slice none 0 0] rfl rfl 26 _ hx0 (by kernel_rfl) rfl (tb_one _ _ _ _) ?_; simp only [Act.put])
      have hrz := setRow_heap W (w.heap.size + 1) _ #[.int .i64 0, .slice none 0 0] 26 (0, 0) hx0
      refine bodyPost_ret (results_tk rfl rfl rfl hrz rfl) rfl ?_
      obtain ⟨g1, g2, g3⟩ := HN.out (by rw [HOK.out, decide_eq_false (p := (k : Int) ≤ 20) (by omega)]; try simp)
      exact ⟨⟨.agg #[.int .i64 0, .slice none 0 0], by rw [g3], by rw [g1, g2]; exact tab_none _ _ _ _⟩, Twin.row_below hB0 (by omega) _⟩
  · have ne : (E1 == 0) = false := by simpa using e1
    have hkw : IntKind.i64.wrap (k : Int) = k := IntWalk.i64_in _ (by omega)
    have hl1 : w.heap.size + 1 < W.heap.size := by rw [HS0.out]; omega
    go_wp2_with (refine @wpList_store_row _ _ _ _ _ _ _ rfl 26 (.tmp 4) (.tmp 32) rfl (w.heap.size + 1) #[.int .i64 0, .slice none 0 0] rfl rfl 26 _ hx0 (by kernel_rfl) rfl (tb_one _ _ _ _) ?_; simp only [Act.put])
    have hrz := setRow_heap W (w.heap.size + 1) _ #[.int .i64 0, .slice none 0 0] 26 (0, 0) hx0
    refine bodyPost_ret (results_tk rfl rfl rfl hrz rfl) rfl ?_
    obtain ⟨g1, g2, g3⟩ := HN.out (by rw [HOK.out, decide_eq_false (p := E1 = 0) (by omega)]; try simp)
    exact ⟨⟨.agg #[.int .i64 0, .slice none 0 0], by rw [g3], by rw [g1, g2]; exact tab_none _ _ _ _⟩, Twin.row_below hB0 (by omega) _⟩

set_option maxRecDepth 100000 in
set_option maxHeartbeats 4000000 in
theorem reftake_d (s : Int) (D : Nat → Int) (w : World) (hD : ∀ i, i < 128 → 0 ≤ D i ∧ D i < 256) (hkp : Kp w) : Calls Tryd.prog 13 #[.agg (bl D).toArray, .int .i64 s] w (TkPost w s D) := by
  obtain ⟨W, hW, hB0, hd0, hx0, hs0⟩ : ∃ W, W = (w.alloc (.cells (bl D).toArray 22)).alloc (.cells #[.int .i64 0, .slice none 0 0] 26) ∧ Below w.heap.size w W ∧ Row W w.heap.size 0 128 D ∧ W.heap[w.heap.size + 1]? = some (.cells #[.int .i64 0, .slice none 0 0] 26 (0, 0)) ∧ W.heap.size = w.heap.size + 2 := by
    refine ⟨_, rfl, ((Below.refl _ _).alloc (Nat.le_refl _) _).alloc (by simp) _, row_blk (t := 22) ((Below.heap_alloc _ _ _ (by simp)).trans (heap_alloc_new w _)), ?_, by simp⟩
    have := heap_alloc_new (w.alloc (.cells (bl D).toArray 22)) (.cells #[.int .i64 0, .slice none 0 0] 26)
    rwa [World.size_alloc] at this
  have HS0 := Lib.hid hs0
  clear hs0
  have HK := Lib.hid (fun W (hb : Below w.heap.size w W) => hkp.below hb)
  have HRD := Lib.hid (fun (w' : World) (h : Row w' w.heap.size 0 128 D) (a k : Int) => Wd.reftake_any w' (some ⟨w.heap.size, 0, none⟩) 128 128 D a k ⟨Nat.le_refl _, (fun e => by cases e), .inr ⟨_, 0, rfl, fun j hj => h.cell hj⟩⟩ hD (by omega))
  have HY := Lib.hid (@tk_y s D)
  have HN := Lib.hid (@tk_n s D)
  have HOK : Hid (tkOk s D = (decide (Wd.takeE 128 1 8 D = 0) && (decide (D 9 ≤ 20) && (decide (putEr s (tkA D) (tkK D) (tkF D) (tkT D) = 0) && eqB 128 (putV s (tkA D) (tkK D) (tkF D) (tkT D)) D)))) := Lib.hid rfl
  have HFT := Lib.hid (fun (i : Nat) => show i64 (tkF D i) ∧ i64 (tkT D i) from by
    have h1 := takeN_bd (n := 128) (a := 10 + 4 * (i : Int)) (k := 2) hD
    have h2 := takeN_bd (n := 128) (a := 12 + 4 * (i : Int)) (k := 2) hD
    unfold i64 tkF tkT
    omega)
  have hk256 := hD 9 (by omega)
  obtain ⟨k, hk9⟩ : ∃ k : Nat, D 9 = k := ⟨(D 9).toNat, by omega⟩
  have hkK : tkK D = k := by unfold tkK; rw [hk9]; omega
  have HFX : Hid (∀ j : Nat, Wd.takeN 128 (10 + 4 * (j : Int)) 2 D = tkF D j) := Lib.hid fun _ => rfl
  have HTX : Hid (∀ j : Nat, Wd.takeN 128 (12 + 4 * (j : Int)) 2 D = tkT D j) := Lib.hid fun _ => rfl
  have hGA := takeN_bd (n := 128) (a := 1) (k := 8) hD
  have HAX : Hid (Wd.takeN 128 1 8 D = tkA D) := Lib.hid rfl
  unfold TkPost
  clear hkp
  go_enter Tryd.func13, Tryd.ntmps13
  go_wp2_with fail
  rw [← hW]
  clear hW
  refine (HRD.out W hd0 1 8).mono ?_
  rintro _ _ ⟨rfl, rfl⟩
  dsimp only
  rw [HAX.out] at hGA ⊢
  have d9 : W.cell? ⟨w.heap.size, 9, none⟩ = some (.int .u8 k) := by
    have := hd0.cell (j := 9) (by omega)
    rwa [Nat.zero_add, hk9] at this
  rw [hkK] at HOK HY
  rw [hk9] at HOK hk256
  generalize tkA D = G at HOK HY hGA ⊢
  generalize Wd.takeE 128 1 8 D = E1 at HOK ⊢
  by_cases e1 : E1 = 0
  · subst e1
    by_cases hk20 : (k : Int) ≤ 20
    · have HOK1 : Hid (tkOk s D = (decide (putEr s G k (tkF D) (tkT D) = 0) && eqB 128 (putV s G k (tkF D) (tkT D)) D)) := Lib.hid (by rw [HOK.out, decide_eq_true hk20]; simp)
      have hk20' : ¬ (20 : Int) < (k : Int) := by omega
      have hkw : IntKind.i64.wrap (k : Int) = k := IntWalk.i64_in _ (by omega)
      clear HOK
      go_wp2_with (refine @wpList_store_row _ _ _ _ _ _ _ rfl 26 (.tmp 8) (.tmp 29) rfl W.heap.size #[.int .i64 G, .slice none 0 0] rfl rfl 26 _ (heap_alloc_new _ _) (by kernel_rfl) rfl (tb_one _ _ _ _) ?_; rw [World.setRow_alloc_new]; simp only [Act.put])
      obtain ⟨b9, hb9⟩ : ∃ b9, b9 = W.heap.size := ⟨_, rfl⟩
      have HI : Hid (TkI w b9 G D 0 (W.alloc (.cells #[.int .i64 G, .slice none 0 0] 26))) := Lib.hid (by
        subst hb9
        have hb : Below W.heap.size W (W.alloc (.cells #[.int .i64 G, .slice none 0 0] 26)) := (Below.refl _ _).alloc (Nat.le_refl _) _
        exact ⟨hB0.trans (hb.mono hB0.size), by simp, hd0.block (hb.block _ (by rw [HS0.out]; omega)), (hb.block _ (by rw [HS0.out]; omega)).trans hx0, none, 0, heap_alloc_new _ _, World.ownsRow_nil _ _ _ _⟩)
      rw [← hb9]
      have hbb : w.heap.size + 1 < b9 := by rw [hb9, HS0.out]; omega
      generalize W.alloc (.cells #[.int .i64 G, .slice none 0 0] 26) = W1 at HI ⊢
      clear hB0 hd0 hx0 hb9 d9 HS0
      clear W
      go_loopw [9] (fun i wr => ∃ j : Nat, j ≤ k ∧ i = .int .i64 j ∧ Hid (TkI w b9 G D j wr)) (fun i _ => k - (intOf i).toNat)
      case atStart => exact ⟨0, by omega, rfl, HI⟩
      case round =>
        clear HI
        obtain ⟨j, hj, rfl, hR⟩ := hrel
        by_cases hlt : j < k
        · have hj0 : (0 : Int) ≤ (j : Int) := by omega
          have hjk : (j : Int) < (k : Int) := by omega
          have hw4 : IntKind.i64.wrap (4 * (j : Int)) = 4 * j := IntWalk.i64_in _ (by omega)
          have hw10 : IntKind.i64.wrap (10 + 4 * (j : Int)) = 10 + 4 * j := IntWalk.i64_in _ (by omega)
          have hw12 : IntKind.i64.wrap (12 + 4 * (j : Int)) = 12 + 4 * j := IntWalk.i64_in _ (by omega)
          have hw2 : IntKind.i64.wrap (10 + 4 * (j : Int) + 2) = 12 + 4 * j := by rw [IntWalk.i64_in _ (by omega)]; omega
          obtain ⟨hBr, hbr, hdr, hxr, ao, cap, htr, hor⟩ := hR.out
          have d9 : wr.cell? ⟨w.heap.size, 9, none⟩ = some (.int .u8 k) := by
            have := hdr.cell (j := 9) (by omega)
            rwa [Nat.zero_add, hk9] at this
          have HT := Lib.hid (HRD.out wr hdr)
          have t1 : wr.cell? ⟨b9, 1, none⟩ = some (.slice ao j cap) := by rw [cell_of_row _ _ _ _ _ _ htr]; rfl
          have t1' : ∀ o, (wr.alloc o).cell? ⟨b9, 1, none⟩ = some (.slice ao j cap) := fun o => (World.cell?_alloc_lt _ _ _ (by show b9 < wr.heap.size; exact hbr)).trans t1
          have HO := Lib.hid hor
          have HC3 := Lib.hid (fun (w3 : World) (hg : (wr.alloc (.cells #[.int .i64 (tkF D j), .int .i64 (tkT D j)] 100)).grownBy w3 (Value.slice ao j cap).ownBlock) => show w3.heap[b9]? = some (.cells #[.int .i64 G, .slice ao j cap] 26 (0, 0)) ∧ w3.heap[w.heap.size + 1]? = some (.cells #[.int .i64 0, .slice none 0 0] 26 (0, 0)) ∧ Row w3 w.heap.size 0 128 D ∧ Below w.heap.size w w3 ∧ b9 < w3.heap.size from by
            have hne : ∀ q, q ≤ b9 → some q ≠ (Value.slice ao j cap).ownBlock := fun q hq e => by
              have := (HO.out.lt q e.symm).1
              omega
            have blk : ∀ q, q ≤ b9 → w3.heap[q]? = wr.heap[q]? := fun q hq => (hg.block q (by simp; omega) (hne q hq)).trans (Below.heap_alloc _ _ _ (by omega))
            exact ⟨(blk _ (by omega)).trans htr, (blk _ (by omega)).trans hxr, hdr.block (blk _ (by omega)), (hBr.alloc hBr.size _).grown hg (by simp; omega) (fun q hq => by have := (HO.out.lt q hq).1; omega), by have := hg.size; simp at this; omega⟩)
          obtain ⟨i0, hi, hz0, hz1, hz2⟩ := info_parts info_pr
          clear hR hBr hdr hxr htr hor
          go_wp2_with fail
          refine (HT.out (10 + 4 * (j : Int)) 2).mono ?_
          rintro _ _ ⟨rfl, rfl⟩
          dsimp only
          go_wp2_with fail
          refine (HT.out (12 + 4 * (j : Int)) 2).mono ?_
          rintro _ _ ⟨rfl, rfl⟩
          dsimp only
          rw [HFX.out, HTX.out]
          generalize Wd.takeE 128 (10 + 4 * (j : Int)) 2 D = X1
          generalize Wd.takeE 128 (12 + 4 * (j : Int)) 2 D = X2
          go_wp2_with (first
            | (at_builtin; go_loud (refine append_lay rfl (.tmp 54) (.tmp 58) 24 100 i0 _ 2 16 rfl slice_pr hi hz0 hz1 hz2 rfl (by omega) (b9 + 1) (.slice ao j cap) (flat (prV (tkF D) (tkT D)) j) j rfl (owns_below HO.out ((Below.refl _ _).alloc (Nat.le_refl _) _)) (wr.heap.size + 1) (wr.heap.size + 1) (some ⟨wr.heap.size, 0, none⟩) 1 1 (fun _ => [.int .i64 (tkF D j), .int .i64 (tkT D j)]) rfl (one_lay wr (tkF D j) (tkT D j)) (fun _ _ => rfl) (fun _ _ => by simp [Value.oneCell']) (maxLen_ge (by omega)) (by omega) (by simp; omega) ?_)
               intro v' w3 hO3 hg3
               obtain ⟨e0, e1, e2, e3, e4⟩ := HC3.out w3 hg3
               obtain ⟨ao3, cap3, rfl⟩ := owns_slice hO3
               have k1 : w3.cell? ⟨b9, 1, none⟩ = some (.slice ao j cap) := by rw [cell_of_row _ _ _ _ _ _ e0]; rfl
               have f1 := frozen_of_row w3 b9 1 _ _ e0
               have HN3 : Hid (TkI w b9 G D (j + 1) (w3.setCell ⟨b9, 1, none⟩ (.slice ao3 (j + 1) cap3))) := Lib.hid (by
                 have hfl : flat (prV (tkF D) (tkT D)) j ++ flat (fun _ => [.int .i64 (tkF D j), .int .i64 (tkT D j)]) 1 = flat (prV (tkF D) (tkT D)) (j + 1) := by
                   have h1 : flat (fun _ : Nat => [.int .i64 (tkF D j), .int .i64 (tkT D j)]) 1 = prV (tkF D) (tkT D) j := by simp [flat, prV]
                   rw [h1, ← flat_succ]
                 rw [hfl] at hO3
                 exact ⟨e3.setCell (by show w.heap.size ≤ b9; omega) _, by simpa using e4, e2.block (Below.heap_setCell _ _ _ _ (by show w.heap.size ≠ b9; omega)), (Below.heap_setCell _ _ _ _ (by show w.heap.size + 1 ≠ b9; omega)).trans e1, ao3, cap3, heap_setCell_same w3 b9 1 #[.int .i64 G, .slice ao j cap] _ _ e0, owns_put hO3 (by omega) 1 _⟩)
               clear e0 e1 e2 e3 e4 hg3 hO3))
          go_roundw
          case rel => exact ⟨j + 1, by omega, by go_num, HN3⟩
          case measure => simp [intOf]; omega
        · obtain rfl : j = k := by omega
          obtain ⟨hBr, hbr, hdr, hxr, ao, cap, htr, hor⟩ := hR.out
          have m0 : wr.cell? ⟨b9, 0, none⟩ = some (.int .i64 G) := by rw [cell_of_row _ _ _ _ _ _ htr]; rfl
          have m1 : wr.cell? ⟨b9, 1, none⟩ = some (.slice ao j cap) := by rw [cell_of_row _ _ _ _ _ _ htr]; rfl
          have d9 : wr.cell? ⟨w.heap.size, 9, none⟩ = some (.int .u8 j) := by
            have := hdr.cell (j := 9) (by omega)
            rwa [Nat.zero_add, hk9] at this
          have hp := refput_any s G j (tkF D) (tkT D) ao cap wr.heap.size wr (lay_own (fun i _ => prV_length _ _ i) hor (.inr (Nat.le_refl _))) (by omega) (fun i _ => HFT.out i) (HK.out wr hBr).2
          have HP := Lib.hid hp
          clear hp hR
          go_wp2_with fail
          refine HP.out.mono ?_
          rintro _ w4 ⟨rfl, hb4⟩
          have hs4 := hb4.size
          obtain ⟨W5, hW5, hb5, hv5, hs5⟩ : ∃ W5, W5 = w4.alloc (.cells (bl (putV s G j (tkF D) (tkT D))).toArray 22) ∧ Below w4.heap.size w4 W5 ∧ W5.heap[w4.heap.size]? = some (.cells (bl (putV s G j (tkF D) (tkT D))).toArray 22 (0, 0)) ∧ W5.heap.size = w4.heap.size + 1 :=
            ⟨_, rfl, (Below.refl _ _).alloc (Nat.le_refl _) _, heap_alloc_new _ _, by simp⟩
          have hb45 : Below wr.heap.size wr W5 := hb4.trans (hb5.mono hs4)
          have hB5 : Below w.heap.size w W5 := hBr.trans (hb45.mono hBr.size)
          have hx5 := (hb45.block (w.heap.size + 1) (by omega)).trans hxr
          have ht5 := (hb45.block b9 hbr).trans htr
          have hd5 := hdr.block (hb45.block w.heap.size (by omega))
          have ho5 := owns_below hor hb45
          have rv5 := Twin.row_of hv5
          have rd5 : W5.rangeAt w.heap.size 0 (bl D) := row_rg hd5
          have k0 : W5.cell? ⟨b9, 0, none⟩ = some (.int .i64 G) := by rw [cell_of_row _ _ _ _ _ _ ht5]; rfl
          have k1 : W5.cell? ⟨b9, 1, none⟩ = some (.slice ao j cap) := by rw [cell_of_row _ _ _ _ _ _ ht5]; rfl
          clear HP m0 m1 d9 hBr hdr hxr htr hor hb4 hb5 hv5 hb45 ht5 hd5
          generalize putV s G j (tkF D) (tkT D) = V at HOK1 hW5 rv5 ⊢
          generalize putEr s G j (tkF D) (tkT D) = E2 at HOK1 ⊢
          dsimp only
          subst hW5
          by_cases e2 : E2 = 0
          · have HOK2 : Hid (tkOk s D = eqB 128 V D) := Lib.hid (by rw [HOK1.out, decide_eq_true e2]; simp)
            subst e2
            clear HOK1
            cases hq : eqB 128 V D with
            | true =>
              go_wp2_with (first
                | (refine @wpList_store_row _ _ _ _ _ _ _ rfl 22 (.tmp 14) (.tmp 65) rfl w4.heap.size (bl V).toArray rfl rfl 22 _ (heap_alloc_new _ _) (size_bl' _) rfl (bl_all _) ?_; rw [World.setRow_alloc_new]; simp only [Act.put])
                | (refine @wpList_loadG _ _ _ _ _ _ _ (by kernel_rfl) 22 (.tmp 14) rfl w4.heap.size 0 rfl (bl V) _ rv5 undB rfl (size_bl V) ?_; simp only [Act.put, List.setIfInBounds_toArray, List.set_cons_succ, List.set_cons_zero])
                | (refine @wpList_loadG _ _ _ _ _ _ _ (by kernel_rfl) 22 (.tmp 2) rfl w.heap.size 0 rfl (bl D) _ rd5 undB rfl (size_bl D) ?_; simp only [Act.put, List.setIfInBounds_toArray, List.set_cons_succ, List.set_cons_zero])
                | (refine @wpList_neqV _ _ _ _ _ _ _ 22 _ (.tmp 70) (.tmp 71) rfl (by kernel_rfl) (bl V).toArray (bl D).toArray rfl rfl true guardBl (by rw [Eqb.eq_bl, hq]) ?_; simp only [Act.put, List.setIfInBounds_toArray, List.set_cons_succ, List.set_cons_zero])
                | (refine @wpList_store_row _ _ _ _ _ _ _ rfl 26 (.tmp 4) (.tmp 75) rfl (w.heap.size + 1) #[.int .i64 G, .slice ao j cap] rfl rfl 26 _ hx5 (by kernel_rfl) rfl (tb_one _ _ _ _) ?_; simp only [Act.put]))
              have hrz := setRow_heap (w4.alloc (.cells (bl V).toArray 22)) (w.heap.size + 1) _ #[.int .i64 G, .slice ao j cap] 26 (0, 0) hx5
              refine bodyPost_ret (results_tk rfl rfl rfl hrz rfl) rfl ?_
              obtain ⟨g1, g2, g3⟩ := HY.out (by rw [HOK2.out, hq])
              exact ⟨⟨.agg #[.int .i64 G, .slice ao j cap], by rw [g3], by rw [g1, g2]; exact ⟨ao, cap, rfl, Twin.owns_row (owns_mono ho5 (by omega)) hx5 (by decide) _⟩⟩, Twin.row_below hB5 (by omega) _⟩
            | false =>
              go_wp2_with (first
                | (refine @wpList_store_row _ _ _ _ _ _ _ rfl 22 (.tmp 14) (.tmp 65) rfl w4.heap.size (bl V).toArray rfl rfl 22 _ (heap_alloc_new _ _) (size_bl' _) rfl (bl_all _) ?_; rw [World.setRow_alloc_new]; simp only [Act.put])
                | (refine @wpList_loadG _ _ _ _ _ _ _ (by kernel_rfl) 22 (.tmp 14) rfl w4.heap.size 0 rfl (bl V) _ rv5 undB rfl (size_bl V) ?_; simp only [Act.put, List.setIfInBounds_toArray, List.set_cons_succ, List.set_cons_zero])
                | (refine @wpList_loadG _ _ _ _ _ _ _ (by kernel_rfl) 22 (.tmp 2) rfl w.heap.size 0 rfl (bl D) _ rd5 undB rfl (size_bl D) ?_; simp only [Act.put, List.setIfInBounds_toArray, List.set_cons_succ, List.set_cons_zero])
                | (refine @wpList_neqV _ _ _ _ _ _ _ 22 _ (.tmp 70) (.tmp 71) rfl (by kernel_rfl) (bl V).toArray (bl D).toArray rfl rfl false guardBl (by rw [Eqb.eq_bl, hq]) ?_; simp only [Act.put, List.setIfInBounds_toArray, List.set_cons_succ, List.set_cons_zero])
                | (refine @wpList_store_row _ _ _ _ _ _ _ rfl 26 (.tmp 4) (.tmp 74) rfl (w.heap.size + 1) #[.int .i64 0, .slice none 0 0] rfl rfl 26 _ hx5 (by kernel_rfl) rfl (tb_one _ _ _ _) ?_; simp only [Act.put]))
              have hrz := setRow_heap (w4.alloc (.cells (bl V).toArray 22)) (w.heap.size + 1) _ #[.int .i64 0, .slice none 0 0] 26 (0, 0) hx5
              refine bodyPost_ret (results_tk rfl rfl rfl hrz rfl) rfl ?_
              obtain ⟨g1, g2, g3⟩ := HN.out (by rw [HOK2.out, hq]; try simp)
              exact ⟨⟨.agg #[.int .i64 0, .slice none 0 0], by rw [g3], by rw [g1, g2]; exact tab_none _ _ _ _⟩, Twin.row_below hB5 (by omega) _⟩
          · have ne : (E2 == 0) = false := by simpa using e2
            go_wp2_with (first
              | (refine @wpList_store_row _ _ _ _ _ _ _ rfl 22 (.tmp 14) (.tmp 65) rfl w4.heap.size (bl V).toArray rfl rfl 22 _ (heap_alloc_new _ _) (size_bl' _) rfl (bl_all _) ?_; rw [World.setRow_alloc_new]; simp only [Act.put])
              | (refine @wpList_store_row _ _ _ _ _ _ _ rfl 26 (.tmp 4) (.tmp 74) rfl (w.heap.size + 1) #[.int .i64 0, .slice none 0 0] rfl rfl 26 _ hx5 (by kernel_rfl) rfl (tb_one _ _ _ _) ?_; simp only [Act.put]))
            have hrz := setRow_heap (w4.alloc (.cells (bl V).toArray 22)) (w.heap.size + 1) _ #[.int .i64 0, .slice none 0 0] 26 (0, 0) hx5
            refine bodyPost_ret (results_tk rfl rfl rfl hrz rfl) rfl ?_
            obtain ⟨g1, g2, g3⟩ := HN.out (by rw [HOK1.out, decide_eq_false (p := E2 = 0) (by omega)]; try simp)
            exact ⟨⟨.agg #[.int .i64 0, .slice none 0 0], by rw [g3], by rw [g1, g2]; exact tab_none _ _ _ _⟩, Twin.row_below hB5 (by omega) _⟩
    · have hk20' : (20 : Int) < (k : Int) := by omega
      have hkw : IntKind.i64.wrap (k : Int) = k := IntWalk.i64_in _ (by omega)
      have hl1 : w.heap.size + 1 < W.heap.size := by rw [HS0.out]; omega
      go_wp2_with (refine @wpList_store_row _ _ _ _ _ _ _ rfl 26 (.tmp 4) (.tmp 27) rfl (w.heap.size + 1) #[.int .i64 0, .slice none 0 0] rfl rfl 26 _ hx0 (by kernel_rfl) rfl (tb_one _ _ _ _) ?_; simp only [Act.put])
      have hrz := setRow_heap W (w.heap.size + 1) _ #[.int .i64 0, .slice none 0 0] 26 (0, 0) hx0
      refine bodyPost_ret (results_tk rfl rfl rfl hrz rfl) rfl ?_
      obtain ⟨g1, g2, g3⟩ := HN.out (by rw [HOK.out, decide_eq_false (p := (k : Int) ≤ 20) (by omega)]; try simp)
      exact ⟨⟨.agg #[.int .i64 0, .slice none 0 0], by rw [g3], by rw [g1, g2]; exact tab_none _ _ _ _⟩, Twin.row_below hB0 (by omega) _⟩
  · have ne : (E1 == 0) = false := by simpa using e1
    have hkw : IntKind.i64.wrap (k : Int) = k := IntWalk.i64_in _ (by omega)
    have hl1 : w.heap.size + 1 < W.heap.size := by rw [HS0.out]; omega
    go_wp2_with (refine @wpList_store_row _ _ _ _ _ _ _ rfl 26 (.tmp 4) (.tmp 27) rfl (w.heap.size + 1) #[.int .i64 0, .slice none 0 0] rfl rfl 26 _ hx0 (by kernel_rfl) rfl (tb_one _ _ _ _) ?_; simp only [Act.put])
    have hrz := setRow_heap W (w.heap.size + 1) _ #[.int .i64 0, .slice none 0 0] 26 (0, 0) hx0
    refine bodyPost_ret (results_tk rfl rfl rfl hrz rfl) rfl ?_
    obtain ⟨g1, g2, g3⟩ := HN.out (by rw [HOK.out, decide_eq_false (p := E1 = 0) (by omega)]; try simp)
    exact ⟨⟨.agg #[.int .i64 0, .slice none 0 0], by rw [g3], by rw [g1, g2]; exact tab_none _ _ _ _⟩, Twin.row_below hB0 (by omega) _⟩
end Rm
end Go.Proofs.YtllejfnmbpjhaaaDoor
