/- remap: the reference's with (made by tools/gen_rwith.py). -/
import Derived.Test.YtllejfnmbpjhaaaGreatDoorRmTab
namespace Go.Proofs.YtllejfnmbpjhaaaGreatDoor
set_option maxRecDepth 20000
namespace Rm
open Go.RowKit Dk Byt

def wiT (F T : Nat → Int) (x to : Int) (i : Nat) : Int := if F i = x then to else T i
theorem none_first {F : Nat → Int} {x : Int} : ∀ {k : Nat}, noneB F x k = false → ∃ j, j < k ∧ noneB F x j = true ∧ F j = x
  | 0, h => by simp [noneB] at h
  | k + 1, h => by
    cases h0 : noneB F x k with
    | false =>
      obtain ⟨j, h1, h2⟩ := none_first h0
      exact ⟨j, by omega, h2⟩
    | true =>
      refine ⟨k, by omega, h0, ?_⟩
      simp only [noneB, h0, Bool.true_and, decide_eq_false_iff_not] at h
      exact Classical.not_not.1 h
theorem wi_some {F T : Nat → Int} {x to : Int} {k : Nat} (hd : distB F k = true) (h : noneB F x k = false) : rpK F k x = k ∧ rpF F k x = F ∧ ∀ i, i < k → rpT F T k x to i = wiT F T x to i := by
  obtain ⟨j, h1, h2, h3⟩ := none_first h
  obtain ⟨e1, e2, e3⟩ := rp_found (F := F) (T := T) (to := to) (find_at h2 h3 h1)
  refine ⟨e1, e2, fun i hi => ?_⟩
  rw [e3]
  unfold wiT
  by_cases e : i = j
  · subst e; rw [if_pos h3]; simp
  · rw [if_neg (fun h4 => (distB_iff.1 hd) i j hi h1 e (h4.trans h3.symm))]; simp [e]
theorem wi_none {F T : Nat → Int} {x to : Int} {k : Nat} (h : noneB F x k = true) : rpK F k x = k + 1 ∧ rpF F k x = (fun i => if i = k then x else F i) ∧ rpT F T k x to = (fun i => if i = k then to else T i) ∧ ∀ i, i < k → wiT F T x to i = T i := by
  have hf : findI F x k = -1 := find_none h
  obtain ⟨e1, e2, e3⟩ := rp_new (F := F) (T := T) (to := to) (x := x) (k := k) (by rw [hf]; omega)
  exact ⟨e1, e2, e3, fun i hi => by unfold wiT; rw [if_neg ((noneB_iff.1 h) i hi)]⟩
theorem new_pair {w w' : World} {a b : Int} (h : w.alloc (.cells #[.int .i64 a, .int .i64 b] 72) = w') : w'.cell? ⟨w.heap.size, 0, none⟩ = some (.int .i64 a) ∧ w'.cell? ⟨w.heap.size, 1, none⟩ = some (.int .i64 b) ∧ w'.frozen? ⟨w.heap.size, 1, none⟩ = false ∧ Below w.heap.size w w' ∧ w'.heap[w.heap.size]? = some (.cells #[.int .i64 a, .int .i64 b] 72 (0, 0)) ∧ w'.heap.size = w.heap.size + 1 := by
  subst h
  have hx := heap_alloc_new w (.cells #[.int .i64 a, .int .i64 b] 72)
  exact ⟨by rw [cell_of_row _ _ _ _ _ _ hx]; rfl, by rw [cell_of_row _ _ _ _ _ _ hx]; rfl, frozen_of_row _ _ _ _ _ hx, (Below.refl _ _).alloc (Nat.le_refl _) _, hx, by simp⟩
def WiI (w : World) (b7 : Nat) (gen : Int) (_K : Nat) (F V : Nat → Int) (pa : Option Addr) (k cap : Nat) (j : Nat) (wr : World) : Prop :=
  Below w.heap.size w wr ∧ b7 < wr.heap.size ∧ wr.heap[w.heap.size]? = some (.cells #[.int .i64 gen, .slice pa k cap] 28 (0, 0)) ∧ wr.heap[w.heap.size + 1]? = some (.cells #[.int .i64 0, .slice none 0 0] 28 (0, 0)) ∧
  ∃ ao c, wr.heap[b7]? = some (.cells #[.int .i64 (gen + 1), .slice ao j c] 28 (0, 0)) ∧ wr.ownsRow (b7 + 1) 72 2 (.slice ao j c) j (flat (prV F V) j)
theorem wi_own {w wr : World} {b7 K k cap j : Nat} {gen : Int} {F V : Nat → Int} {pa ao : Option Addr} {c : Nat} (h : WiI w b7 gen K F V pa k cap j wr) (hx : wr.heap[b7]? = some (.cells #[.int .i64 (gen + 1), .slice ao j c] 28 (0, 0))) : wr.ownsRow (b7 + 1) 72 2 (.slice ao j c) j (flat (prV F V) j) := by
  obtain ⟨_, _, _, _, a, cc, h1, h2⟩ := h
  rw [hx] at h1
  simp only [Option.some.injEq, Obj.cells.injEq, Array.mk.injEq, List.cons.injEq, Value.slice.injEq] at h1
  obtain ⟨⟨_, ⟨rfl, _, rfl⟩, _⟩, _⟩ := h1
  exact h2

set_option maxRecDepth 100000 in
set_option maxHeartbeats 4000000 in
theorem refwith_any (gen : Int) (k : Nat) (F T : Nat → Int) (pa : Option Addr) (cap g : Nat) (x to : Int) (w : World) (hl : Lay w w.heap.size g pa k cap 2 (prV F T)) (hk : k ≤ 1000000) (hg0 : 0 ≤ gen) (hg1 : gen ≤ 4611686018427387904) (hdi : distB F k = true) :
    Calls Tryz.prog 81 #[.agg #[.int .i64 gen, .slice pa k cap], .int .i64 x, .int .i64 to] w fun e w' => (∃ v, e = .returned v ∧ NewTab w' w.heap.size (gen + 1) (rpK F k x) (rpF F k x) (rpT F T k x to) v) ∧ Below w.heap.size w w' := by
  have HL := Lib.hid hl
  have HDI := Lib.hid hdi
  clear hl hdi
  obtain ⟨i0, hi, hz0, hz1, hz2⟩ := info_parts info_pr
  obtain ⟨W, hW, hB0, hx0, hr0, hs0⟩ : ∃ W, W = (w.alloc (.cells #[.int .i64 gen, .slice pa k cap] 28)).alloc (.cells #[.int .i64 0, .slice none 0 0] 28) ∧ Below w.heap.size w W ∧ W.heap[w.heap.size]? = some (.cells #[.int .i64 gen, .slice pa k cap] 28 (0, 0)) ∧ W.heap[w.heap.size + 1]? = some (.cells #[.int .i64 0, .slice none 0 0] 28 (0, 0)) ∧ W.heap.size = w.heap.size + 2 := by
    refine ⟨_, rfl, ((Below.refl _ _).alloc (Nat.le_refl _) _).alloc (by simp) _, (Below.heap_alloc _ _ _ (by simp)).trans (heap_alloc_new w _), ?_, by simp⟩
    have := heap_alloc_new (w.alloc (.cells #[.int .i64 gen, .slice pa k cap] 28)) (.cells #[.int .i64 0, .slice none 0 0] 28)
    rwa [World.size_alloc] at this
  have HS0 := Lib.hid hs0
  clear hs0
  have c0 : W.cell? ⟨w.heap.size, 0, none⟩ = some (.int .i64 gen) := by rw [cell_of_row _ _ _ _ _ _ hx0]; rfl
  have hgw : IntKind.i64.wrap (gen + 1) = gen + 1 := IntWalk.i64_in _ (by omega)
  go_enter Tryz.func81, Tryz.ntmps81
  go_wp2_with (first
    | (rw [← hW]; clear hW)
    | (refine @wpList_store_row _ _ _ _ _ _ _ rfl 28 (.tmp 7) (.tmp 14) rfl W.heap.size #[.int .i64 (gen + 1), .slice none 0 0] rfl rfl 28 _ (heap_alloc_new _ _) (by kernel_rfl) rfl (tb_one _ _ _ _) ?_; rw [World.setRow_alloc_new]; simp only [Act.put]))
  obtain ⟨b7, hb7⟩ : ∃ b7, b7 = W.heap.size := ⟨_, rfl⟩
  have HI : Hid (WiI w b7 gen k F (wiT F T x to) pa k cap 0 (W.alloc (.cells #[.int .i64 (gen + 1), .slice none 0 0] 28))) := Lib.hid (by
    subst hb7
    have hb : Below W.heap.size W (W.alloc (.cells #[.int .i64 (gen + 1), .slice none 0 0] 28)) := (Below.refl _ _).alloc (Nat.le_refl _) _
    exact ⟨hB0.trans (hb.mono hB0.size), by simp, (hb.block _ (by rw [HS0.out]; omega)).trans hx0, (hb.block _ (by rw [HS0.out]; omega)).trans hr0, none, 0, heap_alloc_new _ _, World.ownsRow_nil _ _ _ _⟩)
  rw [← hb7]
  have hbb : w.heap.size + 1 < b7 := by rw [hb7, HS0.out]; omega
  generalize W.alloc (.cells #[.int .i64 (gen + 1), .slice none 0 0] 28) = W1 at HI ⊢
  clear hB0 hx0 hr0 hb7 HS0 c0
  go_loopw [8, 9] (fun f i wr => ∃ j : Nat, j ≤ k ∧ i = .int .i64 j ∧ f = .bool (!noneB F x j) ∧ Hid (WiI w b7 gen k F (wiT F T x to) pa k cap j wr)) (fun _ i _ => k - (intOf i).toNat)
  case atStart => exact ⟨0, by omega, rfl, rfl, HI⟩
  case round =>
    clear HI
    obtain ⟨j, hj, rfl, rfl, hR⟩ := hrel
    obtain ⟨hBr, hbr, qx, q1, ao, c, q7, ho⟩ := hR.out
    have HBp := Lib.hid hBr
    have hOr := Lib.hid ho
    have m1 : wr.cell? ⟨w.heap.size, 1, none⟩ = some (.slice pa k cap) := by rw [cell_of_row _ _ _ _ _ _ qx]; rfl
    have t1 : wr.cell? ⟨b7, 1, none⟩ = some (.slice ao j c) := by rw [cell_of_row _ _ _ _ _ _ q7]; rfl
    by_cases hlt : j < k
    · have hj0 : (0 : Int) ≤ (j : Int) := by omega
      have hjk : (j : Int) < (k : Int) := by omega
      obtain ⟨b, off, hpa, hbl, _, hrow⟩ := (HL.out.below hBr).rows.resolve_left (by omega)
      rw [hpa] at m1
      replace hpa := Lib.hid hpa
      obtain ⟨dF, dT⟩ := pr_cells hrow hlt
      have Q7 := Lib.hid q7
      have QX := Lib.hid qx
      have Q1 := Lib.hid q1
      clear hR hBr ho q7 qx q1 hrow
      by_cases hfx : F j = x
      · subst hfx
        go_wp2_with (first
          | (refine @wpList_store_row _ _ _ _ _ _ _ rfl 72 (.tmp 10) (.tmp 26) rfl wr.heap.size #[.int .i64 (F j), .int .i64 (T j)] rfl rfl 72 _ (heap_alloc_new _ _) (by kernel_rfl) rfl (by simp [Value.oneCell']) ?_; rw [World.setRow_alloc_new]; simp only [Act.put]; generalize hW7 : wr.alloc (.cells #[.int .i64 (F j), .int .i64 (T j)] 72) = w7
             obtain ⟨k0, k1, kf, hb7', hx7, hs7⟩ := new_pair hW7
             have HB7 := Lib.hid hb7'
             have HS7 := Lib.hid hs7
             have hw7 : b7 + 1 ≤ w7.heap.size := by omega
             have s0 : (w7.setCell ⟨wr.heap.size, 1, none⟩ (.int .i64 to)).cell? ⟨wr.heap.size, 0, none⟩ = some (.int .i64 (F j)) := by rw [cell_of_row _ _ _ _ _ _ (heap_setCell_same w7 wr.heap.size 1 _ _ _ hx7)]; rfl
             have s1 : (w7.setCell ⟨wr.heap.size, 1, none⟩ (.int .i64 to)).cell? ⟨wr.heap.size, 1, none⟩ = some (.int .i64 to) := by rw [cell_of_row _ _ _ _ _ _ (heap_setCell_same w7 wr.heap.size 1 _ _ _ hx7)]; rfl
             have QB := Lib.hid (fun q (hq : q ≤ b7) => show (w7.setCell ⟨wr.heap.size, 1, none⟩ (.int .i64 to)).heap[q]? = wr.heap[q]? from (Below.heap_setCell _ _ _ _ (by show q ≠ wr.heap.size; omega)).trans (HB7.out.block q (by omega)))
             have s7 : (w7.setCell ⟨wr.heap.size, 1, none⟩ (.int .i64 to)).cell? ⟨b7, 1, none⟩ = some (.slice ao j c) := (World.cell?_of_block (QB.out b7 (Nat.le_refl _))).trans t1
             clear hW7 hb7' hx7 hs7)
          | (at_builtin
             have HC3 := Lib.hid (fun (w3 : World) (hg : ((w7.setCell ⟨wr.heap.size, 1, none⟩ (.int .i64 to)).alloc (.cells #[.int .i64 (F j), .int .i64 to] 72)).grownBy w3 (Value.slice ao j c).ownBlock) => show w3.heap[b7]? = some (.cells #[.int .i64 (gen + 1), .slice ao j c] 28 (0, 0)) ∧ w3.heap[w.heap.size]? = some (.cells #[.int .i64 gen, .slice pa k cap] 28 (0, 0)) ∧ w3.heap[w.heap.size + 1]? = some (.cells #[.int .i64 0, .slice none 0 0] 28 (0, 0)) ∧ Below w.heap.size w w3 ∧ b7 < w3.heap.size from by
               have q7 := (QB.out b7 (Nat.le_refl _)).trans Q7.out
               have qx := (QB.out w.heap.size (by omega)).trans QX.out
               have q1 := (QB.out (w.heap.size + 1) (by omega)).trans Q1.out
               have h7 := HS7.out
               have hBB : Below w.heap.size w (w7.setCell ⟨wr.heap.size, 1, none⟩ (.int .i64 to)) := ((HBp.out.trans (HB7.out.mono HBp.out.size)).setCell (by show w.heap.size ≤ wr.heap.size; exact HBp.out.size) _)
               have hne : ∀ q, q ≤ b7 → some q ≠ (Value.slice ao j c).ownBlock := fun q hq e => by
                 have := (hOr.out.lt q e.symm).1
                 omega
               have hsz : (w7.setCell ⟨wr.heap.size, 1, none⟩ (.int .i64 to)).heap.size = w7.heap.size := by simp
               have blk : ∀ q, q ≤ b7 → w3.heap[q]? = (w7.setCell ⟨wr.heap.size, 1, none⟩ (.int .i64 to)).heap[q]? := fun q hq => (hg.block q (by simp; omega) (hne q hq)).trans (Below.heap_alloc _ _ _ (by rw [hsz]; omega))
               exact ⟨(blk _ (by omega)).trans q7, (blk _ (by omega)).trans qx, (blk _ (by omega)).trans q1, (hBB.alloc (by rw [hsz]; omega) _).grown hg (by simp; omega) (fun q hq => by have := (hOr.out.lt q hq).1; omega), by have := hg.size; simp at this; omega⟩)
             go_loud (refine append_lay rfl (.tmp 34) (.tmp 36) 26 72 i0 _ 2 16 rfl slice_pr hi hz0 hz1 hz2 rfl (by omega) (b7 + 1) (.slice ao j c) (flat (prV F (wiT F T (F j) to)) j) j rfl (owns_below (owns_below hOr.out (HB7.out.setCell (p := ⟨wr.heap.size, 1, none⟩) (Nat.le_refl _) (.int .i64 to))) ((Below.refl _ _).alloc (Nat.le_refl _) _)) (w7.heap.size + 1) (w7.heap.size + 1) (some ⟨w7.heap.size, 0, none⟩) 1 1 (fun _ => [.int .i64 (F j), .int .i64 to]) rfl (by have h1 := one_lay (w7.setCell ⟨wr.heap.size, 1, none⟩ (.int .i64 to)) (F j) to; rwa [show (w7.setCell ⟨wr.heap.size, 1, none⟩ (.int .i64 to)).heap.size = w7.heap.size by simp] at h1) (fun _ _ => rfl) (fun _ _ => by simp [Value.oneCell']) (maxLen_ge (by omega)) (by omega) (by simp; omega) ?_)
             intro v' w3 hO3 hg3
             obtain ⟨e0, ex, e1, e3, e4⟩ := HC3.out w3 hg3
             obtain ⟨ao3, cap3, rfl⟩ := owns_slice hO3
             have k9 : w3.cell? ⟨b7, 1, none⟩ = some (.slice ao j c) := by rw [cell_of_row _ _ _ _ _ _ e0]; rfl
             have f9 := frozen_of_row w3 b7 1 _ _ e0
             have HN3 : Hid (WiI w b7 gen k F (wiT F T (F j) to) pa k cap (j + 1) (w3.setCell ⟨b7, 1, none⟩ (.slice ao3 (j + 1) cap3))) := Lib.hid (by
               have hfl : flat (prV F (wiT F T (F j) to)) j ++ flat (fun _ => [.int .i64 (F j), .int .i64 to]) 1 = flat (prV F (wiT F T (F j) to)) (j + 1) := by
                 have h1 : flat (fun _ : Nat => [.int .i64 (F j), .int .i64 to]) 1 = prV F (wiT F T (F j) to) j := by simp [flat, prV, wiT]
                 rw [h1, ← flat_succ]
               rw [hfl] at hO3
               exact ⟨e3.setCell (by show w.heap.size ≤ b7; omega) _, by simpa using e4, (Below.heap_setCell _ _ _ _ (by show w.heap.size ≠ b7; omega)).trans ex, (Below.heap_setCell _ _ _ _ (by show w.heap.size + 1 ≠ b7; omega)).trans e1, ao3, cap3, heap_setCell_same w3 b7 1 #[.int .i64 (gen + 1), .slice ao j c] _ _ e0, owns_put hO3 (by omega) 1 _⟩)
             clear e0 ex e1 e3 e4 hg3 hO3))
        go_roundw
        case rel => exact ⟨j + 1, by omega, by go_num, by simp [noneB], HN3⟩
        case measure => simp [intOf]; omega
      · have hfb : (F j == x) = false := by simpa using hfx
        go_wp2_with (first
          | (refine @wpList_store_row _ _ _ _ _ _ _ rfl 72 (.tmp 10) (.tmp 26) rfl wr.heap.size #[.int .i64 (F j), .int .i64 (T j)] rfl rfl 72 _ (heap_alloc_new _ _) (by kernel_rfl) rfl (by simp [Value.oneCell']) ?_; rw [World.setRow_alloc_new]; simp only [Act.put]; generalize hW7 : wr.alloc (.cells #[.int .i64 (F j), .int .i64 (T j)] 72) = w7
             obtain ⟨k0, k1, kf, hb7', hx7, hs7⟩ := new_pair hW7
             have HB7 := Lib.hid hb7'
             have HS7 := Lib.hid hs7
             have hw7 : b7 + 1 ≤ w7.heap.size := by omega
             have QB := Lib.hid (fun q (hq : q ≤ b7) => show w7.heap[q]? = wr.heap[q]? from HB7.out.block q (by omega))
             have s7 : w7.cell? ⟨b7, 1, none⟩ = some (.slice ao j c) := (World.cell?_of_block (QB.out b7 (Nat.le_refl _))).trans t1
             clear hW7 hb7' hx7 hs7)
          | (at_builtin
             have HC3 := Lib.hid (fun (w3 : World) (hg : (w7.alloc (.cells #[.int .i64 (F j), .int .i64 (T j)] 72)).grownBy w3 (Value.slice ao j c).ownBlock) => show w3.heap[b7]? = some (.cells #[.int .i64 (gen + 1), .slice ao j c] 28 (0, 0)) ∧ w3.heap[w.heap.size]? = some (.cells #[.int .i64 gen, .slice pa k cap] 28 (0, 0)) ∧ w3.heap[w.heap.size + 1]? = some (.cells #[.int .i64 0, .slice none 0 0] 28 (0, 0)) ∧ Below w.heap.size w w3 ∧ b7 < w3.heap.size from by
               have q7 := (QB.out b7 (Nat.le_refl _)).trans Q7.out
               have qx := (QB.out w.heap.size (by omega)).trans QX.out
               have q1 := (QB.out (w.heap.size + 1) (by omega)).trans Q1.out
               have h7 := HS7.out
               have hBB : Below w.heap.size w w7 := (HBp.out.trans (HB7.out.mono HBp.out.size))
               have hne : ∀ q, q ≤ b7 → some q ≠ (Value.slice ao j c).ownBlock := fun q hq e => by
                 have := (hOr.out.lt q e.symm).1
                 omega
               have hsz : w7.heap.size = w7.heap.size := by simp
               have blk : ∀ q, q ≤ b7 → w3.heap[q]? = w7.heap[q]? := fun q hq => (hg.block q (by simp; omega) (hne q hq)).trans (Below.heap_alloc _ _ _ (by rw [hsz]; omega))
               exact ⟨(blk _ (by omega)).trans q7, (blk _ (by omega)).trans qx, (blk _ (by omega)).trans q1, (hBB.alloc (by rw [hsz]; omega) _).grown hg (by simp; omega) (fun q hq => by have := (hOr.out.lt q hq).1; omega), by have := hg.size; simp at this; omega⟩)
             go_loud (refine append_lay rfl (.tmp 34) (.tmp 36) 26 72 i0 _ 2 16 rfl slice_pr hi hz0 hz1 hz2 rfl (by omega) (b7 + 1) (.slice ao j c) (flat (prV F (wiT F T x to)) j) j rfl (owns_below (owns_below hOr.out HB7.out) ((Below.refl _ _).alloc (Nat.le_refl _) _)) (w7.heap.size + 1) (w7.heap.size + 1) (some ⟨w7.heap.size, 0, none⟩) 1 1 (fun _ => [.int .i64 (F j), .int .i64 (T j)]) rfl (one_lay w7 (F j) (T j)) (fun _ _ => rfl) (fun _ _ => by simp [Value.oneCell']) (maxLen_ge (by omega)) (by omega) (by simp; omega) ?_)
             intro v' w3 hO3 hg3
             obtain ⟨e0, ex, e1, e3, e4⟩ := HC3.out w3 hg3
             obtain ⟨ao3, cap3, rfl⟩ := owns_slice hO3
             have k9 : w3.cell? ⟨b7, 1, none⟩ = some (.slice ao j c) := by rw [cell_of_row _ _ _ _ _ _ e0]; rfl
             have f9 := frozen_of_row w3 b7 1 _ _ e0
             have HN3 : Hid (WiI w b7 gen k F (wiT F T x to) pa k cap (j + 1) (w3.setCell ⟨b7, 1, none⟩ (.slice ao3 (j + 1) cap3))) := Lib.hid (by
               have hfl : flat (prV F (wiT F T x to)) j ++ flat (fun _ => [.int .i64 (F j), .int .i64 (T j)]) 1 = flat (prV F (wiT F T x to)) (j + 1) := by
                 have h1 : flat (fun _ : Nat => [.int .i64 (F j), .int .i64 (T j)]) 1 = prV F (wiT F T x to) j := by simp [flat, prV, wiT, hfx]
                 rw [h1, ← flat_succ]
               rw [hfl] at hO3
               exact ⟨e3.setCell (by show w.heap.size ≤ b7; omega) _, by simpa using e4, (Below.heap_setCell _ _ _ _ (by show w.heap.size ≠ b7; omega)).trans ex, (Below.heap_setCell _ _ _ _ (by show w.heap.size + 1 ≠ b7; omega)).trans e1, ao3, cap3, heap_setCell_same w3 b7 1 #[.int .i64 (gen + 1), .slice ao j c] _ _ e0, owns_put hO3 (by omega) 1 _⟩)
             clear e0 ex e1 e3 e4 hg3 hO3))
        go_roundw
        case rel => exact ⟨j + 1, by omega, by go_num, by simp [noneB, hfx], HN3⟩
        case measure => simp [intOf]; omega
    · obtain rfl : j = k := by omega
      have t0 : wr.cell? ⟨b7, 0, none⟩ = some (.int .i64 (gen + 1)) := by rw [cell_of_row _ _ _ _ _ _ q7]; rfl
      cases hnb : noneB F x j with
      | false =>
        have HW := Lib.hid (wi_some (T := T) (to := to) HDI.out hnb)
        clear hR hBr ho
        go_wp2_with (refine @wpList_store_row _ _ _ _ _ _ _ rfl 28 (.tmp 6) (.tmp 49) rfl (w.heap.size + 1) #[.int .i64 (gen + 1), .slice ao j c] rfl rfl 28 _ q1 (by kernel_rfl) rfl (tb_one _ _ _ _) ?_; simp only [Act.put])
        have hrz := setRow_heap wr (w.heap.size + 1) _ #[.int .i64 (gen + 1), .slice ao j c] 28 (0, 0) q1
        refine bodyPost_ret (results_rp rfl rfl hrz rfl) rfl ?_
        refine ⟨⟨_, rfl, ao, c, by rw [HW.out.1], ?_⟩, Twin.row_below HBp.out (by omega) _⟩
        rw [HW.out.1, HW.out.2.1, show flat (prV F (rpT F T j x to)) j = flat (prV F (wiT F T x to)) j from flat_congr fun i hi => by unfold prV; rw [HW.out.2.2 i hi]]
        exact Twin.owns_row (owns_mono hOr.out (by omega)) q1 (by decide) _
      | true =>
        have HW := Lib.hid (wi_none (F := F) (T := T) (x := x) (to := to) (k := j) hnb)
        have hw7 : b7 + 1 ≤ wr.heap.size := hbr
        have Q7 := Lib.hid q7
        have QX := Lib.hid qx
        have Q1 := Lib.hid q1
        clear hR hBr ho q7 qx q1
        go_wp2_with (first
          | (at_builtin
             have HC3 := Lib.hid (fun (w3 : World) (hg : (wr.alloc (.cells #[.int .i64 x, .int .i64 to] 72)).grownBy w3 (Value.slice ao j c).ownBlock) => show w3.heap[b7]? = some (.cells #[.int .i64 (gen + 1), .slice ao j c] 28 (0, 0)) ∧ w3.heap[w.heap.size]? = some (.cells #[.int .i64 gen, .slice pa j cap] 28 (0, 0)) ∧ w3.heap[w.heap.size + 1]? = some (.cells #[.int .i64 0, .slice none 0 0] 28 (0, 0)) ∧ Below w.heap.size w w3 ∧ b7 < w3.heap.size from by
               have q7 := Q7.out
               have qx := QX.out
               have q1 := Q1.out
               have hne : ∀ q, q ≤ b7 → some q ≠ (Value.slice ao j c).ownBlock := fun q hq e => by
                 have := (hOr.out.lt q e.symm).1
                 omega
               have hsz : wr.heap.size = wr.heap.size := by simp
               have blk : ∀ q, q ≤ b7 → w3.heap[q]? = wr.heap[q]? := fun q hq => (hg.block q (by simp; omega) (hne q hq)).trans (Below.heap_alloc _ _ _ (by rw [hsz]; omega))
               exact ⟨(blk _ (by omega)).trans q7, (blk _ (by omega)).trans qx, (blk _ (by omega)).trans q1, (HBp.out.alloc (by rw [hsz]; omega) _).grown hg (by simp; omega) (fun q hq => by have := (hOr.out.lt q hq).1; omega), by have := hg.size; simp at this; omega⟩)
             go_loud (refine append_lay rfl (.tmp 42) (.tmp 46) 26 72 i0 _ 2 16 rfl slice_pr hi hz0 hz1 hz2 rfl (by omega) (b7 + 1) (.slice ao j c) (flat (prV F (wiT F T x to)) j) j rfl (owns_below hOr.out ((Below.refl _ _).alloc (Nat.le_refl _) _)) (wr.heap.size + 1) (wr.heap.size + 1) (some ⟨wr.heap.size, 0, none⟩) 1 1 (fun _ => [.int .i64 x, .int .i64 to]) rfl (one_lay wr x to) (fun _ _ => rfl) (fun _ _ => by simp [Value.oneCell']) (maxLen_ge (by omega)) (by omega) (by simp; omega) ?_)
             intro v' w3 hO3 hg3
             obtain ⟨e0, ex, e1, e3, e4⟩ := HC3.out w3 hg3
             obtain ⟨ao3, cap3, rfl⟩ := owns_slice hO3
             have k9 : w3.cell? ⟨b7, 1, none⟩ = some (.slice ao j c) := by rw [cell_of_row _ _ _ _ _ _ e0]; rfl
             have f9 := frozen_of_row w3 b7 1 _ _ e0
             have HN3 : Hid (WiI w b7 gen j (fun i => if i = j then x else F i) (fun i => if i = j then to else T i) pa j cap (j + 1) (w3.setCell ⟨b7, 1, none⟩ (.slice ao3 (j + 1) cap3))) := Lib.hid (by
               have hfl : flat (prV F (wiT F T x to)) j ++ flat (fun _ => [.int .i64 x, .int .i64 to]) 1 = flat (prV (fun i => if i = j then x else F i) (fun i => if i = j then to else T i)) (j + 1) := by
                 have h0 : flat (prV F (wiT F T x to)) j = flat (prV F T) j := flat_congr fun i hi => by unfold prV; rw [HW.out.2.2.2 i hi]
                 rw [h0, flat_new]
               rw [hfl] at hO3
               exact ⟨e3.setCell (by show w.heap.size ≤ b7; omega) _, by simpa using e4, (Below.heap_setCell _ _ _ _ (by show w.heap.size ≠ b7; omega)).trans ex, (Below.heap_setCell _ _ _ _ (by show w.heap.size + 1 ≠ b7; omega)).trans e1, ao3, cap3, heap_setCell_same w3 b7 1 #[.int .i64 (gen + 1), .slice ao j c] _ _ e0, owns_put hO3 (by omega) 1 _⟩)
             have zr := HN3.out.2.2.2.1
             have zb := Lib.hid HN3.out.1
             have hx9 := heap_setCell_same w3 b7 1 #[.int .i64 (gen + 1), .slice ao j c] _ (.slice ao3 (j + 1) cap3) e0
             have z0 : (w3.setCell ⟨b7, 1, none⟩ (.slice ao3 (j + 1) cap3)).cell? ⟨b7, 0, none⟩ = some (.int .i64 (gen + 1)) := by rw [cell_of_row _ _ _ _ _ _ hx9]; rfl
             have z1 : (w3.setCell ⟨b7, 1, none⟩ (.slice ao3 (j + 1) cap3)).cell? ⟨b7, 1, none⟩ = some (.slice ao3 (j + 1) cap3) := by rw [cell_of_row _ _ _ _ _ _ hx9]; rfl
             have zo := Lib.hid (wi_own HN3.out hx9)
             clear hx9
             clear e0 ex e1 e3 e4 hg3 hO3)
          | (refine @wpList_store_row _ _ _ _ _ _ _ rfl 28 (.tmp 6) (.tmp 49) rfl (w.heap.size + 1) #[.int .i64 (gen + 1), .slice ao3 (j + 1) cap3] rfl rfl 28 _ zr (by kernel_rfl) rfl (tb_one _ _ _ _) ?_; simp only [Act.put]))
        have hrz := setRow_heap (w3.setCell ⟨b7, 1, none⟩ (.slice ao3 (j + 1) cap3)) (w.heap.size + 1) _ #[.int .i64 (gen + 1), .slice ao3 (j + 1) cap3] 28 (0, 0) zr
        refine bodyPost_ret (results_rp rfl rfl hrz rfl) rfl ?_
        refine ⟨⟨_, rfl, ao3, cap3, by rw [HW.out.1], ?_⟩, Twin.row_below zb.out (by omega) _⟩
        rw [HW.out.1, HW.out.2.1, HW.out.2.2.1]
        exact Twin.owns_row (owns_mono zo.out (by omega)) zr (by decide) _
end Rm
end Go.Proofs.YtllejfnmbpjhaaaGreatDoor
