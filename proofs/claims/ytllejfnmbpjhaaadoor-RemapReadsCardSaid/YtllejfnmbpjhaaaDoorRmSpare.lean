/- remap: writeSpare. -/
import Derived.Test.YtllejfnmbpjhaaaDoorRmLay
import Derived.Test.YtllejfnmbpjhaaaDoorRmRepl
import Derived.Maps.OwnSet
namespace Go.Proofs.YtllejfnmbpjhaaaDoor
set_option maxRecDepth 20000
namespace Rm
open Go.RowKit Dk Byt Go.Maps

attribute [local go_sem] zv29
attribute [local go_sem] zc29
def spS (n : Nat) (k : Nat) (T : Nat → Int) (V : Nat → Int) (X : Dst) : Nat → Dst
  | 0 => X
  | i + 1 => if noneB T ((n : Int) - 20 + i) k then dWr n (spS n k T V X i) ((n : Int) - 20 + i) V else spS n k T V X i
def spC (n : Nat) (k : Nat) (T : Nat → Int) (V : Nat → Int) (X : Dst) (i : Nat) : Int := dWrE n (spS n k T V X i) ((n : Int) - 20 + i)
def stopB (n : Nat) (k : Nat) (T : Nat → Int) (V : Nat → Int) (X : Dst) (i : Nat) : Bool := noneB T ((n : Int) - 20 + i) k && decide (spC n k T V X i ≠ 2)
/-- the first of the first i spare sectors at which the search stops; -1: none -/
def spF (n : Nat) (k : Nat) (T : Nat → Int) (V : Nat → Int) (X : Dst) : Nat → Int
  | 0 => -1
  | i + 1 => if 0 ≤ spF n k T V X i then spF n k T V X i else if stopB n k T V X i then i else -1
def spTo (n : Nat) (k : Nat) (T : Nat → Int) (V : Nat → Int) (X : Dst) : Int := if 0 ≤ spF n k T V X 20 then (n : Int) - 20 + spF n k T V X 20 else 0
def spE (n : Nat) (k : Nat) (T : Nat → Int) (V : Nat → Int) (X : Dst) : Int := if 0 ≤ spF n k T V X 20 then spC n k T V X (spF n k T V X 20).toNat else 17
def spX (n : Nat) (k : Nat) (T : Nat → Int) (V : Nat → Int) (X : Dst) : Dst := if 0 ≤ spF n k T V X 20 then spS n k T V X ((spF n k T V X 20).toNat + 1) else spS n k T V X 20
theorem spF_none {n k : Nat} {T V : Nat → Int} {X : Dst} : ∀ i, (∀ j, j < i → stopB n k T V X j = false) → spF n k T V X i = -1
  | 0, _ => rfl
  | i + 1, h => by
    simp only [spF, spF_none i (fun j hj => h j (by omega)), h i (by omega)]
    simp
theorem spF_at {n k : Nat} {T V : Nat → Int} {X : Dst} {i : Nat} (h : ∀ j, j < i → stopB n k T V X j = false) (hi : stopB n k T V X i = true) : ∀ m, i < m → spF n k T V X m = i
  | 0, h => by omega
  | m + 1, hm => by
    by_cases e : i = m
    · subst e
      simp only [spF, spF_none i h, hi]
      simp
    · simp only [spF, spF_at h hi m (by omega)]
      rw [if_pos (by omega)]
theorem sp_at {n k : Nat} {T V : Nat → Int} {X : Dst} {i : Nat} (h : ∀ j, j < i → stopB n k T V X j = false) (hi : stopB n k T V X i = true) (h20 : i < 20) : spTo n k T V X = (n : Int) - 20 + i ∧ spE n k T V X = spC n k T V X i ∧ spX n k T V X = spS n k T V X (i + 1) := by
  have e := spF_at h hi 20 h20
  unfold spTo spE spX
  rw [e, if_pos (by omega), if_pos (by omega), if_pos (by omega), Int.toNat_natCast]
  exact ⟨rfl, rfl, rfl⟩
theorem sp_none {n k : Nat} {T V : Nat → Int} {X : Dst} (h : ∀ j, j < 20 → stopB n k T V X j = false) : spTo n k T V X = 0 ∧ spE n k T V X = 17 ∧ spX n k T V X = spS n k T V X 20 := by
  have e := spF_none 20 h
  unfold spTo spE spX
  rw [e, if_neg (by omega), if_neg (by omega), if_neg (by omega)]
  exact ⟨rfl, rfl, rfl⟩
theorem spS_ok {n k : Nat} {T V : Nat → Int} {X : Dst} {m : Nat} (h : Ok (20 + m) X) : ∀ i, i ≤ 20 → Ok (20 + m - i) (spS n k T V X i)
  | 0, _ => h
  | i + 1, hi => by
    have := spS_ok (n := n) (k := k) (T := T) (V := V) h i (by omega)
    simp only [spS]
    split
    · rw [show 20 + m - i = (20 + m - (i + 1)) + 1 by omega] at this
      exact this.wr
    · exact this.less (by omega)
theorem zero_unit (w : World) : (zeroValue 148).run Tryd.prog w = .ok (.agg #[]) w := (zero_of_info (P := Tryd.prog) (t := 148) (v := .agg #[]) (n := 0) (by kernel_rfl)).1 w

set_option maxRecDepth 100000 in
set_option maxHeartbeats 4000000 in
theorem spare_d {w : World} {g n : Nat} {X : Dst} {mr : Nat} (h : HasD w g n X) (hok : Ok (20 + mr) X) (hn0 : 28 ≤ n) (hn1 : n ≤ 4096) (gen : Int) (k : Nat) (F T : Nat → Int) (pa : Option Addr) (cap q : Nat) (V : Nat → Int) (hl : Lay w w.heap.size q pa k cap 2 (prV F T)) (hk20 : k ≤ 20) (hF : ∀ i, i < k → i64 (F i) ∧ i64 (T i)) :
    Calls Tryd.prog 56 #[.pointer (some ⟨g, 0, none⟩), .agg #[.int .i64 gen, .slice pa k cap], .agg (bl V).toArray] w fun e w' => e = .returned (.tuple #[.int .i64 (spTo n k T V X), .int .i64 (spE n k T V X)]) ∧ w.grownBy w' (some g) ∧ HasD w' g n (spX n k T V X) := by
  have HD := Lib.hid h
  have HL := Lib.hid hl
  have HFF := Lib.hid hF
  have hgl := h.lt
  have HOK := Lib.hid hok
  have HAT := Lib.hid (fun i a b c => @sp_at n k T V X i a b c)
  have HNO := Lib.hid (@sp_none n k T V X)
  clear h hok hl hF
  generalize spTo n k T V X = RT at HAT HNO ⊢
  generalize spE n k T V X = RE at HAT HNO ⊢
  generalize spX n k T V X = RX at HAT HNO ⊢
  have hl1 := bl_one V
  have hl2 := size_bl V
  have hl3 := bl_length V
  have und := und29
  have hmm := @run_makeMap Tryd.prog
  go_enter Tryd.func56, Tryd.ntmps56
  go_wp2_with fail
  generalize hW : ((w.alloc (.cells #[.int .i64 gen, .slice pa k cap] 26)).alloc (.cells (bl V).toArray 22)).alloc (.map #[] 0) = W
  have hB0 : Below w.heap.size w W := by rw [← hW]; exact (((Below.refl _ _).alloc (Nat.le_refl _) _).alloc (by simp) _).alloc (by simp; omega) _
  have hv0 : W.heap[w.heap.size + 1]? = some (.cells (bl V).toArray 22 (0, 0)) := by
    rw [← hW]
    have := heap_alloc_new (w.alloc (.cells #[.int .i64 gen, .slice pa k cap] 26)) (.cells (bl V).toArray 22)
    rw [World.size_alloc] at this
    exact (Below.heap_alloc _ _ _ (by simp)).trans this
  have hM0 : IsSet W (w.heap.size + 2) T 0 := by
    rw [← hW]
    have := IsSet.made ((w.alloc (.cells #[.int .i64 gen, .slice pa k cap] 26)).alloc (.cells (bl V).toArray 22)) T
    rwa [World.size_alloc, World.size_alloc] at this
  have hs0 : W.heap.size = w.heap.size + 3 := by rw [← hW]; simp
  clear hW
  have HI : Hid (Below (w.heap.size + 2) W W ∧ IsSet W (w.heap.size + 2) T 0) := Lib.hid ⟨Below.refl _ _, hM0⟩
  clear hM0
  go_loopw [20] (fun i wr => ∃ j : Nat, j ≤ k ∧ i = .int .i64 j ∧ Hid (Below (w.heap.size + 2) W wr ∧ IsSet wr (w.heap.size + 2) T j)) (fun i _ => k - (intOf i).toNat)
  case atStart => exact ⟨0, by omega, rfl, HI⟩
  case round =>
    clear HI
    obtain ⟨j, hj, rfl, hR⟩ := hrel
    obtain ⟨hBr, hMr⟩ := hR.out
    have hBw : Below w.heap.size w wr := hB0.trans (hBr.mono (by omega))
    clear hR
    by_cases hlt : j < k
    · obtain ⟨b, off, rfl, hbl, _, hrow⟩ := (HL.out.below hBw).rows.resolve_left (by omega)
      obtain ⟨dF, dT⟩ := pr_cells hrow hlt
      obtain ⟨_, hTj⟩ := HFF.out j hlt
      have hj0 : (0 : Int) ≤ (j : Int) := by omega
      have hjn : (j : Int) < (k : Int) := by omega
      have hj6 : j ≤ 1000000 := by omega
      have HMR := Lib.hid hMr
      have hml := hMr.lt
      have HBr := Lib.hid hBr
      clear hrow hMr hBr
      have hc1 : (wr.alloc (.cells #[.int .i64 (F j), .int .i64 (T j)] 100)).cell? ⟨wr.heap.size, 1, none⟩ = some (.int .i64 (T j)) := by rw [cell_of_row _ _ _ _ _ _ (heap_alloc_new _ _)]; rfl
      have HM2 := Lib.hid (HMR.out.below ((Below.refl _ _).alloc (Nat.le_refl _) (.cells #[.int .i64 (F j), .int .i64 (T j)] 100)))
      go_wp2_with (first
        | (refine wpList_store_row rfl 100 (.tmp 10) (.tmp 23) rfl wr.heap.size #[.int .i64 (F j), .int .i64 (T j)] rfl rfl 100 _ (heap_alloc_new wr _) (by kernel_rfl) rfl (pair_one _ _) ?_; rw [World.setRow_alloc_new]; simp only [Act.put])
        | (at_mapUpdate; refine wpList_add rfl (.tmp 24) (.tmp 26) (.tmp 27) rfl (w.heap.size + 2) j T hj6 rfl HM2.out rfl rfl hTj ?_; intro w5 hN5 hg5))
      have HN : Hid (Below (w.heap.size + 2) W w5 ∧ IsSet w5 (w.heap.size + 2) T (j + 1)) := Lib.hid ⟨(HBr.out.trans (((Below.refl _ _).alloc (Nat.le_refl _) (.cells #[.int .i64 (F j), .int .i64 (T j)] 100)).mono (Nat.le_of_lt hml))).grown hg5 (by simp; omega) (fun q hq => by injection hq with hq; omega), hN5⟩
      clear HM2 HMR HBr hN5 hg5 hc1 dF dT
      go_wp2_with fail
      go_roundw
      case rel => exact ⟨j + 1, by omega, by go_num, HN⟩
      case measure => simp [intOf]; omega
    · obtain rfl : j = k := by omega
      obtain ⟨sa, sc, ca, cc, hH⟩ := HD.out.below hBw
      have c0 := hH.bx.c0
      have hvr := (hBr.block (w.heap.size + 1) (by omega)).trans hv0
      have HI : Hid (w.grownBy wr (some g) ∧ HasD wr g n (spS n j T V X 0) ∧ IsSet wr (w.heap.size + 2) T j ∧ wr.heap[w.heap.size + 1]? = some (.cells (bl V).toArray 22 (0, 0)) ∧ ∀ i, i < 0 → stopB n j T V X i = false) :=
        Lib.hid ⟨only_below hBw, HD.out.below hBw, hMr, hvr, fun i hi => by omega⟩
      clear hBr hMr hBw hvr hv0 hB0 hs0 hH
      go_wp2_with fail
      clear c0
      go_loopw [35] (fun u wr => ∃ i : Nat, i ≤ 20 ∧ u = .int .i64 i ∧ Hid (w.grownBy wr (some g) ∧ HasD wr g n (spS n j T V X i) ∧ IsSet wr (w.heap.size + 2) T j ∧ wr.heap[w.heap.size + 1]? = some (.cells (bl V).toArray 22 (0, 0)) ∧ ∀ i', i' < i → stopB n j T V X i' = false)) (fun i _ => 20 - (intOf i).toNat)
      case atStart => exact ⟨0, by omega, rfl, HI⟩
      case round =>
        clear HI
        obtain ⟨i, hi, rfl, hR⟩ := hrel
        obtain ⟨hG, hD, hM, hv, hz⟩ := hR.out
        have hOKi := spS_ok (n := n) (k := j) (T := T) (V := V) HOK.out i hi
        have hHZ := Lib.hid hz
        have HM := Lib.hid hM
        have HDi := Lib.hid hD
        have HGi := Lib.hid hG
        clear hR hz hM hD hG
        by_cases hlt : i < 20
        · have hi0 : (0 : Int) ≤ (i : Int) := by omega
          have hi1 : (i : Int) < 20 := by omega
          have hn0' : (28 : Int) ≤ (n : Int) := by omega
          have hn1' : (n : Int) ≤ 4096 := by omega
          have hSS : Hid (spS n j T V X (i + 1) = if noneB T ((n : Int) - 20 + i) j then dWr n (spS n j T V X i) ((n : Int) - 20 + i) V else spS n j T V X i) := Lib.hid rfl
          have hST : Hid (stopB n j T V X i = (noneB T ((n : Int) - 20 + i) j && decide (spC n j T V X i ≠ 2))) := Lib.hid rfl
          have hdA : Below wr.heap.size wr (wr.alloc (.cells #[] 148)) := (Below.refl _ _).alloc (Nat.le_refl _) _
          have ltv : w.heap.size + 1 < wr.heap.size := (Array.getElem?_eq_some_iff.1 hv).1
          have hvA := (hdA.block (w.heap.size + 1) ltv).trans hv
          have hrA : (wr.alloc (.cells #[] 148)).rangeAt (w.heap.size + 1) 0 (bl V) := fun j v hj => by rw [cell_of_row _ _ _ _ _ _ hvA, Nat.zero_add]; simpa using hj
          have HGA := Lib.hid (Dk.only_trans HGi.out (only_below hdA))
          have HDA := Lib.hid (HDi.out.below hdA)
          have HMA := Lib.hid (HM.out.below hdA)
          have HVA := Lib.hid hvA
          clear hvA hv
          cases hnb : noneB T ((n : Int) - 20 + i) j with
          | false =>
            have HN : Hid (w.grownBy (wr.alloc (.cells #[] 148)) (some g) ∧ HasD (wr.alloc (.cells #[] 148)) g n (spS n j T V X (i + 1)) ∧ IsSet (wr.alloc (.cells #[] 148)) (w.heap.size + 2) T j ∧ (wr.alloc (.cells #[] 148)).heap[w.heap.size + 1]? = some (.cells (bl V).toArray 22 (0, 0)) ∧ ∀ i', i' < i + 1 → stopB n j T V X i' = false) :=
              Lib.hid ⟨HGA.out, by rw [hSS.out, hnb, if_neg (by simp)]; exact HDA.out, HMA.out, HVA.out, fun i' h => by
                by_cases e : i' = i
                · subst e; rw [hST.out, hnb]; rfl
                · exact hHZ.out i' (by omega)⟩
            have HNB := Lib.hid hnb
            clear hnb hSS hST hHZ hrA HGA HDA HMA HVA hdA
            go_wp2_with (at_lookup; (refine wpList_lookup_own_unit _ rfl (.tmp 39) (.tmp 42) 147 rfl 3 148 key_int map_t (zero_unit _) (w.heap.size + 2) j (setD T j) rfl HM.out (.int .i64 ((n : Int) - 20 + i)) (.int .i64 ((n : Int) - 20 + i)) rfl (key_of (by constructor <;> omega)) ?_); rw [setD_has, HNB.out])
            generalize wr.alloc (.cells #[] 148) = w7 at HN ⊢
            first
              | (go_roundw
                 case rel => exact ⟨i + 1, by omega, by go_num, HN⟩
                 case measure => simp [intOf]; omega)
              | exact ⟨⟨i + 1, by omega, by go_num, HN⟩, by simp [intOf]; omega⟩
          | true =>
            have HNB := Lib.hid hnb
            have HOI : Hid (Ok 1 (spS n j T V X i)) := Lib.hid (hOKi.less (by omega))
            clear hnb
            go_wp2_with (first
              | (at_lookup; (refine wpList_lookup_own_unit _ rfl (.tmp 39) (.tmp 42) 147 rfl 3 148 key_int map_t (zero_unit _) (w.heap.size + 2) j (setD T j) rfl HM.out (.int .i64 ((n : Int) - 20 + i)) (.int .i64 ((n : Int) - 20 + i)) rfl (key_of (by constructor <;> omega)) ?_); rw [setD_has, HNB.out])
              | (refine wpList_load_mid rfl 22 (.tmp 5) rfl (w.heap.size + 1) 0 rfl (bl V) _ (by exact hrA) und rfl hl2 ?_; simp only [Act.put, List.setIfInBounds_toArray, List.set_cons_succ, List.set_cons_zero]))
            generalize wr.alloc (.cells #[] 148) = w6 at HGA HDA HMA HVA hdA hrA ⊢
            refine (write_d HDA.out HOI.out ((n : Int) - 20 + i) V).mono ?_
            rintro _ w7 ⟨rfl, hg7, hD7⟩
            have lt6 : w.heap.size + 1 < w6.heap.size := Nat.lt_of_lt_of_le ltv hdA.size
            have HG7 := Lib.hid (Dk.only_trans HGA.out hg7)
            have HM7 := Lib.hid (HMA.out.kept hg7 (by intro h; injection h with h; omega))
            have HV7 := Lib.hid ((hg7.block (w.heap.size + 1) lt6 (by simp; omega)).trans HVA.out)
            have HD7 : Hid (HasD w7 g n (spS n j T V X (i + 1))) := Lib.hid (by rw [hSS.out, HNB.out, if_pos rfl]; exact hD7)
            have hEc : spC n j T V X i = dWrE n (spS n j T V X i) ((n : Int) - 20 + i) := rfl
            generalize dWrE n (spS n j T V X i) ((n : Int) - 20 + i) = Ec at hEc ⊢
            have HEc := Lib.hid hEc
            clear hEc hg7 hD7 hrA HGA HDA HMA HVA hdA hSS
            dsimp only
            by_cases e2 : Ec = 2
            · have HN : Hid (w.grownBy w7 (some g) ∧ HasD w7 g n (spS n j T V X (i + 1)) ∧ IsSet w7 (w.heap.size + 2) T j ∧ w7.heap[w.heap.size + 1]? = some (.cells (bl V).toArray 22 (0, 0)) ∧ ∀ i', i' < i + 1 → stopB n j T V X i' = false) :=
                Lib.hid ⟨HG7.out, HD7.out, HM7.out, HV7.out, fun i' h => by
                  by_cases e : i' = i
                  · subst e; rw [hST.out, HEc.out, e2]; simp
                  · exact hHZ.out i' (by omega)⟩
              subst e2
              clear hST hHZ HEc HG7 HM7 HV7 HD7
              go_wp2_with fail
              first
                | (go_roundw
                   case rel => exact ⟨i + 1, by omega, by go_num, HN⟩
                   case measure => simp [intOf]; omega)
                | exact ⟨⟨i + 1, by omega, by go_num, HN⟩, by simp [intOf]; omega⟩
            · have ne2 : (Ec == 2) = false := by simpa using e2
              have HR := Lib.hid (HAT.out i hHZ.out (by rw [hST.out, HNB.out, HEc.out]; simpa using e2) hlt)
              clear hST hHZ e2
              go_wp2_with fail
              go_ret2
              exact ⟨by rw [HR.out.1, HR.out.2.1, HEc.out]; rfl, HG7.out, by rw [HR.out.2.2]; exact HD7.out⟩
        · obtain rfl : i = 20 := by omega
          have HR := Lib.hid (HNO.out hHZ.out)
          go_wp2_with fail
          go_ret2
          exact ⟨by rw [HR.out.1, HR.out.2.1]; rfl, HGi.out, by rw [HR.out.2.2]; exact HDi.out⟩
end Rm
end Go.Proofs.YtllejfnmbpjhaaaDoor
