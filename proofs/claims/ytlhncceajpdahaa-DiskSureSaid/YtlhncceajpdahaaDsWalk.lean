/- DiskSure, walked. -/
import Derived.Test.YtlhncceajpdahaaDsPlay
import Derived.BigRegion
import Derived.Deep.RegionHeld3
import Derived.Deep.RegionLaw
namespace Go.Proofs.Ytlhncceajpdahaa
namespace Dk
open Go.RowKit

attribute [local go_sem] zv29
theorem new_four {w w' : World} {e : Ending} (h : News w 4 e w') : Below w.heap.size w w' ∧ ∃ b, e = .returned (.tuple #[.agg #[.slice (some ⟨b, 0, none⟩) 4 4, .slice none 0 0, .int .i64 (-1), .bool false], .int .i64 0]) ∧ Lay w' w'.heap.size w'.heap.size (some ⟨b, 0, none⟩) 4 4 130 (fun _ => secV sec0) := by
  obtain ⟨h1, h2⟩ := h
  rw [if_pos (by decide)] at h2
  exact ⟨h1, h2⟩
theorem arm_ok {w w' : World} {g : Nat} {e : Ending} {k : Int} (hk : -1 ≤ k) (h : Turns w g (armE 4 0 C0 k) 4 0 S0 C0 (armF 4 0 C0 k (-1)) false e w') : Turns w g 0 4 0 S0 C0 k false e w' := by
  have e0 : armOk 4 0 C0 k = true := by unfold armOk; simp [hk, formedB, inAll]
  unfold armE armF at h
  rw [e0] at h
  exact h
theorem info_u8 : (Try.prog.info? 5).map (fun i => (i.zero, i.size, i.bytes)) = some (some (.int .u8 0), 1, 1) := by kernel_rfl
theorem slice_u8 : Try.prog.underlying 35 = some (.slice 5) := by kernel_rfl
theorem alloc_drew (w : World) (o : Obj) : Below w.heap.size w (w.alloc o).drew := ((Below.refl _ _).alloc (Nat.le_refl _) o).trans ⟨rfl, rfl, rfl, Nat.le_refl _, fun _ _ => rfl⟩
theorem Keeps.fars {w w' : World} {g : Nat} {ka : Option Addr} {kn : Nat} {kf : Nat → Bool} (h : Keeps w w.heap.size w.heap.size ka kn kf) (hb : Below w.heap.size w w') (hg : w.heap.size ≤ g) : Keeps w' w'.heap.size g ka kn kf :=
  h.imp id fun ⟨q, o, e, hq, _, hc⟩ => ⟨q, o, e, by have := hb.size; omega, by omega, fun i hi => (hb.cell (p := ⟨q, o + i, none⟩) hq).trans (hc i hi)⟩
theorem crash_ok {w w' : World} {g m : Nat} {S : Nat → Sec} {C : Nat → Wr} {f : Int} {d : Bool} {e : Ending} {K : Nat → Bool} (hf : formedB 4 m C = true) (h : Turns w g (crE 4 m C) 4 (crM 4 m C) (crS 4 m S C K) C (crF 4 m C f) (crD 4 m C d) e w') : Turns w g 0 4 0 (stS S C K m) C (-1) false e w' := by
  unfold crE crM crS crF crD at h
  rw [hf] at h
  exact h
theorem read_fin {w w' : World} {S : Nat → Sec} {C : Nat → Wr} {k : Nat} {e : Ending} (hk : k < 4) (hr : (S k).noRead = false) (h : Reads w 4 0 S C false (k : Int) e w') : e = .returned (.tuple #[.agg (bl (S k).data).toArray, .int .i64 0]) ∧ Below w.heap.size w w' := by
  have e0 : rdOk 4 0 C (k : Int) = true := by
    have : hasB 4 (k : Int) = true := by simp [hasB]; omega
    unfold rdOk; rw [this]; rfl
  have e1 : rdE 4 0 S C false (k : Int) = 0 := by unfold rdE; rw [e0]; simp [lastW, hr]
  have e2 : rdV 4 0 S C false (k : Int) = (S k).data := by unfold rdV; rw [e1]; simp [lastW]
  unfold Reads at h
  rw [e1, e2] at h
  exact h
theorem drew_is (w : World) : ({ w with drawn := w.drawn + 1 } : World) = w.drew := rfl
theorem start_played {fuse : Int} (h : -1 ≤ fuse) : Played fuse 0 0 S0 C0 fuse false := by
  refine ⟨Nat.le_refl _, rfl, fun _ _ => rfl, fun _ _ => rfl, ?_⟩
  by_cases h0 : fuse < 0
  · exact .inl ⟨h0, by omega, rfl⟩
  · exact .inr (.inl ⟨by omega, by omega, by omega, rfl⟩)
theorem start_kept : Kept 0 S0 C0 (fun _ => []) (fun _ => 0) := ⟨fun _ _ => rfl, fun _ _ => rfl⟩

def AtStep (w0 : World) (g b9 b10 : Nat) (fuse : Int) (i : Nat) (w : World) : Prop :=
  ∃ m S C f d V L Z, Played fuse i m S C f d ∧ Kept m S C L Z ∧ Sure w0 g b9 b10 m S C f d V L Z w

theorem start_sure {w w4 : World} {g : Nat} {fuse : Int} (hB : Below w.heap.size w w4) (hg : w.heap.size ≤ g) (hh : ∃ sa sc ca cc, Has w4 g sa ca 4 sc 0 cc S0 C0 fuse false) :
    Sure w g w4.heap.size (w4.heap.size + 1) 0 S0 C0 fuse false (fun _ => .slice none 0 0) (fun _ => []) (fun _ => 0) ((w4.alloc (.cells #[.int .u8 0, .int .u8 0, .int .u8 0, .int .u8 0] 34)).alloc (.cells #[.slice none 0 0, .slice none 0 0, .slice none 0 0, .slice none 0 0] 36)) := by
  obtain ⟨sa, sc, ca, cc, hh⟩ := hh
  have hb : Below w4.heap.size w4 ((w4.alloc (.cells #[.int .u8 0, .int .u8 0, .int .u8 0, .int .u8 0] 34)).alloc (.cells #[.slice none 0 0, .slice none 0 0, .slice none 0 0, .slice none 0 0] 36)) := ((Below.refl _ _).alloc (Nat.le_refl _) _).alloc (by simp) _
  have hgl := hh.bx.lt
  refine ⟨⟨sa, sc, ca, cc, hh.below hb⟩, (Below.heap_alloc _ _ _ (by simp)).trans (heap_alloc_new w4 _), ?_, fun _ _ => OwnB.Own.nil _ _ _, fun _ _ _ _ _ => .inl rfl, hB.trans (hb.mono hB.size), hg, hgl, by omega⟩
  have := heap_alloc_new (w4.alloc (.cells #[.int .u8 0, .int .u8 0, .int .u8 0, .int .u8 0] 34)) (.cells #[.slice none 0 0, .slice none 0 0, .slice none 0 0, .slice none 0 0] 36)
  rwa [World.size_alloc] at this

/-- while a flush is noted -/
def Noting (w0 : World) (g b9 b10 : Nat) (m : Nat) (S S' : Nat → Sec) (C : Nat → Wr) (f : Int) (d : Bool) (k : Nat) (w : World) : Prop :=
  ∃ V L Z, Sure w0 g b9 b10 0 S' C f d V L Z w ∧ ∀ j, j < 4 → if j < k then Z j = (S' j).data 0 ∧ L j = [] else Z j = (S j).data 0 ∧ L j = lat C j m

theorem Noting.start {w0 : World} {g b9 b10 m : Nat} {S S' : Nat → Sec} {C : Nat → Wr} {f : Int} {d : Bool} {V : Nat → Value} {L : Nat → List Int} {Z : Nat → Int} {w : World} (hK : Kept m S C L Z) (h : Sure w0 g b9 b10 0 S' C f d V L Z w) : Noting w0 g b9 b10 m S S' C f d 0 w :=
  ⟨V, L, Z, h, fun j hj => by rw [if_neg (by omega)]; exact ⟨hK.hz j hj, hK.hl j hj⟩⟩
theorem Noting.done {w0 : World} {g b9 b10 m i : Nat} {S S' : Nat → Sec} {C : Nat → Wr} {f fuse : Int} {d : Bool} {w : World} (h : Noting w0 g b9 b10 m S S' C f d 4 w) (hP : Played fuse i 0 S' C f d) : AtStep w0 g b9 b10 fuse i w := by
  obtain ⟨V, L, Z, hS, hq⟩ := h
  refine ⟨0, S', C, f, d, V, L, Z, hP, ⟨fun k hk => ?_, fun k hk => ?_⟩, hS⟩
  · have := hq k hk; rw [if_pos hk] at this; exact this.1
  · have := hq k hk; rw [if_pos hk] at this; exact this.2
/-- the k-th list is noted: it was empty -/
theorem Noting.empty {w0 : World} {g b9 b10 m k : Nat} {S S' : Nat → Sec} {C : Nat → Wr} {f : Int} {d : Bool} {V : Nat → Value} {L : Nat → List Int} {Z : Nat → Int} {w : World} (hS : Sure w0 g b9 b10 0 S' C f d V L Z w) (hq : ∀ j, j < 4 → if j < k then Z j = (S' j).data 0 ∧ L j = [] else Z j = (S j).data 0 ∧ L j = lat C j m)
    (hk : k < 4) (hl : L k = []) (hs : (S' k).data 0 = lastOr (lat C k m) ((S k).data 0)) : Noting w0 g b9 b10 m S S' C f d (k + 1) (w.setCell ⟨b10, k, none⟩ (.slice none 0 0)) := by
  refine ⟨_, _, _, hS.later k (.slice none 0 0) [] (OwnB.Own.nil _ _ _) (fun _ _ _ => .inl rfl), fun j hj => ?_⟩
  have h1 := hq j hj
  by_cases e : j = k
  · subst e
    rw [if_neg (by omega)] at h1
    rw [if_pos (by omega), if_pos rfl]
    rw [← h1.2, hl, lastOr_nil] at hs
    exact ⟨by rw [hs]; exact h1.1, rfl⟩
  · by_cases e2 : j < k
    · rw [if_pos e2] at h1
      rw [if_pos (by omega), if_neg e]
      exact h1
    · rw [if_neg e2] at h1
      rw [if_neg (by omega), if_neg e]
      exact h1
/-- .. or it had a last byte x -/
theorem Noting.full {w0 : World} {g b9 b10 m k : Nat} {S S' : Nat → Sec} {C : Nat → Wr} {f : Int} {d : Bool} {V : Nat → Value} {L : Nat → List Int} {Z : Nat → Int} {w : World} {x : Int} (hS : Sure w0 g b9 b10 0 S' C f d V L (fun j => if j = k then x else Z j) w) (hq : ∀ j, j < 4 → if j < k then Z j = (S' j).data 0 ∧ L j = [] else Z j = (S j).data 0 ∧ L j = lat C j m)
    (hk : k < 4) (hl : (L k)[(L k).length - 1]? = some x) (hs : (S' k).data 0 = lastOr (lat C k m) ((S k).data 0)) : Noting w0 g b9 b10 m S S' C f d (k + 1) (w.setCell ⟨b10, k, none⟩ (.slice none 0 0)) := by
  refine ⟨_, _, _, hS.later k (.slice none 0 0) [] (OwnB.Own.nil _ _ _) (fun _ _ _ => .inl rfl), fun j hj => ?_⟩
  have h1 := hq j hj
  by_cases e : j = k
  · subst e
    rw [if_neg (by omega)] at h1
    rw [if_pos (by omega), if_pos rfl, if_pos rfl]
    rw [← h1.2, lastOr_at hl] at hs
    exact ⟨hs.symm, rfl⟩
  · by_cases e2 : j < k
    · rw [if_pos e2] at h1
      rw [if_pos (by omega), if_neg e, if_neg e]
      exact h1
    · rw [if_neg e2] at h1
      rw [if_neg (by omega), if_neg e, if_neg e]
      exact h1

set_option maxRecDepth 100000 in
set_option maxHeartbeats 4000000 in
theorem dsure_any (la ka : Option Addr) (ln lc kn kc : Nat) (A D : Nat → Int) (Fl kf : Nat → Bool) (fuse : Int) (w : World) (hl : Lay w w.heap.size w.heap.size la ln lc 3 (fun i => stepV (A i) (D i) (Fl i))) (hA : ∀ i, i < ln → 0 ≤ A i ∧ A i < 256)
    (hln : ln ≤ 140737488355328) (hk : Keeps w w.heap.size w.heap.size ka kn kf) (hkn : kn ≤ 140737488355328) (hf : -9223372036854775808 ≤ fuse ∧ fuse ≤ 9223372036854775807) :
    Calls Try.prog 3 #[.slice la ln lc, .slice ka kn kc, .int .i64 fuse] w fun e w' => e = .returned (.bool true) ∧ Below w.heap.size w w' := by
  have HL := Lib.hid hl
  have HA := Lib.hid hA
  have HK := Lib.hid hk
  clear hl hA hk
  by_cases hbig : 200 < ln
  · have hx : (200 : Int) < (ln : Int) := by omega
    go_enter Try.func3, Try.ntmps3
    go_wp2_with fail
    refine (alive_any w).mono ?_
    rintro _ w1 ⟨rfl, hb1⟩
    dsimp only
    go_wp2_with fail
    go_ret
    exact ⟨rfl, hb1⟩
  by_cases hlow : fuse < -1
  · have hx : ¬ (200 : Int) < (ln : Int) := by omega
    go_enter Try.func3, Try.ntmps3
    go_wp2_with fail
    refine (alive_any w).mono ?_
    rintro _ w1 ⟨rfl, hb1⟩
    dsimp only
    go_wp2_with fail
    go_ret
    exact ⟨rfl, hb1⟩
  have hx : ¬ (200 : Int) < (ln : Int) := by omega
  go_enter Try.func3, Try.ntmps3
  go_wp2_with fail
  refine (alive_any w).mono ?_
  rintro _ w1 ⟨rfl, hb1⟩
  dsimp only
  go_wp2_with fail
  refine (new_any 4 w1).mono ?_
  intro e w2 hn
  obtain ⟨hb2, b, rfl, hlay⟩ := new_four hn
  clear hn
  have hB2 : Below w.heap.size w w2 := hb1.trans (hb2.mono hb1.size)
  dsimp only
  go_wp2_with (refine wpList_store_row rfl 28 (.tmp 7) (.tmp 31) rfl w2.heap.size #[.slice (some ⟨b, 0, none⟩) 4 4, .slice none 0 0, .int .i64 (-1), .bool false] rfl rfl 28 _ (heap_alloc_new w2 _) (by kernel_rfl) rfl (disk_one _ _ _ _ _ _ _ _) ?_; rw [World.setRow_alloc_new]; simp only [Act.put])
  generalize hW3 : w2.alloc (.cells #[.slice (some ⟨b, 0, none⟩) 4 4, .slice none 0 0, .int .i64 (-1), .bool false] 28) = W3
  have hH3 := new_has (k := 4) (by omega) hlay hW3.symm
  have hB3 : Below w.heap.size w W3 := by rw [← hW3]; exact hB2.alloc hB2.size _
  have hg0 := hB2.size
  generalize w2.heap.size = g at hH3 hg0 ⊢
  clear hW3 hlay hB2 hb2 hb1
  refine (arm_any g _ _ 4 4 0 0 S0 C0 (-1) false fuse W3 hH3).mono ?_
  intro e w4 h4
  obtain ⟨rfl, hg4, hH4⟩ := arm_ok (by omega) h4
  have hB4 : Below w.heap.size w w4 := hB3.grown hg4 hB3.size (fun k hk => by injection hk with hk; omega)
  have hS := start_sure hB4 hg0 hH4
  clear h4 hH3 hg4 hB3 hH4
  dsimp only
  go_wp2_with fail
  generalize hW : (w4.alloc (.cells #[.int .u8 0, .int .u8 0, .int .u8 0, .int .u8 0] 34)).alloc (.cells #[.slice none 0 0, .slice none 0 0, .slice none 0 0, .slice none 0 0] 36) = W at hS ⊢
  have h10 := hS.sizes
  have hfar := hS.far
  generalize w4.heap.size = b9 at hS h10 hfar ⊢
  clear hW hB4
  have HST : Hid (AtStep w g b9 (b9 + 1) fuse 0 W) := Lib.hid ⟨0, S0, C0, fuse, false, _, _, _, start_played (by omega), start_kept, hS⟩
  clear hS h10
  go_loopw [11] (fun i wr => ∃ j : Nat, j ≤ ln ∧ i = .int .i64 j ∧ Hid (AtStep w g b9 (b9 + 1) fuse j wr)) (fun i _ => ln - (intOf i).toNat)
  case atStart => exact ⟨0, by omega, rfl, HST⟩
  case round =>
    obtain ⟨j, hj, rfl, hR⟩ := hrel
    by_cases hlt : j < ln
    · obtain ⟨m, S, C, f, d, V, L, Z, hP, hKp, hS⟩ := hR.out
      obtain ⟨sa, sc, ca, cc, hH⟩ := hS.has
      obtain ⟨lb, off, rfl, hlb, _, hrow⟩ := HL.out.rows.resolve_left (by omega)
      have HC := Lib.hid (fun (w' : World) (hw' : Below w.heap.size w w') (r : Nat) (v : Value) (hv : (stepV (A j) (D j) (Fl j))[r]? = some v) => (hw'.cell (p := ⟨lb, off + j * 3 + r, none⟩) hlb).trans (hrow j hlt r v hv))
      have cA : wr.cell? ⟨lb, off + j * 3, none⟩ = some (.int .u8 (A j)) := HC.out wr hS.below 0 _ rfl
      have cD : wr.cell? ⟨lb, off + j * 3 + 1, none⟩ = some (.int .u8 (D j)) := HC.out wr hS.below 1 _ rfl
      have cF : wr.cell? ⟨lb, off + j * 3 + 2, none⟩ = some (.bool (Fl j)) := HC.out wr hS.below 2 _ rfl
      obtain ⟨hA0, hA1⟩ := HA.out j hlt
      have hj0 : (0 : Int) ≤ (j : Int) := by omega
      have hj1 : (j : Int) < (ln : Int) := by omega
      have h63 := hP.f63 hf.2 (by omega)
      clear hrow
      have HSS := Lib.hid hS
      have HPP := Lib.hid hP
      have HKK := Lib.hid hKp
      clear hS hP hKp hR
      cases hfl : Fl j with
      | true =>
        rw [hfl] at cF HC
        clear hfl
        go_wp2_with fail
        refine (flush_any g sa ca 4 sc m cc S C f d wr hH h63).mono ?_
        intro e w5 h5
        clear cA cD cF hH h63 hA0 hA1
        by_cases hd : 0 ≤ fuse ∧ fuse ≤ j
        · obtain ⟨rfl, hg5, f', d', hP5, hH5⟩ := HPP.out.flush_no hd h5
          have HR5 : Hid (AtStep w g b9 (b9 + 1) fuse (j + 1) w5) := Lib.hid ⟨_, _, _, _, _, _, _, _, hP5, HKK.out, HSS.out.turn hg5 hH5⟩
          clear h5 HC hP5 hg5 hH5
          obtain ⟨hd0, hd1⟩ := hd
          dsimp only
          go_wp2_with fail
          go_roundw
          case rel => exact ⟨j + 1, by omega, by go_num, HR5⟩
          case measure => simp [intOf]; omega
        · obtain ⟨rfl, hg5, f', d', hP5, hH5⟩ := HPP.out.flush_ok hd h5
          have hS5 := HSS.out.turn hg5 hH5
          have cF5 : w5.cell? ⟨lb, off + j * 3 + 2, none⟩ = some (.bool true) := HC.out w5 hS5.below 2 _ rfl
          have HST5 := Lib.hid (fun k (hk : k < 4) => st_all (S := S) (k := k) m HPP.out.all)
          have HP5 := Lib.hid hP5
          generalize stS S C (fun _ => true) m = S' at hS5 HST5 HP5
          have HN : Hid (Noting w g b9 (b9 + 1) m S S' C f' d' 0 w5) := Lib.hid (Noting.start HKK.out hS5)
          clear h5 HC hP5 hg5 hH5 hS5
          have hcase : fuse < 0 ∨ (0 ≤ fuse ∧ ↑j < fuse) := by omega
          clear hd
          rcases hcase with h0 | ⟨h0, h1⟩
          all_goals
            dsimp only
            go_wp2_with fail
            go_loopw [14] (fun i wr => ∃ k : Nat, k ≤ 4 ∧ i = .int .i64 k ∧ Hid (Noting w g b9 (b9 + 1) m S S' C f' d' k wr)) (fun i _ => 4 - (intOf i).toNat)
            case atStart => exact ⟨0, by omega, rfl, HN⟩
            case round =>
              clear HN cF5
              obtain ⟨k, hk, rfl, hN⟩ := hrel
              by_cases hk4 : k < 4
              · obtain ⟨V', L', Z', hS6, hq⟩ := hN.out
                have hfr := hS6.late.free k
                have hfr9 := hS6.sure.free k
                have c10 := hS6.late.cell hk4
                have c9 : wr.cell? ⟨b9, k, none⟩ = some (.int .u8 (Z' k)) := hS6.sure.cell hk4
                have hk0 : (0 : Int) ≤ (k : Int) := by omega
                have hk1 : (k : Int) < 4 := by omega
                rcases hS6.own k hk4 with ⟨hv, hl0⟩ | ⟨q, cap, cur, hv, hq0, hq1, hq2, hq3, hq4, hq5, hq6⟩
                · rw [hv] at c10
                  have HE := Lib.hid (Noting.empty hS6 hq hk4 hl0 (HST5.out k hk4))
                  clear hS6 hq hv hl0 hN hfr9 c9
                  go_wp2_with fail
                  generalize wr.setCell ⟨b9 + 1, k, none⟩ (.slice none 0 0) = w7 at HE ⊢
                  go_roundw
                  case rel => exact ⟨k + 1, by omega, by go_num, HE⟩
                  case measure => simp [intOf]; omega
                · rw [hv] at c10
                  cases hn : (L' k).length with
                  | zero =>
                    rw [hn] at c10
                    have HE := Lib.hid (Noting.empty hS6 hq hk4 (List.eq_nil_of_length_eq_zero hn) (HST5.out k hk4))
                    clear hS6 hq hv hN hfr9 c9 hq0 hq1 hq2 hq3 hq4 hq5 hq6 hn
                    go_wp2_with fail
                    generalize wr.setCell ⟨b9 + 1, k, none⟩ (.slice none 0 0) = w7 at HE ⊢
                    go_roundw
                    case rel => exact ⟨k + 1, by omega, by go_num, HE⟩
                    case measure => simp [intOf]; omega
                  | succ n =>
                    obtain ⟨x, hlast'⟩ : ∃ x, (L' k)[n]? = some x := ⟨_, List.getElem?_eq_getElem (by omega)⟩
                    have hlast : (L' k)[(L' k).length - 1]? = some x := by rw [hn, Nat.add_sub_cancel]; exact hlast'
                    have hn47 : n + 1 ≤ 200 := by
                      have h1 := hq k hk4
                      rw [if_neg (Nat.lt_irrefl _)] at h1
                      have h2 := lat_len C k m
                      rw [← h1.2, hn] at h2
                      have := HPP.out.hm
                      omega
                    have cq : wr.cell? ⟨q, n, none⟩ = some (.int .u8 x) := by
                      have := (hS6.own k hk4).cell hv (j := n) hlast'
                      rwa [Nat.zero_add] at this
                    rw [hn] at c10 hq2
                    have hncap : n < cap := by omega
                    have HE := Lib.hid (fun w8 hw8 => Noting.full ((hS6.put k x).more (w' := w8) hw8) hq hk4 hlast (HST5.out k hk4))
                    have HF := Lib.hid (fun w8 hw8 => And.intro (((hS6.put k x).more (w' := w8) hw8).late.free k) (((hS6.put k x).more (w' := w8) hw8).late.cell hk4))
                    have hlt10 := hS6.sizes
                    have HVK := Lib.hid hv
                    clear hS6 hq hv hN hq0 hq1 hq3 hq4 hq5 hq6 hn hlast hlast' hfr
                    go_wp2_with fail
                    go_region
                    have HE8 := Lib.hid (HE.out _ (below_drew _))
                    obtain ⟨fr8, c8⟩ := HF.out _ (below_drew _)
                    rw [drew_is] at HE8 fr8 c8
                    clear HE HF c10 c9 cq hfr9
                    generalize wr.setCell ⟨b9, k, none⟩ (.int .u8 x) = w8 at HE8 fr8 c8 ⊢
                    generalize w8.drew = w9 at HE8 fr8 c8 ⊢
                    rw [HVK.out] at c8
                    go_wp2_with fail
                    generalize w9.setCell ⟨b9 + 1, k, none⟩ (.slice none 0 0) = w7 at HE8 ⊢
                    go_roundw
                    case rel => exact ⟨k + 1, by omega, by go_num, HE8⟩
                    case measure => simp [intOf]; omega
              · obtain rfl : k = 4 := by omega
                have HR5 : Hid (AtStep w g b9 (b9 + 1) fuse (j + 1) wr) := Lib.hid (hN.out.done HP5.out)
                clear hN
                go_wp2_with fail
                go_roundw
                case rel => exact ⟨j + 1, by omega, by go_num, HR5⟩
                case measure => simp [intOf]; omega
      | false =>
        rw [hfl] at cF HC
        clear hfl
        obtain ⟨p, hp⟩ : ∃ p : Nat, A j % 4 = p := ⟨(A j % 4).toNat, by omega⟩
        have hp4 : p < 4 := by omega
        have HPQ := Lib.hid hp
        clear hp
        go_wp2_with (refine wpList_buildTo rfl 41 #[(0, .tmp 64)] rfl _ rfl (bl (one (D j))).toArray (by simp only [List.map_toArray, List.map_cons, List.map_nil]; exact built_one _) ?_; simp only [Act.put, List.setIfInBounds_toArray, List.set_cons_succ, List.set_cons_zero])
        rw [HPQ.out]
        refine (write_any g sa ca 4 sc m cc S C f d p (one (D j)) wr hH h63 (by have := HPP.out.hm; omega)).mono ?_
        intro e w5 h5
        clear cA cD cF hH h63
        by_cases hd : 0 ≤ fuse ∧ fuse ≤ j
        · obtain ⟨rfl, hg5, f', d', hP5, hH5⟩ := HPP.out.write_no hp4 hd h5
          have HR5 : Hid (AtStep w g b9 (b9 + 1) fuse (j + 1) w5) := Lib.hid ⟨_, _, _, _, _, _, _, _, hP5, HKK.out, HSS.out.turn hg5 hH5⟩
          clear h5 HC hP5 hg5 hH5
          obtain ⟨hd0, hd1⟩ := hd
          dsimp only
          go_wp2_with fail
          go_roundw
          case rel => exact ⟨j + 1, by omega, by go_num, HR5⟩
          case measure => simp [intOf]; omega
        · obtain ⟨rfl, hg5, f', d', hP5, hH5⟩ := HPP.out.write_ok hp4 hd h5
          have hS5 := HSS.out.turn hg5 hH5
          have cD : w5.cell? ⟨lb, off + j * 3 + 1, none⟩ = some (.int .u8 (D j)) := HC.out w5 hS5.below 1 _ rfl
          have cF : w5.cell? ⟨lb, off + j * 3 + 2, none⟩ = some (.bool false) := HC.out w5 hS5.below 2 _ rfl
          have c10 := hS5.late.cell hp4
          have f10 := hS5.late.free p
          have h10 := hS5.sizes
          have hlen : (L p).length + 1 ≤ 1000000 := by
            have h1 := HKK.out.hl p hp4
            have h2 := lat_len C p m
            rw [← h1] at h2
            have := HPP.out.hm
            omega
          have HM5 := Lib.hid (fun w' (hw' : Below w5.heap.size w5 w') => hS5.more hw')
          have KB := Lib.hid (fun w' (hw' : Below w5.heap.size w5 w') => show w'.cell? ⟨b9 + 1, p, none⟩ = some (V p) ∧ w'.cell? ⟨lb, off + j * 3 + 1, none⟩ = some (.int .u8 (D j)) ∧ w'.frozen? ⟨b9 + 1, p, none⟩ = false from
            ⟨(hS5.more hw').late.cell hp4, HC.out w' (hS5.more hw').below 1 _ rfl, (hS5.more hw').late.free p⟩)
          have KA := Lib.hid (fun (w' w'' : World) (hw' : Below w5.heap.size w5 w') (hg : w'.grownBy w'' (V p).ownBlock) => show w''.cell? ⟨b9 + 1, p, none⟩ = some (V p) ∧ w''.cell? ⟨lb, off + j * 3 + 1, none⟩ = some (.int .u8 (D j)) ∧ w''.frozen? ⟨b9 + 1, p, none⟩ = false from by
            have hne : ∀ b, b ≤ b9 + 1 → w''.heap[b]? = w'.heap[b]? := by
              intro b hb
              refine hg.block b (by have := hw'.size; omega) fun e => ?_
              have := ((hS5.own p hp4).lt b e.symm).1
              omega
            obtain ⟨k1, k2, k3⟩ := KB.out w' hw'
            exact ⟨(World.cell?_of_block (hne _ (Nat.le_refl _))).trans k1, (World.cell?_of_block (hne _ (by show lb ≤ b9 + 1; omega))).trans k2, (World.frozen?_of_block (hne _ (Nat.le_refl _))).trans k3⟩)
          have HEND := Lib.hid (fun (w' w'' : World) (v6 : Value) (hw' : Below w5.heap.size w5 w') (ho : OwnB.Own w'' (b9 + 1 + 1) 5 v6 (L p ++ [D j])) (hg : w'.grownBy w'' (V p).ownBlock) (hv : v6.ownBlock = (V p).ownBlock ∨ v6.ownBlock = some w'.heap.size) (w8 : World) (hw8 : Below (w''.setCell ⟨b9 + 1, p, none⟩ v6).heap.size (w''.setCell ⟨b9 + 1, p, none⟩ v6) w8) => show AtStep w g b9 (b9 + 1) fuse (j + 1) w8 from
            ⟨_, _, _, _, _, _, _, _, hP5, HKK.out.write (p := p) (D := one (D j)), ((hS5.more hw').appended p hp4 v6 (L p ++ [D j]) ho hg hv).more hw8⟩)
          have hlb9 : lb ≤ b9 + 1 := by omega
          have hpi0 : (0 : Int) ≤ (p : Int) := by omega
          have hpi1 : (p : Int) < 4 := by omega
          obtain ⟨i5, hi5, hz5, hs5, hy5⟩ := info_parts info_u8
          clear h5 HC hP5 hg5 hH5 hS5
          have hcase : fuse < 0 ∨ (0 ≤ fuse ∧ ↑j < fuse) := by omega
          clear hd
          rcases hcase with h0 | ⟨h0, h1⟩
          all_goals
            dsimp only
            go_wp2_with fail
            go_region_law
              ((refine OwnB.step_append (by rfl) (.tmp 88) (.tmp 94) 35 5 (by rfl) (b9 + 1 + 1) i5 slice_u8 hi5 hz5 hs5 hy5 (V p) (L p) (by rfl) (by exact (HM5.out _ (by exact alloc_drew _ _)).own p hp4) w5.heap.size 0 1 (D j) (by rfl) (World.cell?_alloc_new _ _ _ 0) hlen (by simp; omega) ?_; intro v6 w6 hO6 hG6 hv6; obtain ⟨ao6, cap6, rfl⟩ := hO6.slice; obtain ⟨k1, k2, k3⟩ := KA.out _ w6 (by exact alloc_drew _ _) hG6))
            all_goals
              have HR5 : Hid (AtStep w g b9 (b9 + 1) fuse (j + 1) (w6.setCell ⟨b9 + 1, p, none⟩ (.slice ao6 (L p ++ [D j]).length cap6))) := Lib.hid (HEND.out _ w6 _ (alloc_drew _ _) hO6 hG6 hv6 _ (Below.refl _ _))
              rw [List.length_append, List.length_singleton] at HR5
              clear KA KB HEND HM5 hO6 hG6 hv6 k1 k2 k3 c10 f10 cD cF
              generalize w6.setCell ⟨b9 + 1, p, none⟩ (.slice ao6 ((L p).length + 1) cap6) = w7 at HR5 ⊢
              go_wp2_with fail
              go_roundw
              case rel => exact ⟨j + 1, by omega, by go_num, HR5⟩
              case measure => simp [intOf]; omega
    · obtain rfl : j = ln := by omega
      obtain ⟨m, S, C, f, d, V, L, Z, hP, hKp, hS⟩ := hR.out
      obtain ⟨sa, sc, ca, cc, hH⟩ := hS.has
      have HSS := Lib.hid hS
      have HPP := Lib.hid hP
      have HKK := Lib.hid hKp
      have hkp := HK.out.fars hS.below hS.far.1
      clear hS hP hKp hR
      go_wp2_with fail
      refine (crash_any g sa ca 4 sc m cc S C f d ka kn kc kf wr hH hkp hkn).mono ?_
      intro e w5 h5
      obtain ⟨rfl, hg5, hH5⟩ := crash_ok HPP.out.formed h5
      have hS5 := HSS.out.turn hg5 hH5
      have HRD := Lib.hid (fun k (hk : k < 4) => st_read (S := S) (C := C) (K := keepB kn kf) (k := k) (HPP.out.rd k hk) m)
      have HAN : Hid (∀ k, k < 4 → (stS S C (keepB kn kf) m k).data 0 = Z k ∨ (stS S C (keepB kn kf) m k).data 0 ∈ L k) := Lib.hid (fun k hk => by
        rw [HKK.out.hz k hk, HKK.out.hl k hk]
        exact st_any m HPP.out.all)
      generalize stS S C (keepB kn kf) m = S' at hS5 HRD HAN
      have HS5 := Lib.hid hS5
      clear h5 hg5 hH5 hH hkp hS5
      dsimp only
      go_wp2_with fail
      go_loopw [15] (fun i wr => ∃ k : Nat, k ≤ 4 ∧ i = .int .i64 k ∧ Hid (Sure w g b9 (b9 + 1) 0 S' C (-1) false V L Z wr)) (fun i _ => 4 - (intOf i).toNat)
      case atStart => exact ⟨0, by omega, rfl, HS5⟩
      case round =>
        clear HS5
        obtain ⟨k, hk, rfl, hN⟩ := hrel
        by_cases hk4 : k < 4
        · obtain ⟨sa, sc, ca, cc, hH⟩ := hN.out.has
          have hk0 : (0 : Int) ≤ (k : Int) := by omega
          have hk1 : (k : Int) < 4 := by omega
          go_wp2_with fail
          refine (read_any g sa ca 4 sc 0 cc S' C (-1) false k wr hH).mono ?_
          intro e w6 h6
          obtain ⟨rfl, hb6⟩ := read_fin hk4 (HRD.out k hk4) h6
          have hS6 := hN.out.more hb6
          clear h6 hH
          dsimp only
          go_wp2_with (refine wpList_store_row rfl 41 (.tmp 16) (.tmp 130) rfl w6.heap.size (bl (S' k).data).toArray rfl rfl 41 _ (heap_alloc_new w6 _) (size_bl' _) rfl (bl_all _) ?_; rw [World.setRow_alloc_new]; simp only [Act.put])
          have hS7 := hS6.more (w' := w6.alloc (.cells (bl (S' k).data).toArray 41)) ((Below.refl _ _).alloc (Nat.le_refl _) _)
          have c16 : (w6.alloc (.cells (bl (S' k).data).toArray 41)).cell? ⟨w6.heap.size, 0, none⟩ = some (.int .u8 ((S' k).data 0)) := by
            rw [cell_of_row _ _ _ _ _ _ (heap_alloc_new _ _)]
            rfl
          generalize w6.alloc (.cells (bl (S' k).data).toArray 41) = w7 at hS7 c16 ⊢
          have han := HAN.out k hk4
          generalize (S' k).data 0 = x at c16 han
          generalize w6.heap.size = b16 at c16 ⊢
          have c9 : w7.cell? ⟨b9, k, none⟩ = some (.int .u8 (Z k)) := hS7.sure.cell hk4
          have HI : Hid (Sure w g b9 (b9 + 1) 0 S' C (-1) false V L Z w7.drew ∧ w7.drew.cell? ⟨b16, 0, none⟩ = some (.int .u8 x)) := Lib.hid ⟨hS7.more ⟨rfl, rfl, rfl, Nat.le_refl _, fun _ _ => rfl⟩, c16⟩
          clear hN hS6 hS7 hb6
          go_region
          generalize w7.drew = w8 at HI ⊢
          clear c9 c16
          go_wp2_with fail
          have hlen : (L k).length ≤ 200 := by
            rw [HKK.out.hl k hk4]
            have h1 := lat_len C k m
            have := HPP.out.hm
            omega
          go_loopw [18, 19] (fun u i wr => ∃ i' : Nat, i' ≤ (L k).length ∧ i = .int .i64 i' ∧ u = .bool (foundB x (Z k) (L k) i') ∧ Hid (Sure w g b9 (b9 + 1) 0 S' C (-1) false V L Z wr ∧ wr.cell? ⟨b16, 0, none⟩ = some (.int .u8 x))) (fun _ i _ => (L k).length - (intOf i).toNat)
          case atStart => exact ⟨0, by omega, rfl, by rw [found_zero], HI⟩
          case round =>
            clear HI
            obtain ⟨i, hi, rfl, rfl, hI⟩ := hrel
            obtain ⟨hS8, c16⟩ := hI.out
            have c10 := hS8.late.cell hk4
            have hown := hS8.own k hk4
            obtain ⟨ao, cap, hv⟩ := hown.slice
            rw [hv] at c10
            by_cases hlt : i < (L k).length
            · obtain ⟨y, hy⟩ : ∃ y, (L k)[i]? = some y := ⟨_, List.getElem?_eq_getElem hlt⟩
              obtain ⟨q, rfl⟩ : ∃ q, ao = some ⟨q, 0, none⟩ := by
                rcases hown with ⟨h1, h2⟩ | ⟨q, cap', cur, h1, _⟩
                · rw [h2] at hlt; simp at hlt
                · rw [h1] at hv
                  injection hv with h2
                  exact ⟨q, h2.symm⟩
              have cq : wr.cell? ⟨q, i, none⟩ = some (.int .u8 y) := by
                have := hown.cell hv hy
                rwa [Nat.zero_add] at this
              have HNX := Lib.hid (found_succ (x := x) (z := Z k) hy)
              have hi0 : (0 : Int) ≤ (i : Int) := by omega
              have hi1 : (i : Int) < ((L k).length : Int) := by omega
              have hi2 : i < (L k).length := hlt
              have HI : Hid (Sure w g b9 (b9 + 1) 0 S' C (-1) false V L Z wr.drew ∧ wr.drew.cell? ⟨b16, 0, none⟩ = some (.int .u8 x)) := Lib.hid ⟨hS8.more ⟨rfl, rfl, rfl, Nat.le_refl _, fun _ _ => rfl⟩, c16⟩
              clear hS8 hown hv hy hI
              generalize (L k).length = n at hi hi1 hi2 hlt hlen c10 ⊢
              cases hfb : foundB x (Z k) (L k) i with
              | true =>
                rw [hfb] at HNX
                clear hfb
                go_wp2_with fail
                go_region
                all_goals
                  generalize wr.drew = w9 at HI ⊢
                  clear c16 c10 cq
                  go_wp2_with fail
                  go_roundw
                  case rel => exact ⟨i + 1, by omega, by go_num, by rw [HNX.out]; rfl, HI⟩
                  case measure => simp [intOf]; omega
              | false =>
                rw [hfb] at HNX
                clear hfb
                go_wp2_with fail
                go_region
                all_goals
                  generalize wr.drew = w9 at HI ⊢
                  clear c16 c10 cq
                  go_wp2_with fail
                  go_roundw
                  case rel => exact ⟨i + 1, by omega, by go_num, by rw [HNX.out, Bool.false_or], HI⟩
                  case measure => simp [intOf]; omega
            · obtain rfl : i = (L k).length := by omega
              rw [found_all han]
              have HS9 := Lib.hid hS8
              clear hS8 hown hI c16 han hv
              generalize (L k).length = n at hi hlt hlen c10 ⊢
              go_wp2_with fail
              go_roundw
              case rel => exact ⟨k + 1, by omega, by go_num, HS9⟩
              case measure => simp [intOf]; omega
        · obtain rfl : k = 4 := by omega
          have hB := hN.out.below
          clear hN
          go_wp2_with fail
          go_ret
          exact ⟨rfl, hB⟩
end Dk
end Go.Proofs.Ytlhncceajpdahaa
