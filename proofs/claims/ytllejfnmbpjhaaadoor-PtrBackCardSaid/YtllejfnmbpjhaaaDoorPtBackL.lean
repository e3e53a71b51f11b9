/- PtrBack: the law's walk (made by tools/gen_pback.py). -/
import Derived.Test.YtllejfnmbpjhaaaDoorPtBackM
import Derived.Test.YtllejfnmbpjhaaaDoorPtNodeC
import Derived.Test.YtllejfnmbpjhaaaDoorPtNodesL
namespace Go.Proofs.YtllejfnmbpjhaaaDoor
set_option maxRecDepth 20000
namespace Pt
open Go.RowKit Dk Eqb Byt

theorem ok_bytes {P : Nat → Pn} (h : ∀ i j, j < 32 → 0 ≤ (P i).S j ∧ (P i).S j < 256) : ∀ k n, Bytes (NB n P k) := fun k _ => NB_bytes (fun i _ => h i) k
attribute [local go_sem] zvB zv3 zvP
attribute [local go_sem] zcB zc3
attribute [local irreducible] wpQuiet
set_option maxRecDepth 100000 in
set_option maxHeartbeats 4000000 in
theorem backl_any (n : Nat) (P : Nat → Pn) (pa : Option Addr) (cap g : Nat) (m : Nat) (ao : Option Addr) (c2 : Nat) (xs : List Int) (a : Int) (w : World) (hl : Lay w w.heap.size g pa n cap 34 (fun i => pV (P i))) (hn : n ≤ 140737488355328) (hP : ∀ i, (-9223372036854775808 ≤ (P i).A ∧ (P i).A ≤ 9223372036854775807) ∧ (-9223372036854775808 ≤ (P i).B ∧ (P i).B ≤ 9223372036854775807) ∧ ∀ j, j < 32 → 0 ≤ (P i).S j ∧ (P i).S j < 256)
    (hm : m = xs.length) (hlx : Lies w w.heap.size ao c2 xs) (hx : Byte xs) (hlen : m ≤ 140737488351232) (hk : Kp w) :
    Calls Tryd.prog 8 #[.slice pa n cap, .slice ao m c2, .int .i64 a] w fun e w' => e = .returned (.bool true) ∧ Below w.heap.size w w' := by
  have HK := Lib.hid (fun W (hb : Below w.heap.size w W) => hk.below hb)
  have HL := Lib.hid (fun W (hb : Below w.heap.size w W) => (hl.below hb).more hb.size)
  have HX := Lib.hid (fun W (hb : Below w.heap.size w W) => (hlx.below hb).more hb.size)
  have HM := Lib.hid hm
  have HBY := Lib.hid hx
  have HPK := Lib.hid hP
  have HPJ := Lib.hid (fun W (hb : Below w.heap.size w W) (pb po : Nat) (e : pa = some ⟨pb, po, none⟩) (j : Nat) (hj : j < n) => show W.rangeAt pb (po + j * 34) (pV (P j)) from by
    obtain ⟨b, off, e', _, _, hr⟩ := (hl.below hb).rows.resolve_left (by omega)
    rw [e] at e'
    injection e' with e'
    injection e' with e1 e2
    subst e1 e2
    exact hr j hj)
  have HP0 := Lib.hid (fun W (hb : Below w.heap.size w W) (pb po : Nat) (e : pa = some ⟨pb, po, none⟩) (hn0 : (0 : Int) < n) => show W.rangeAt pb po (pV (P 0)) from by
    have := HPJ.out W hb pb po e 0 (by omega)
    rwa [Nat.zero_mul, Nat.add_zero] at this)
  have HN1 := Lib.hid (fun W (hb : Below w.heap.size w W) => node_any n P pa cap g W ((hl.below hb).more hb.size) hn)
  clear hl hlx hx hP hm
  go_enter Tryd.func8, Tryd.ntmps8
  go_wp2_with fail
  refine (alive5_any w (HK.out w (Below.refl _ _))).mono ?_
  rintro _ w1 ⟨rfl, hb1⟩
  dsimp only
  go_wp2_with fail
  refine (HN1.out w1 hb1).mono ?_
  rintro _ w2 ⟨rfl, hb2⟩
  have hs1 := hb1.size
  have hB2 := hb1.trans (hb2.mono hs1)
  clear hb1 hb2 HN1
  dsimp only
  by_cases hnd : ndOk n P
  · obtain ⟨e1, e2⟩ := nd_yes hnd
    rw [e1, e2]
    have HPT := Lib.hid (fun W => parts_any (NB n P 3) W (ok_bytes (fun i => (HPK.out i).2.2) 3 n))
    rw [(node_parts hnd).1, (node_parts hnd).2] at HPT
    have hn3 : n ≤ 3 := hnd.1
    clear e1 e2 hnd
    generalize NB n P 3 = V at HPT ⊢
    obtain ⟨W3, hW3, hb3, hx3, hs3⟩ := new_bl w2 V
    have hB3 := hB2.trans (hb3.mono hB2.size)
    have hr3 := row_range hx3
    clear hb3 hx3
    subst hW3
    go_wp2_with (first
      | (refine @wpList_store_row _ _ _ _ _ _ _ rfl 22 (.tmp 7) (.tmp 20) rfl w2.heap.size (bl V).toArray rfl rfl 22 _ (heap_alloc_new w2 _) (sizeB _) rfl (allB _) ?_; rw [World.setRow_alloc_new]; simp only [Act.put])
      | (refine @wpList_loadG _ _ _ _ _ _ _ (by kernel_rfl) 22 (.tmp 7) rfl w2.heap.size 0 rfl (bl V) _ hr3 undB rfl (size_bl V) ?_; simp only [Act.put, List.setIfInBounds_toArray, List.set_cons_succ, List.set_cons_zero]))
    generalize w2.alloc (.cells (bl V).toArray 22) = W3 at hr3 hs3 hB3 ⊢
    refine (HPT.out W3).mono ?_
    rintro _ w4 ⟨rfl, hb4⟩
    have hB4 := hB3.trans (hb4.mono hB3.size)
    obtain ⟨W5, hW5, hb5, hz5, hs5⟩ := new_f3 w4 (nP n P)
    have hB5 := hB4.trans (hb5.mono hB4.size)
    have hR5 := R3.new hz5
    clear hb4 hb5 hz5 hr3 HPT
    dsimp only
    subst hW5
    go_wp2_with (first
      | (refine @wpList_store_row _ _ _ _ _ _ _ rfl 66 (.tmp 9) (.tmp 27) rfl w4.heap.size (f3 (nP n P)).toArray rfl rfl 66 _ (heap_alloc_new w4 _) (size3' _) (by rw [List.size_toArray, List.size_toArray, f3_length, f3_length]) (f3_all _) ?_; rw [World.setRow_alloc_new]; simp only [Act.put]))
    generalize w4.alloc (.cells (f3 (nP n P)).toArray 66) = W5 at hR5 hs5 hB5 ⊢
    have hb9 : w4.heap.size < W5.heap.size := by omega
    generalize w4.heap.size = b9 at hR5 hb9 ⊢
    have HR5 := Lib.hid (fun w' (hw' : Below W5.heap.size W5 w') (j : Nat) (hj : j < 3) => show w'.rangeAt b9 (j * 34) (pV (nP n P j)) from by
      rw [Nat.mul_comm]
      exact (hR5.keep (hw'.block b9 hb9)).rg j hj)
    clear hR5 hs5 hB4 hB3 hs3 hB2
    go_loopw [11] (fun i wr => ∃ j : Nat, j ≤ 3 ∧ i = .int .i64 j ∧ Below W5.heap.size W5 wr) (fun i _ => 3 - (intOf i).toNat)
    case atStart => exact ⟨0, by omega, rfl, Below.refl _ _⟩
    case round =>
      obtain ⟨j, hj, rfl, hB⟩ := hrel
      by_cases hlt : j < 3
      · have hj0 : (0 : Int) ≤ (j : Int) := by omega
        have hj3 : (j : Int) < 3 := by omega
        by_cases hjn' : j < n
        · have hjn : (j : Int) < (n : Int) := by omega
          have hjn2 : ¬ (n : Int) ≤ (j : Int) := by omega
          obtain ⟨pb, po, rfl, _, _, _⟩ := (HL.out W5 hB5).rows.resolve_left (by omega)
          have HRP := Lib.hid (fun w' (hw' : Below W5.heap.size W5 w') => HPJ.out w' (hB5.trans (hw'.mono hB5.size)) pb po rfl j hjn')
          have HR9 := Lib.hid (fun w' (hw' : Below W5.heap.size W5 w') => show w'.rangeAt b9 (j * 34) (pV (P j)) from by
            have := HR5.out w' hw' j hlt
            unfold nP at this
            rwa [if_pos hjn'] at this)
          go_wp2_with fail
          refine wp_region_quiet (C := fun w' => Below W5.heap.size W5 w') (by kernel_rfl) (by kernel_rfl) (hB.trans ⟨rfl, rfl, rfl, Nat.le_refl _, fun _ _ => rfl⟩) ?_
          refine q_move _ rfl (by kernel_rfl) ?_
          simp only [Act.put, List.setIfInBounds_toArray, List.set_cons_succ, List.set_cons_zero]
          refine q_move _ rfl (by kernel_rfl) ?_
          simp only [Act.put, List.setIfInBounds_toArray, List.set_cons_succ, List.set_cons_zero]
          refine q_val (.int .i64 n) (by kernel_rfl) (fun w' hw' => by go_simp) ?_
          simp only [Act.put, List.setIfInBounds_toArray, List.set_cons_succ, List.set_cons_zero]
          refine q_val (.bool true) (by kernel_rfl) (fun w' hw' => by go_simp) ?_
          simp only [Act.put, List.setIfInBounds_toArray, List.set_cons_succ, List.set_cons_zero]
          refine q_move _ rfl (by kernel_rfl) ?_
          simp only [Act.put, List.setIfInBounds_toArray, List.set_cons_succ, List.set_cons_zero]
          refine q_move _ rfl (by kernel_rfl) ?_
          simp only [Act.put, List.setIfInBounds_toArray, List.set_cons_succ, List.set_cons_zero]
          refine q_val (.pointer (some ⟨b9, j * 34, none⟩)) (by kernel_rfl) (fun w' hw' => by go_simp) ?_
          simp only [Act.put, List.setIfInBounds_toArray, List.set_cons_succ, List.set_cons_zero]
          refine q_loadB 65 (.tmp 41) rfl (by kernel_rfl) b9 (j * 34) rfl (pV (P j)) _ (fun w' hw' => HR9.out w' hw') undP rfl (sizeP _) ?_
          simp only [Act.put, List.setIfInBounds_toArray, List.set_cons_succ, List.set_cons_zero]
          refine q_move _ rfl (by kernel_rfl) ?_
          simp only [Act.put, List.setIfInBounds_toArray, List.set_cons_succ, List.set_cons_zero]
          refine q_move _ rfl (by kernel_rfl) ?_
          simp only [Act.put, List.setIfInBounds_toArray, List.set_cons_succ, List.set_cons_zero]
          refine q_val (.pointer (some ⟨pb, po + j * 34, none⟩)) (by kernel_rfl) (fun w' hw' => by go_simp) ?_
          simp only [Act.put, List.setIfInBounds_toArray, List.set_cons_succ, List.set_cons_zero]
          refine q_loadB 65 (.tmp 45) rfl (by kernel_rfl) pb (po + j * 34) rfl (pV (P j)) _ (fun w' hw' => HRP.out w' hw') undP rfl (sizeP _) ?_
          simp only [Act.put, List.setIfInBounds_toArray, List.set_cons_succ, List.set_cons_zero]
          refine q_neqV 65 _ (.tmp 42) (.tmp 46) rfl (by kernel_rfl) (pV (P j)).toArray (pV (P j)).toArray rfl rfl true guardP (fun w' _ => eq_pt_same _ w') ?_
          simp only [Act.put, List.setIfInBounds_toArray, List.set_cons_succ, List.set_cons_zero]
          refine q_val (.bool false) (by kernel_rfl) (fun w' hw' => by go_simp) ?_
          simp only [Act.put, List.setIfInBounds_toArray, List.set_cons_succ, List.set_cons_zero]
          refine q_move _ rfl (by kernel_rfl) ?_
          simp only [Act.put, List.setIfInBounds_toArray, List.set_cons_succ, List.set_cons_zero]
          refine q_move _ rfl (by kernel_rfl) ?_
          simp only [Act.put, List.setIfInBounds_toArray, List.set_cons_succ, List.set_cons_zero]
          refine q_move _ rfl (by kernel_rfl) ?_
          simp only [Act.put, List.setIfInBounds_toArray, List.set_cons_succ, List.set_cons_zero]
          refine q_val (.int .i64 n) (by kernel_rfl) (fun w' hw' => by go_simp) ?_
          simp only [Act.put, List.setIfInBounds_toArray, List.set_cons_succ, List.set_cons_zero]
          refine q_val (.bool false) (by kernel_rfl) (fun w' hw' => by go_simp) ?_
          simp only [Act.put, List.setIfInBounds_toArray, List.set_cons_succ, List.set_cons_zero]
          refine q_move _ rfl (by kernel_rfl) ?_
          simp only [Act.put, List.setIfInBounds_toArray, List.set_cons_succ, List.set_cons_zero]
          refine BigFrame.wpQuiet_skip (by kernel_rfl) ?_
          simp only [Act.put, List.setIfInBounds_toArray, List.set_cons_succ, List.set_cons_zero]
          refine BigFrame.wpQuiet_skip (by kernel_rfl) ?_
          simp only [Act.put, List.setIfInBounds_toArray, List.set_cons_succ, List.set_cons_zero]
          refine BigFrame.wpQuiet_skip (by kernel_rfl) ?_
          simp only [Act.put, List.setIfInBounds_toArray, List.set_cons_succ, List.set_cons_zero]
          refine BigFrame.wpQuiet_skip (by kernel_rfl) ?_
          simp only [Act.put, List.setIfInBounds_toArray, List.set_cons_succ, List.set_cons_zero]
          refine BigFrame.wpQuiet_skip (by kernel_rfl) ?_
          simp only [Act.put, List.setIfInBounds_toArray, List.set_cons_succ, List.set_cons_zero]
          refine q_val (.bool false) (by kernel_rfl) (fun w' hw' => by go_simp) ?_
          simp only [Act.put, List.setIfInBounds_toArray, List.set_cons_succ, List.set_cons_zero]
          refine q_val (.bool false) (by kernel_rfl) (fun w' hw' => by go_simp) ?_
          simp only [Act.put, List.setIfInBounds_toArray, List.set_cons_succ, List.set_cons_zero]
          refine wpQuiet_nil ?_
          intro w' hw'
          go_wp2_with fail
          go_roundw
          case rel => exact ⟨j + 1, by omega, by go_num, hw'⟩
          case measure => simp [intOf]; omega
        · have hjn : ¬ (j : Int) < (n : Int) := by omega
          have hjn2 : (n : Int) ≤ (j : Int) := by omega
          have HR9 := Lib.hid (fun w' (hw' : Below W5.heap.size W5 w') => show w'.rangeAt b9 (j * 34) (pV hole) from by
            have := HR5.out w' hw' j hlt
            unfold nP at this
            rwa [if_neg hjn'] at this)
          go_wp2_with fail
          refine wp_region_quiet (C := fun w' => Below W5.heap.size W5 w') (by kernel_rfl) (by kernel_rfl) (hB.trans ⟨rfl, rfl, rfl, Nat.le_refl _, fun _ _ => rfl⟩) ?_
          refine q_move _ rfl (by kernel_rfl) ?_
          simp only [Act.put, List.setIfInBounds_toArray, List.set_cons_succ, List.set_cons_zero]
          refine q_move _ rfl (by kernel_rfl) ?_
          simp only [Act.put, List.setIfInBounds_toArray, List.set_cons_succ, List.set_cons_zero]
          refine q_val (.int .i64 n) (by kernel_rfl) (fun w' hw' => by go_simp) ?_
          simp only [Act.put, List.setIfInBounds_toArray, List.set_cons_succ, List.set_cons_zero]
          refine q_val (.bool false) (by kernel_rfl) (fun w' hw' => by go_simp) ?_
          simp only [Act.put, List.setIfInBounds_toArray, List.set_cons_succ, List.set_cons_zero]
          refine q_move _ rfl (by kernel_rfl) ?_
          simp only [Act.put, List.setIfInBounds_toArray, List.set_cons_succ, List.set_cons_zero]
          refine BigFrame.wpQuiet_skip (by kernel_rfl) ?_
          simp only [Act.put, List.setIfInBounds_toArray, List.set_cons_succ, List.set_cons_zero]
          refine BigFrame.wpQuiet_skip (by kernel_rfl) ?_
          simp only [Act.put, List.setIfInBounds_toArray, List.set_cons_succ, List.set_cons_zero]
          refine BigFrame.wpQuiet_skip (by kernel_rfl) ?_
          simp only [Act.put, List.setIfInBounds_toArray, List.set_cons_succ, List.set_cons_zero]
          refine BigFrame.wpQuiet_skip (by kernel_rfl) ?_
          simp only [Act.put, List.setIfInBounds_toArray, List.set_cons_succ, List.set_cons_zero]
          refine BigFrame.wpQuiet_skip (by kernel_rfl) ?_
          simp only [Act.put, List.setIfInBounds_toArray, List.set_cons_succ, List.set_cons_zero]
          refine BigFrame.wpQuiet_skip (by kernel_rfl) ?_
          simp only [Act.put, List.setIfInBounds_toArray, List.set_cons_succ, List.set_cons_zero]
          refine BigFrame.wpQuiet_skip (by kernel_rfl) ?_
          simp only [Act.put, List.setIfInBounds_toArray, List.set_cons_succ, List.set_cons_zero]
          refine BigFrame.wpQuiet_skip (by kernel_rfl) ?_
          simp only [Act.put, List.setIfInBounds_toArray, List.set_cons_succ, List.set_cons_zero]
          refine q_val (.bool false) (by kernel_rfl) (fun w' hw' => by go_simp) ?_
          simp only [Act.put, List.setIfInBounds_toArray, List.set_cons_succ, List.set_cons_zero]
          refine q_move _ rfl (by kernel_rfl) ?_
          simp only [Act.put, List.setIfInBounds_toArray, List.set_cons_succ, List.set_cons_zero]
          refine q_move _ rfl (by kernel_rfl) ?_
          simp only [Act.put, List.setIfInBounds_toArray, List.set_cons_succ, List.set_cons_zero]
          refine q_move _ rfl (by kernel_rfl) ?_
          simp only [Act.put, List.setIfInBounds_toArray, List.set_cons_succ, List.set_cons_zero]
          refine q_val (.int .i64 n) (by kernel_rfl) (fun w' hw' => by go_simp) ?_
          simp only [Act.put, List.setIfInBounds_toArray, List.set_cons_succ, List.set_cons_zero]
          refine q_val (.bool true) (by kernel_rfl) (fun w' hw' => by go_simp) ?_
          simp only [Act.put, List.setIfInBounds_toArray, List.set_cons_succ, List.set_cons_zero]
          refine q_move _ rfl (by kernel_rfl) ?_
          simp only [Act.put, List.setIfInBounds_toArray, List.set_cons_succ, List.set_cons_zero]
          refine q_move _ rfl (by kernel_rfl) ?_
          simp only [Act.put, List.setIfInBounds_toArray, List.set_cons_succ, List.set_cons_zero]
          refine q_val (.pointer (some ⟨b9, j * 34, none⟩)) (by kernel_rfl) (fun w' hw' => by go_simp) ?_
          simp only [Act.put, List.setIfInBounds_toArray, List.set_cons_succ, List.set_cons_zero]
          refine q_loadB 65 (.tmp 56) rfl (by kernel_rfl) b9 (j * 34) rfl (pV hole) _ (fun w' hw' => HR9.out w' hw') undP rfl (sizeP _) ?_
          simp only [Act.put, List.setIfInBounds_toArray, List.set_cons_succ, List.set_cons_zero]
          refine q_call 31 _ (.agg (pV hole).toArray) (by kernel_rfl) (fun w' => by go_simp) (fun w' hw' => (refhole_any w').mono fun e w'' ⟨he, hb⟩ => ⟨he, hw'.trans (hb.mono hw'.size)⟩) ?_
          simp only [Act.put, List.setIfInBounds_toArray, List.set_cons_succ, List.set_cons_zero]
          refine q_neqV 65 _ (.tmp 57) (.tmp 58) rfl (by kernel_rfl) (pV (hole)).toArray (pV (hole)).toArray rfl rfl true guardP (fun w' _ => eq_pt_same _ w') ?_
          simp only [Act.put, List.setIfInBounds_toArray, List.set_cons_succ, List.set_cons_zero]
          refine q_val (.bool false) (by kernel_rfl) (fun w' hw' => by go_simp) ?_
          simp only [Act.put, List.setIfInBounds_toArray, List.set_cons_succ, List.set_cons_zero]
          refine q_val (.bool false) (by kernel_rfl) (fun w' hw' => by go_simp) ?_
          simp only [Act.put, List.setIfInBounds_toArray, List.set_cons_succ, List.set_cons_zero]
          refine wpQuiet_nil ?_
          intro w' hw'
          go_wp2_with fail
          go_roundw
          case rel => exact ⟨j + 1, by omega, by go_num, hw'⟩
          case measure => simp [intOf]; omega
      · obtain rfl : j = 3 := by omega
        have hBx := hB5.trans (hB.mono hB5.size)
        clear HR5
        by_cases hn0 : n = 0
        · subst hn0
          go_wp2_with fail
          go_ret
          exact ⟨rfl, hBx⟩
        · have hnp : (0 : Int) < (n : Int) := by omega
          have hnz : ((n : Int) == 0) = false := by simp; omega
          obtain ⟨pb, po, rfl, hpb, _, hpr⟩ := (HL.out wr hBx).rows.resolve_left hn0
          have hst := hBx.size
          clear hpr
          go_wp2_with fail
          refine (Wd.copy_n m ao c2 xs wr HM.out (HX.out wr hBx) (by omega)).mono ?_
          rintro _ w5 ⟨ax, cx, rfl, ho5, hb5⟩
          have hs5 := hb5.size
          have hB5 : Below w.heap.size w w5 := hBx.trans (hb5.mono hst)
          have hp5 := HP0.out w5 hB5 pb po rfl hnp
          dsimp only
          clear hnz
          go_wp2_with (first
            | (refine @wpList_loadG _ _ _ _ _ _ _ (by kernel_rfl) 65 (.tmp 70) rfl pb po (by rfl) (pV (P 0)) _ hp5 undP rfl (sizeP _) ?_; simp only [Act.put, List.setIfInBounds_toArray, List.set_cons_succ, List.set_cons_zero]))
          refine (put_any w5 wr.heap.size ax m cx _ a (P 0) ho5 (by omega)).mono ?_
          rintro _ w6 ⟨rfl, hG6, hO6⟩
          have hb6 := ho5.under (Below.refl _ _) hG6 hs5
          have hs6 := hG6.size
          have hB6 : Below w.heap.size w w6 := hB5.trans (hb6.mono hst)
          clear hp5 hb5 hG6 hb6 ho5
          dsimp only
          cases hpg : ppG m a (P 0) with
          | false =>
            obtain ⟨e1, e2⟩ := pp_no hpg (fun i => xs.getD i 0)
            rw [e1] at hO6
            rw [e2]
            have hlx := hO6.lies
            have htab : tab m (fun i => xs.getD i 0) = xs := by rw [HM.out]; exact tab_of xs
            rw [htab] at hlx
            have hsm := same_any ax ao cx c2 w6.heap.size w6.heap.size m m xs xs w6 HM.out HM.out hlx (HX.out w6 hB6) HBY.out HBY.out
            rw [decide_eq_true rfl] at hsm
            have HSM := Lib.hid hsm
            clear hsm e1 e2 htab hlx hO6 hpg
            go_wp2_with fail
            refine HSM.out.mono ?_
            rintro _ _ ⟨rfl, rfl⟩
            dsimp only
            go_wp2_with fail
            go_ret
            exact ⟨rfl, hB6⟩
          | true =>
            obtain ⟨e1, e2⟩ := tk_pp_yes (fun i => xs.getD i 0) hpg
            have e3 : ppE m a (P 0) = 0 := by unfold ppE; rw [hpg]; rfl
            have hff : ∀ i, i < m → 0 ≤ xs.getD i 0 ∧ xs.getD i 0 < 256 := fun i _ => byte_at HBY.out i
            have ht := take_any w6 wr.heap.size ax m cx _ a hO6 (ppF_bytes hff (HPK.out 0).2.2) (by omega)
            rw [e1, e2] at ht
            rw [e3]
            have HT := Lib.hid ht
            clear ht e1 e2 e3 hff hO6 hpg
            go_wp2_with fail
            refine HT.out.mono ?_
            rintro _ w7 ⟨rfl, hb7⟩
            have hB7 := hB6.trans (hb7.mono hB6.size)
            obtain ⟨W7, hW7, hb8, hq7, hs7⟩ := new_pt w7 (P 0)
            have hB8 := hB7.trans (hb8.mono hB7.size)
            clear hb7 hb8 HT
            dsimp only
            subst hW7
            go_wp2_with (refine @wpList_store_row _ _ _ _ _ _ _ rfl 65 (.tmp 13) (.tmp 81) rfl w7.heap.size (pV (P 0)).toArray rfl rfl 65 _ (heap_alloc_new w7 _) (sizeP' _) rfl (pV_all _) ?_; rw [World.setRow_alloc_new]; simp only [Act.put])
            generalize w7.alloc (.cells (pV (P 0)).toArray 65) = W7 at hq7 hs7 hB8 ⊢
            have HQ7 := Lib.hid (fun w' (hw' : Below W7.heap.size W7 w') => row_pt ((hw'.block w7.heap.size (by omega)).trans hq7))
            have HP7 := Lib.hid (fun w' (hw' : Below W7.heap.size W7 w') => HP0.out w' (hB8.trans (hw'.mono hB8.size)) pb po rfl hnp)
            clear hq7
            refine wp_region_quiet (C := fun w' => Below W7.heap.size W7 w') (by kernel_rfl) (by kernel_rfl) ⟨rfl, rfl, rfl, Nat.le_refl _, fun _ _ => rfl⟩ ?_
            refine q_move _ rfl (by kernel_rfl) ?_
            simp only [Act.put, List.setIfInBounds_toArray, List.set_cons_succ, List.set_cons_zero]
            refine q_val (.bool true) (by kernel_rfl) (fun w' hw' => by go_simp) ?_
            simp only [Act.put, List.setIfInBounds_toArray, List.set_cons_succ, List.set_cons_zero]
            refine q_move _ rfl (by kernel_rfl) ?_
            simp only [Act.put, List.setIfInBounds_toArray, List.set_cons_succ, List.set_cons_zero]
            refine q_loadB 65 (.tmp 13) rfl (by kernel_rfl) w7.heap.size 0 rfl (pV (P 0)) _ (fun w' hw' => HQ7.out w' hw') undP rfl (sizeP _) ?_
            simp only [Act.put, List.setIfInBounds_toArray, List.set_cons_succ, List.set_cons_zero]
            refine q_move _ rfl (by kernel_rfl) ?_
            simp only [Act.put, List.setIfInBounds_toArray, List.set_cons_succ, List.set_cons_zero]
            refine q_val (.pointer (some ⟨pb, po, none⟩)) (by kernel_rfl) (fun w' hw' => by go_simp) ?_
            simp only [Act.put, List.setIfInBounds_toArray, List.set_cons_succ, List.set_cons_zero]
            refine q_loadB 65 (.tmp 88) rfl (by kernel_rfl) pb po rfl (pV (P 0)) _ (fun w' hw' => HP7.out w' hw') undP rfl (sizeP _) ?_
            simp only [Act.put, List.setIfInBounds_toArray, List.set_cons_succ, List.set_cons_zero]
            refine q_eqlV 65 _ (.tmp 86) (.tmp 89) rfl (by kernel_rfl) (pV (P 0)).toArray (pV (P 0)).toArray rfl rfl true guardP (fun w' _ => eq_pt_same _ w') ?_
            simp only [Act.put, List.setIfInBounds_toArray, List.set_cons_succ, List.set_cons_zero]
            refine q_val (.bool true) (by kernel_rfl) (fun w' hw' => by go_simp) ?_
            simp only [Act.put, List.setIfInBounds_toArray, List.set_cons_succ, List.set_cons_zero]
            refine q_val (.bool true) (by kernel_rfl) (fun w' hw' => by go_simp) ?_
            simp only [Act.put, List.setIfInBounds_toArray, List.set_cons_succ, List.set_cons_zero]
            refine wpQuiet_nil ?_
            intro w' hw'
            go_wp2_with fail
            go_ret
            exact ⟨rfl, hB8.trans (hw'.mono hB8.size)⟩
  · obtain ⟨e1, e2⟩ := nd_no hnd
    rw [e1, e2]
    clear e1 e2 hnd
    obtain ⟨W3, hW3, hb3, hx3, hs3⟩ := new_bl w2 (fun _ => 0)
    have hB3 := hB2.trans (hb3.mono hB2.size)
    clear hb3 hx3
    subst hW3
    by_cases hn0 : n = 0
    · subst hn0
      go_wp2_with (refine @wpList_store_row _ _ _ _ _ _ _ rfl 22 (.tmp 7) (.tmp 20) rfl w2.heap.size (bl fun _ => 0).toArray rfl rfl 22 _ (heap_alloc_new w2 _) (sizeB _) rfl (allB _) ?_; rw [World.setRow_alloc_new]; simp only [Act.put])
      go_ret
      exact ⟨rfl, hB3⟩
    · have hnp : (0 : Int) < (n : Int) := by omega
      have hnz : ((n : Int) == 0) = false := by simp; omega
      obtain ⟨pb, po, rfl, hpb, _, hpr⟩ := (HL.out (w2.alloc (.cells (bl fun _ => 0).toArray 22)) hB3).rows.resolve_left hn0
      have hst := hB3.size
      clear hpr
      go_wp2_with (refine @wpList_store_row _ _ _ _ _ _ _ rfl 22 (.tmp 7) (.tmp 20) rfl w2.heap.size (bl fun _ => 0).toArray rfl rfl 22 _ (heap_alloc_new w2 _) (sizeB _) rfl (allB _) ?_; rw [World.setRow_alloc_new]; simp only [Act.put])
      refine (Wd.copy_n m ao c2 xs (w2.alloc (.cells (bl fun _ => 0).toArray 22)) HM.out (HX.out (w2.alloc (.cells (bl fun _ => 0).toArray 22)) hB3) (by omega)).mono ?_
      rintro _ w5 ⟨ax, cx, rfl, ho5, hb5⟩
      have hs5 := hb5.size
      have hB5 : Below w.heap.size w w5 := hB3.trans (hb5.mono hst)
      have hp5 := HP0.out w5 hB5 pb po rfl hnp
      dsimp only
      clear hnz
      go_wp2_with (first
        | (refine @wpList_loadG _ _ _ _ _ _ _ (by kernel_rfl) 65 (.tmp 70) rfl pb po (by rfl) (pV (P 0)) _ hp5 undP rfl (sizeP _) ?_; simp only [Act.put, List.setIfInBounds_toArray, List.set_cons_succ, List.set_cons_zero]))
      refine (put_any w5 (w2.alloc (.cells (bl fun _ => 0).toArray 22)).heap.size ax m cx _ a (P 0) ho5 (by omega)).mono ?_
      rintro _ w6 ⟨rfl, hG6, hO6⟩
      have hb6 := ho5.under (Below.refl _ _) hG6 hs5
      have hs6 := hG6.size
      have hB6 : Below w.heap.size w w6 := hB5.trans (hb6.mono hst)
      clear hp5 hb5 hG6 hb6 ho5
      dsimp only
      cases hpg : ppG m a (P 0) with
      | false =>
        obtain ⟨e1, e2⟩ := pp_no hpg (fun i => xs.getD i 0)
        rw [e1] at hO6
        rw [e2]
        have hlx := hO6.lies
        have htab : tab m (fun i => xs.getD i 0) = xs := by rw [HM.out]; exact tab_of xs
        rw [htab] at hlx
        have hsm := same_any ax ao cx c2 w6.heap.size w6.heap.size m m xs xs w6 HM.out HM.out hlx (HX.out w6 hB6) HBY.out HBY.out
        rw [decide_eq_true rfl] at hsm
        have HSM := Lib.hid hsm
        clear hsm e1 e2 htab hlx hO6 hpg
        go_wp2_with fail
        refine HSM.out.mono ?_
        rintro _ _ ⟨rfl, rfl⟩
        dsimp only
        go_wp2_with fail
        go_ret
        exact ⟨rfl, hB6⟩
      | true =>
        obtain ⟨e1, e2⟩ := tk_pp_yes (fun i => xs.getD i 0) hpg
        have e3 : ppE m a (P 0) = 0 := by unfold ppE; rw [hpg]; rfl
        have hff : ∀ i, i < m → 0 ≤ xs.getD i 0 ∧ xs.getD i 0 < 256 := fun i _ => byte_at HBY.out i
        have ht := take_any w6 (w2.alloc (.cells (bl fun _ => 0).toArray 22)).heap.size ax m cx _ a hO6 (ppF_bytes hff (HPK.out 0).2.2) (by omega)
        rw [e1, e2] at ht
        rw [e3]
        have HT := Lib.hid ht
        clear ht e1 e2 e3 hff hO6 hpg
        go_wp2_with fail
        refine HT.out.mono ?_
        rintro _ w7 ⟨rfl, hb7⟩
        have hB7 := hB6.trans (hb7.mono hB6.size)
        obtain ⟨W7, hW7, hb8, hq7, hs7⟩ := new_pt w7 (P 0)
        have hB8 := hB7.trans (hb8.mono hB7.size)
        clear hb7 hb8 HT
        dsimp only
        subst hW7
        go_wp2_with (refine @wpList_store_row _ _ _ _ _ _ _ rfl 65 (.tmp 13) (.tmp 81) rfl w7.heap.size (pV (P 0)).toArray rfl rfl 65 _ (heap_alloc_new w7 _) (sizeP' _) rfl (pV_all _) ?_; rw [World.setRow_alloc_new]; simp only [Act.put])
        generalize w7.alloc (.cells (pV (P 0)).toArray 65) = W7 at hq7 hs7 hB8 ⊢
        have HQ7 := Lib.hid (fun w' (hw' : Below W7.heap.size W7 w') => row_pt ((hw'.block w7.heap.size (by omega)).trans hq7))
        have HP7 := Lib.hid (fun w' (hw' : Below W7.heap.size W7 w') => HP0.out w' (hB8.trans (hw'.mono hB8.size)) pb po rfl hnp)
        clear hq7
        refine wp_region_quiet (C := fun w' => Below W7.heap.size W7 w') (by kernel_rfl) (by kernel_rfl) ⟨rfl, rfl, rfl, Nat.le_refl _, fun _ _ => rfl⟩ ?_
        refine q_move _ rfl (by kernel_rfl) ?_
        simp only [Act.put, List.setIfInBounds_toArray, List.set_cons_succ, List.set_cons_zero]
        refine q_val (.bool true) (by kernel_rfl) (fun w' hw' => by go_simp) ?_
        simp only [Act.put, List.setIfInBounds_toArray, List.set_cons_succ, List.set_cons_zero]
        refine q_move _ rfl (by kernel_rfl) ?_
        simp only [Act.put, List.setIfInBounds_toArray, List.set_cons_succ, List.set_cons_zero]
        refine q_loadB 65 (.tmp 13) rfl (by kernel_rfl) w7.heap.size 0 rfl (pV (P 0)) _ (fun w' hw' => HQ7.out w' hw') undP rfl (sizeP _) ?_
        simp only [Act.put, List.setIfInBounds_toArray, List.set_cons_succ, List.set_cons_zero]
        refine q_move _ rfl (by kernel_rfl) ?_
        simp only [Act.put, List.setIfInBounds_toArray, List.set_cons_succ, List.set_cons_zero]
        refine q_val (.pointer (some ⟨pb, po, none⟩)) (by kernel_rfl) (fun w' hw' => by go_simp) ?_
        simp only [Act.put, List.setIfInBounds_toArray, List.set_cons_succ, List.set_cons_zero]
        refine q_loadB 65 (.tmp 88) rfl (by kernel_rfl) pb po rfl (pV (P 0)) _ (fun w' hw' => HP7.out w' hw') undP rfl (sizeP _) ?_
        simp only [Act.put, List.setIfInBounds_toArray, List.set_cons_succ, List.set_cons_zero]
        refine q_eqlV 65 _ (.tmp 86) (.tmp 89) rfl (by kernel_rfl) (pV (P 0)).toArray (pV (P 0)).toArray rfl rfl true guardP (fun w' _ => eq_pt_same _ w') ?_
        simp only [Act.put, List.setIfInBounds_toArray, List.set_cons_succ, List.set_cons_zero]
        refine q_val (.bool true) (by kernel_rfl) (fun w' hw' => by go_simp) ?_
        simp only [Act.put, List.setIfInBounds_toArray, List.set_cons_succ, List.set_cons_zero]
        refine q_val (.bool true) (by kernel_rfl) (fun w' hw' => by go_simp) ?_
        simp only [Act.put, List.setIfInBounds_toArray, List.set_cons_succ, List.set_cons_zero]
        refine wpQuiet_nil ?_
        intro w' hw'
        go_wp2_with fail
        go_ret
        exact ⟨rfl, hB8.trans (hw'.mono hB8.size)⟩
end Pt
end Go.Proofs.YtllejfnmbpjhaaaDoor
