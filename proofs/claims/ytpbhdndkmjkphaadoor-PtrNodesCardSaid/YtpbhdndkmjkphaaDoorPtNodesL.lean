/- PtrNodes: the law's walk. -/
import Derived.Test.YtpbhdndkmjkphaaDoorPtNodeC
import Derived.Test.YtpbhdndkmjkphaaDoorPtRefNode
import Derived.Test.YtpbhdndkmjkphaaDoorPtParts
namespace Go.Proofs.YtpbhdndkmjkphaaDoor
set_option maxRecDepth 20000
namespace Pt
open Go.RowKit Dk Eqb Byt

theorem part_pt (Q : Nat → Pn) (i : Nat) (hi : i < 3) (w : World) : (part 26 (f3 Q).toArray (i * 34)).run Tryd.prog w = .ok (.agg (pV (Q i)).toArray) w := by
  match i, hi with
  | 0, _ =>
    show (part 26 (f3 Q).toArray 0).run Tryd.prog w = .ok (.agg (pV (Q 0)).toArray) w
    kernel_rfl
  | 1, _ =>
    show (part 26 (f3 Q).toArray 34).run Tryd.prog w = .ok (.agg (pV (Q 1)).toArray) w
    kernel_rfl
  | 2, _ =>
    show (part 26 (f3 Q).toArray 68).run Tryd.prog w = .ok (.agg (pV (Q 2)).toArray) w
    kernel_rfl
  | n + 3, h => omega
theorem eqItems_pt (Q : Nat → Pn) (d : Nat) (w : World) : ∀ is : List Nat, (∀ i ∈ is, i < 3) → (Op.eqItems (d + 3) 26 34 (f3 Q).toArray (f3 Q).toArray is).run Tryd.prog w = .ok true w
  | [], _ => by simp [Op.eqItems]
  | i :: is, h => by
    have ih := eqItems_pt Q d w is fun j hj => h j (by simp [hj])
    simp only [Op.eqItems, Sem.run_bind, part_pt Q i (h i (by simp)) w, Result.andThen_ok, eq_pt1 d (Q i) w]
    simpa using ih
theorem eq_3 (Q : Nat → Pn) (w : World) : (Op.equalIn 10000 44 (.agg (f3 Q).toArray) (.agg (f3 Q).toArray)).run Tryd.prog w = .ok true w := by
  obtain ⟨i, hi⟩ : ∃ i, Tryd.prog.info? 26 = some i := ⟨_, rfl⟩
  rw [run_equalIn_array w 9999 (n := 3) (e := 26) _ _ (by kernel_rfl) hi, show Tryd.prog.cellsOf 26 = 34 by kernel_rfl]
  exact eqItems_pt Q 9996 w _ fun i hi => by simpa using hi
theorem new_f3 (w : World) (Q : Nat → Pn) : ∃ W, W = w.alloc (.cells (f3 Q).toArray 44) ∧ Below w.heap.size w W ∧ W.heap[w.heap.size]? = some (.cells (f3 Q).toArray 44 (0, 0)) ∧ W.heap.size = w.heap.size + 1 :=
  ⟨_, rfl, (Below.refl _ _).alloc (Nat.le_refl _) _, heap_alloc_new _ _, by simp⟩
attribute [local go_sem] zvB zv3
attribute [local go_sem] zcB zc3
set_option maxRecDepth 100000 in
set_option maxHeartbeats 2000000 in
theorem nodesl_any (n : Nat) (P : Nat → Pn) (pa : Option Addr) (cap g : Nat) (D : Nat → Int) (w : World) (hl : Lay w w.heap.size g pa n cap 34 (fun i => pV (P i))) (hn : n ≤ 140737488355328) (hD : Bytes D) (hk : Kp w) :
    Calls Tryd.prog 6 #[.slice pa n cap, .agg (bl D).toArray] w fun e w' => e = .returned (.bool true) ∧ Below w.heap.size w w' := by
  have HK := Lib.hid (fun W (hb : Below w.heap.size w W) => hk.below hb)
  have HN1 := Lib.hid (fun W (hb : Below w.heap.size w W) => node_any n P pa cap g W ((hl.below hb).more hb.size) hn)
  have HN2 := Lib.hid (fun W (hb : Below w.heap.size w W) => refnode_any n P pa cap g W ((hl.below hb).more hb.size) hn)
  have HP1 := Lib.hid (fun W => parts_any D W hD)
  have HP2 := Lib.hid (fun W => refparts_any D W hD)
  generalize ndV n P = V at HN1 HN2
  generalize ndE n P = E at HN1 HN2
  generalize paV D = Q at HP1 HP2
  generalize paE D = E2 at HP1 HP2
  clear hD hk hl
  obtain ⟨W, hW, hB0, hr0, hs0⟩ := new_bl w D
  go_enter Tryd.func6, Tryd.ntmps6
  go_wp2_with fail
  rw [← hW]
  clear hW
  refine (alive5_any W (HK.out W hB0)).mono ?_
  rintro _ w1 ⟨rfl, hb1⟩
  have hs1 := hb1.size
  have hB1 := hB0.trans (hb1.mono (by omega))
  have hr1 := hr0.block (hb1.block w.heap.size (by omega))
  clear hr0 hb1
  dsimp only
  go_wp2_with fail
  refine (HN1.out w1 hB1).mono ?_
  rintro _ w2 ⟨rfl, hb2⟩
  have hs2 := hb2.size
  have hB2 := hB1.trans (hb2.mono (by omega))
  have hr2 := hr1.block (hb2.block w.heap.size (by omega))
  obtain ⟨W3, hW3, hb3, hx3, hs3⟩ := new_bl w2 V
  have hr3 := hr2.block (hb3.block w.heap.size (by omega))
  have hB3 := hB2.trans (hb3.mono (by omega))
  clear hr1 hb2 hr2 hb3
  dsimp only
  subst hW3
  go_wp2_with (refine @wpList_store_row _ _ _ _ _ _ _ rfl 22 (.tmp 5) (.tmp 18) rfl w2.heap.size (bl V).toArray rfl rfl 22 _ (heap_alloc_new w2 _) (sizeB _) rfl (allB _) ?_; rw [World.setRow_alloc_new]; simp only [Act.put])
  generalize w2.alloc (.cells (bl V).toArray 22) = W3 at hx3 hs3 hr3 hB3 ⊢
  refine (HN2.out W3 hB3).mono ?_
  rintro _ w4 ⟨rfl, hb4⟩
  have hs4 := hb4.size
  have hB4 := hB3.trans (hb4.mono (by omega))
  have hr4 := hr3.block (hb4.block w.heap.size (by omega))
  have hx4 := hx3.block (hb4.block w2.heap.size (by omega))
  obtain ⟨W5, hW5, hb5, hy5, hs5⟩ := new_bl w4 V
  have hr5 := hr4.block (hb5.block w.heap.size (by omega))
  have hx5 := hx4.block (hb5.block w2.heap.size (by omega))
  have hB5 := hB4.trans (hb5.mono (by omega))
  clear hr3 hx3 hb4 hr4 hx4 hb5
  dsimp only
  subst hW5
  go_wp2_with (first
    | (refine @wpList_store_row _ _ _ _ _ _ _ rfl 22 (.tmp 7) (.tmp 23) rfl w4.heap.size (bl V).toArray rfl rfl 22 _ (heap_alloc_new w4 _) (sizeB _) rfl (allB _) ?_; rw [World.setRow_alloc_new]; simp only [Act.put])
    | (refine @wpList_loadG _ _ _ _ _ _ _ (by kernel_rfl) 22 (.tmp 3) rfl w.heap.size 0 rfl (bl D) _ (row_range hr5) undB rfl (size_bl D) ?_; simp only [Act.put, List.setIfInBounds_toArray, List.set_cons_succ, List.set_cons_zero]))
  generalize w4.alloc (.cells (bl V).toArray 22) = W5 at hx5 hy5 hs5 hr5 hB5 ⊢
  refine (HP1.out W5).mono ?_
  rintro _ w6 ⟨rfl, hb6⟩
  have hs6 := hb6.size
  have hB6 := hB5.trans (hb6.mono (by omega))
  have hr6 := hr5.block (hb6.block w.heap.size (by omega))
  have hx6 := hx5.block (hb6.block w2.heap.size (by omega))
  have hy6 := hy5.block (hb6.block w4.heap.size (by omega))
  obtain ⟨W7, hW7, hb7, hz7, hs7⟩ := new_f3 w6 Q
  have hr7 := hr6.block (hb7.block w.heap.size (by omega))
  have hx7 := hx6.block (hb7.block w2.heap.size (by omega))
  have hy7 := hy6.block (hb7.block w4.heap.size (by omega))
  have hB7 := hB6.trans (hb7.mono (by omega))
  clear hr5 hx5 hy5 hb6 hr6 hx6 hy6 hb7
  dsimp only
  subst hW7
  go_wp2_with (first
    | (refine @wpList_store_row _ _ _ _ _ _ _ rfl 44 (.tmp 9) (.tmp 28) rfl w6.heap.size (f3 Q).toArray rfl rfl 44 _ (heap_alloc_new w6 _) (size3' _) (by rw [List.size_toArray, List.size_toArray, f3_length, f3_length]) (f3_all _) ?_; rw [World.setRow_alloc_new]; simp only [Act.put])
    | (refine @wpList_loadG _ _ _ _ _ _ _ (by kernel_rfl) 22 (.tmp 3) rfl w.heap.size 0 rfl (bl D) _ (row_range hr7) undB rfl (size_bl D) ?_; simp only [Act.put, List.setIfInBounds_toArray, List.set_cons_succ, List.set_cons_zero]))
  generalize w6.alloc (.cells (f3 Q).toArray 44) = W7 at hx7 hy7 hz7 hs7 hr7 hB7 ⊢
  refine (HP2.out W7).mono ?_
  rintro _ w8 ⟨rfl, hb8⟩
  have hs8 := hb8.size
  have hB8 := hB7.trans (hb8.mono (by omega))
  have hx8 := hx7.block (hb8.block w2.heap.size (by omega))
  have hy8 := hy7.block (hb8.block w4.heap.size (by omega))
  have hz8 := (hb8.block w6.heap.size (by omega)).trans hz7
  obtain ⟨W9, hW9, hb9, ht9, hs9⟩ := new_f3 w8 Q
  have hx9 := row_range (hx8.block (hb9.block w2.heap.size (by omega)))
  have hy9 := row_range (hy8.block (hb9.block w4.heap.size (by omega)))
  have hz9 := (R3.new ((hb9.block w6.heap.size (by omega)).trans hz8)).all
  have hu9 := (R3.new ht9).all
  have hB9 := hB8.trans (hb9.mono (by omega))
  clear hr7 hx7 hy7 hz7 hb8 hx8 hy8 hz8 hb9 ht9
  dsimp only
  subst hW9
  go_wp2_with (first
    | (refine @wpList_store_row _ _ _ _ _ _ _ rfl 44 (.tmp 11) (.tmp 33) rfl w8.heap.size (f3 Q).toArray rfl rfl 44 _ (heap_alloc_new w8 _) (size3' _) (by rw [List.size_toArray, List.size_toArray, f3_length, f3_length]) (f3_all _) ?_; rw [World.setRow_alloc_new]; simp only [Act.put])
    | (refine @wpList_loadG _ _ _ _ _ _ _ (by kernel_rfl) 22 (.tmp 5) rfl w2.heap.size 0 rfl (bl V) _ hx9 undB rfl (size_bl V) ?_; simp only [Act.put, List.setIfInBounds_toArray, List.set_cons_succ, List.set_cons_zero])
    | (refine @wpList_loadG _ _ _ _ _ _ _ (by kernel_rfl) 22 (.tmp 7) rfl w4.heap.size 0 rfl (bl V) _ hy9 undB rfl (size_bl V) ?_; simp only [Act.put, List.setIfInBounds_toArray, List.set_cons_succ, List.set_cons_zero])
    | (refine @wpList_loadG _ _ _ _ _ _ _ (by kernel_rfl) 44 (.tmp 9) rfl w6.heap.size 0 rfl (f3 Q) _ hz9 und3 rfl (size3 Q) ?_; simp only [Act.put, List.setIfInBounds_toArray, List.set_cons_succ, List.set_cons_zero])
    | (refine @wpList_loadG _ _ _ _ _ _ _ (by kernel_rfl) 44 (.tmp 11) rfl w8.heap.size 0 rfl (f3 Q) _ hu9 und3 rfl (size3 Q) ?_; simp only [Act.put, List.setIfInBounds_toArray, List.set_cons_succ, List.set_cons_zero])
    | (refine @wpList_eqlV _ _ _ _ _ _ _ 22 _ (.tmp 35) (.tmp 36) rfl (by kernel_rfl) (bl V).toArray (bl V).toArray rfl rfl true guardB (by rw [eq_bl, eqB_same]) ?_; simp only [Act.put, List.setIfInBounds_toArray, List.set_cons_succ, List.set_cons_zero])
    | (refine @wpList_eqlV _ _ _ _ _ _ _ 44 _ (.tmp 44) (.tmp 45) rfl (by kernel_rfl) (f3 Q).toArray (f3 Q).toArray rfl rfl true guard3 (eq_3 Q _) ?_; simp only [Act.put, List.setIfInBounds_toArray, List.set_cons_succ, List.set_cons_zero]))
  go_ret
  exact ⟨rfl, hB9⟩
end Pt
end Go.Proofs.YtpbhdndkmjkphaaDoor
