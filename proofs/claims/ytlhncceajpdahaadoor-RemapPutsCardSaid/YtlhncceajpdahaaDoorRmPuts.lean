/- RemapPuts: the law's walk (made by tools/gen_rputs.py). -/
import Derived.Test.YtlhncceajpdahaaDoorRmRefPut
import Derived.Test.YtlhncceajpdahaaDoorRmRefCopy
import Derived.Test.YtlhncceajpdahaaDoorRmRefSame
import Derived.Test.YtlhncceajpdahaaDoorRmAlive2
namespace Go.Proofs.YtlhncceajpdahaaDoor
set_option maxRecDepth 20000
namespace Rm
open Go.RowKit Dk Byt

attribute [local go_sem] zv29
attribute [local go_sem] zc29
theorem q_eqlR {P : Program} {ops : Array Oper} {C : World → Prop} {a : Act} {o : Oper} {rest : List Oper} {Q : Act → Prop} (t t' : TypeId) (x y : Operand) (ho : o.op = .binOp .eql t x y t') (hw : Region.wanted o (yielded ops a.tmps) = true) (X : Array Value) (hx : a.eval x = .agg X) (hy : a.eval y = .agg X)
    (hm : P.eqGuardType P.depth t = false) (heq : ∀ w, C w → (Op.equalIn 10000 t (.agg X) (.agg X)).run P w = .ok true w) (h : wpQuiet P ops C Q rest (a.put o.dst (.bool true))) : wpQuiet P ops C Q (o :: rest) a :=
  q_val (.bool true) hw (fun w hw => by
    unfold execOp
    simp only [ho, hx, hy, Sem.run_bind, run_eqGuard_agg w _ _ _ _ _ _ hm, run_eql_struct, heq w hw, Result.andThen_ok]
    rfl) h

set_option maxRecDepth 100000 in
set_option maxHeartbeats 4000000 in
theorem rputs_any (gen : Int) (n : Nat) (F T : Nat → Int) (pa : Option Addr) (cap : Nat) (s x : Int) (w : World) (hl : Lay w w.heap.size w.heap.size pa n cap 2 (prV F T)) (hn : n * 16 ≤ 140737488355328) (hF : ∀ i, i < n → i64 (F i) ∧ i64 (T i)) (hk : Kp w) :
    Calls Tryd.prog 3 #[.agg #[.int .i64 gen, .slice pa n cap], .int .i64 s, .int .i64 x] w fun e w' => e = .returned (.bool true) ∧ Below w.heap.size w w' := by
  have HL := Lib.hid hl
  have HK := Lib.hid (fun W (hb : Below w.heap.size w W) => hk.below hb)
  have hn2 : n ≤ 140737488355328 := by omega
  have HP1 := Lib.hid (fun ao c g W hl hk => put_any s gen n F T ao c g W hl hn2 hF hk)
  have HP2 := Lib.hid (fun W hl h0 => refput_any s gen n F T pa cap w.heap.size W hl hn2 hF h0)
  have HR1 := Lib.hid (fun ao c g W hl => right_any s gen n F T ao c g W hl hn2 hF)
  have HR2 := Lib.hid (fun g W hl => refright_any s gen n F T pa cap g W hl hn2)
  have HA1 := Lib.hid (fun ao c g W hl => at_any gen n F T ao c g x W hl hn2)
  have HA2 := Lib.hid (fun g W hl => refat_any gen n F T pa cap g x W hl hn2)
  have HH1 := Lib.hid (fun W => half_any s W)
  have HH2 := Lib.hid (fun W => refhalf_any s W)
  have HSM := Lib.hid (fun ao c g g2 W h1 h2 => refsame_any gen n F T ao pa c cap g g2 W hn2 h1 h2)
  have h00 : 0 < w.heap.size := hk.2
  clear hl hF hk
  generalize putV s gen n F T = V at HP1 HP2
  generalize putEr s gen n F T = E at HP1 HP2
  generalize rightB s gen n F T = R at HR1 HR2
  generalize atT F T n x = A at HA1 HA2
  generalize halfN s = H at HH1 HH2
  go_enter Tryd.func3, Tryd.ntmps3
  go_wp2_with fail
  generalize hW : w.alloc (.cells #[.int .i64 gen, .slice pa n cap] 24) = W
  have hB0 : Below w.heap.size w W := by rw [← hW]; exact (Below.refl _ _).alloc (Nat.le_refl _) _
  have hx0 : W.heap[w.heap.size]? = some (.cells #[.int .i64 gen, .slice pa n cap] 24 (0, 0)) := by rw [← hW]; exact heap_alloc_new _ _
  have hs0 : W.heap.size = w.heap.size + 1 := by rw [← hW]; simp
  clear hW
  have HM := Lib.hid (fun w' (hw' : Below W.heap.size W w') => show w'.cell? ⟨w.heap.size, 0, none⟩ = some (.int .i64 gen) ∧ w'.cell? ⟨w.heap.size, 1, none⟩ = some (.slice pa n cap) from ⟨(hw'.cell (p := ⟨w.heap.size, 0, none⟩) (show w.heap.size < W.heap.size by omega)).trans (by rw [cell_of_row _ _ _ _ _ _ hx0]; rfl), (hw'.cell (p := ⟨w.heap.size, 1, none⟩) (show w.heap.size < W.heap.size by omega)).trans (by rw [cell_of_row _ _ _ _ _ _ hx0]; rfl)⟩)
  have HLY := Lib.hid (fun w' (hw' : Below w.heap.size w w') => ((HL.out.below hw').more hw'.size))
  refine (alive4_any W (HK.out W hB0)).mono ?_
  rintro _ w1 ⟨rfl, hb1⟩
  obtain ⟨m0, m1⟩ := HM.out w1 hb1
  have hB1 : Below w.heap.size w w1 := hB0.trans (hb1.mono (by omega))
  have hs1 := hb1.size
  dsimp only
  go_wp2_with fail
  refine (refcopy_any gen n F T pa cap w.heap.size w1 (HLY.out w1 hB1) hn).mono ?_
  rintro _ w2 ⟨⟨_, rfl, ao, cap2, rfl, hO⟩, hb2⟩
  have hW2 : Below W.heap.size W w2 := hb1.trans (hb2.mono hs1)
  have hs2 := hb2.size
  clear m0 m1 hx0
  dsimp only
  go_wp2_with (refine wpList_store_row rfl 24 (.tmp 7) (.tmp 15) rfl w2.heap.size #[.int .i64 gen, .slice ao n cap2] rfl rfl 24 _ (heap_alloc_new _ _) (by kernel_rfl) rfl (tb_one _ _ _ _) ?_; rw [World.setRow_alloc_new]; simp only [Act.put])
  generalize hW3 : w2.alloc (.cells #[.int .i64 gen, .slice ao n cap2] 24) = W3
  have hb3 : Below w2.heap.size w2 W3 := by rw [← hW3]; exact (Below.refl _ _).alloc (Nat.le_refl _) _
  have hx3 : W3.heap[w2.heap.size]? = some (.cells #[.int .i64 gen, .slice ao n cap2] 24 (0, 0)) := by rw [← hW3]; exact heap_alloc_new _ _
  have hs3 : W3.heap.size = w2.heap.size + 1 := by rw [← hW3]; simp
  clear hW3
  have hW3' : Below W.heap.size W W3 := hW2.trans (hb3.mono (by omega))
  have hB3 : Below w.heap.size w W3 := hB0.trans (hW3'.mono (by omega))
  have HOW := Lib.hid (fun w' (hw' : Below W3.heap.size W3 w') => show w'.cell? ⟨w2.heap.size, 0, none⟩ = some (.int .i64 gen) ∧ w'.cell? ⟨w2.heap.size, 1, none⟩ = some (.slice ao n cap2) from ⟨(hw'.cell (p := ⟨w2.heap.size, 0, none⟩) (show w2.heap.size < W3.heap.size by omega)).trans (by rw [cell_of_row _ _ _ _ _ _ hx3]; rfl), (hw'.cell (p := ⟨w2.heap.size, 1, none⟩) (show w2.heap.size < W3.heap.size by omega)).trans (by rw [cell_of_row _ _ _ _ _ _ hx3]; rfl)⟩)
  have HLO := Lib.hid (fun w' (hw' : Below W3.heap.size W3 w') => lay_own (g := w'.heap.size) (fun i _ => prV_length F T i) (owns_below (owns_below hO hb3) hw') (.inr (Nat.le_refl _)))
  clear hO hx3
  refine (HP1.out ao cap2 W3.heap.size W3 (HLO.out W3 (Below.refl _ _)) (HK.out W3 hB3)).mono ?_
  rintro _ w4 ⟨rfl, hb4⟩
  have hs4 := hb4.size
  have hW4 : Below W.heap.size W w4 := hW3'.trans (hb4.mono (by omega))
  have p0 := fun o => (HM.out _ (hW4.alloc (by omega) o)).1
  have p1 := fun o => (HM.out _ (hW4.alloc (by omega) o)).2
  clear HP1
  dsimp only
  go_wp2_with (refine wpList_store_row rfl 27 (.tmp 8) (.tmp 20) rfl w4.heap.size (bl V).toArray rfl rfl 27 _ (heap_alloc_new _ _) (size_bl' _) rfl (bl_all _) ?_; rw [World.setRow_alloc_new]; simp only [Act.put])
  generalize hW5 : w4.alloc (.cells (bl V).toArray 27) = W5
  have hb5 : Below w4.heap.size w4 W5 := by rw [← hW5]; exact (Below.refl _ _).alloc (Nat.le_refl _) _
  have hr5 : Row W5 w4.heap.size 0 128 V := by rw [← hW5]; exact row_new
  have hs5 : W5.heap.size = w4.heap.size + 1 := by rw [← hW5]; simp
  clear hW5 p0 p1
  have h35 : Below W3.heap.size W3 W5 := hb4.trans (hb5.mono hs4)
  have hB5 : Below w.heap.size w W5 := hB3.trans (h35.mono (by omega))
  refine (HP2.out W5 (HLY.out W5 hB5) (by omega)).mono ?_
  rintro _ w6 ⟨rfl, hb6⟩
  have hs6 := hb6.size
  clear HP2
  dsimp only
  go_wp2_with (refine wpList_store_row rfl 27 (.tmp 10) (.tmp 26) rfl w6.heap.size (bl V).toArray rfl rfl 27 _ (heap_alloc_new _ _) (size_bl' _) rfl (bl_all _) ?_; rw [World.setRow_alloc_new]; simp only [Act.put])
  generalize hW7 : w6.alloc (.cells (bl V).toArray 27) = W7
  have hb7 : Below w6.heap.size w6 W7 := by rw [← hW7]; exact (Below.refl _ _).alloc (Nat.le_refl _) _
  have hr7 : Row W7 w6.heap.size 0 128 V := by rw [← hW7]; exact row_new
  have hs7 : W7.heap.size = w6.heap.size + 1 := by rw [← hW7]; simp
  clear hW7
  have h57 : Below W5.heap.size W5 W7 := hb6.trans (hb7.mono hs6)
  have h37 : Below W3.heap.size W3 W7 := h35.trans (h57.mono (by omega))
  have hW7' : Below W.heap.size W W7 := hW3'.trans (h37.mono (by omega))
  have hB7 : Below w.heap.size w W7 := hB0.trans (hW7'.mono (by omega))
  have HBB := Lib.hid (fun w' (hw' : Below W7.heap.size W7 w') => row_range ((hr5.block (h57.block _ (by omega))).block (hw'.block _ (by omega))))
  have HCC := Lib.hid (fun w' (hw' : Below W7.heap.size W7 w') => row_range (hr7.block (hw'.block _ (by omega))))
  have HM0 := Lib.hid (fun w' (hw' : Below W7.heap.size W7 w') => (HM.out w' (hW7'.trans (hw'.mono (by omega)))).1)
  have HM1 := Lib.hid (fun w' (hw' : Below W7.heap.size W7 w') => (HM.out w' (hW7'.trans (hw'.mono (by omega)))).2)
  have HO0 := Lib.hid (fun w' (hw' : Below W7.heap.size W7 w') => (HOW.out w' (h37.trans (hw'.mono (by omega)))).1)
  have HO1 := Lib.hid (fun w' (hw' : Below W7.heap.size W7 w') => (HOW.out w' (h37.trans (hw'.mono (by omega)))).2)
  have HLA := Lib.hid (fun w' (hw' : Below W7.heap.size W7 w') => HLY.out w' (hB7.trans (hw'.mono (by omega))))
  replace HLO := Lib.hid (fun w' (hw' : Below W7.heap.size W7 w') => HLO.out w' (h37.trans (hw'.mono (by omega))))
  clear hr5 hr7
  refine wp_region_quiet (C := fun w' => Below W7.heap.size W7 w') (by kernel_rfl) (by kernel_rfl) ⟨rfl, rfl, rfl, Nat.le_refl _, fun _ _ => rfl⟩ ?_
  refine q_load_mid2 27 (.tmp 8) rfl rfl w4.heap.size 0 rfl (bl V) _ (fun w' hw' => HBB.out w' hw') und29 rfl (size_bl _) ?_
  simp only [Act.put, List.setIfInBounds_toArray, List.set_cons_succ, List.set_cons_zero]
  refine q_load_mid2 27 (.tmp 10) rfl rfl w6.heap.size 0 rfl (bl V) _ (fun w' hw' => HCC.out w' hw') und29 rfl (size_bl _) ?_
  simp only [Act.put, List.setIfInBounds_toArray, List.set_cons_succ, List.set_cons_zero]
  refine q_eqlR 27 _ (.tmp 28) (.tmp 29) rfl rfl (bl V).toArray rfl rfl (by kernel_rfl) (fun w' _ => eq_bl V w') ?_
  simp only [Act.put, List.setIfInBounds_toArray, List.set_cons_succ, List.set_cons_zero]
  refine q_move _ rfl rfl ?_
  simp only [Act.put, List.setIfInBounds_toArray, List.set_cons_succ, List.set_cons_zero]
  refine q_move _ rfl rfl ?_
  simp only [Act.put, List.setIfInBounds_toArray, List.set_cons_succ, List.set_cons_zero]
  refine q_move _ rfl rfl ?_
  simp only [Act.put, List.setIfInBounds_toArray, List.set_cons_succ, List.set_cons_zero]
  refine q_val (.bool true) rfl (fun w' hw' => by go_simp) ?_
  simp only [Act.put, List.setIfInBounds_toArray, List.set_cons_succ, List.set_cons_zero]
  refine q_val (.bool true) rfl (fun w' hw' => by go_simp) ?_
  simp only [Act.put, List.setIfInBounds_toArray, List.set_cons_succ, List.set_cons_zero]
  refine q_move _ rfl rfl ?_
  simp only [Act.put, List.setIfInBounds_toArray, List.set_cons_succ, List.set_cons_zero]
  refine q_val (.agg #[.int .i64 gen, .slice ao n cap2]) rfl (fun w' hw' => by have k0 := HO0.out w' hw'; have k1 := HO1.out w' hw'; go_simp) ?_
  simp only [Act.put, List.setIfInBounds_toArray, List.set_cons_succ, List.set_cons_zero]
  refine q_move _ rfl rfl ?_
  simp only [Act.put, List.setIfInBounds_toArray, List.set_cons_succ, List.set_cons_zero]
  refine q_call 13 _ (.bool R) rfl (fun w' => by go_simp) (fun w' hw' => (HR1.out ao cap2 w'.heap.size w' (HLO.out w' hw')).mono fun e w'' ⟨he, hb⟩ => ⟨he, hw'.trans (hb.mono hw'.size)⟩) ?_
  simp only [Act.put, List.setIfInBounds_toArray, List.set_cons_succ, List.set_cons_zero]
  refine q_val (.agg #[.int .i64 gen, .slice pa n cap]) rfl (fun w' hw' => by have k0 := HM0.out w' hw'; have k1 := HM1.out w' hw'; go_simp) ?_
  simp only [Act.put, List.setIfInBounds_toArray, List.set_cons_succ, List.set_cons_zero]
  refine q_move _ rfl rfl ?_
  simp only [Act.put, List.setIfInBounds_toArray, List.set_cons_succ, List.set_cons_zero]
  refine q_call 14 _ (.bool R) rfl (fun w' => by go_simp) (fun w' hw' => (HR2.out w.heap.size w' (HLA.out w' hw')).mono fun e w'' ⟨he, hb⟩ => ⟨he, hw'.trans (hb.mono hw'.size)⟩) ?_
  simp only [Act.put, List.setIfInBounds_toArray, List.set_cons_succ, List.set_cons_zero]
  refine q_val (.bool true) rfl (fun w' hw' => by go_simp) ?_
  simp only [Act.put, List.setIfInBounds_toArray, List.set_cons_succ, List.set_cons_zero]
  refine q_val (.bool true) rfl (fun w' hw' => by go_simp) ?_
  simp only [Act.put, List.setIfInBounds_toArray, List.set_cons_succ, List.set_cons_zero]
  refine q_move _ rfl rfl ?_
  simp only [Act.put, List.setIfInBounds_toArray, List.set_cons_succ, List.set_cons_zero]
  refine q_val (.agg #[.int .i64 gen, .slice ao n cap2]) rfl (fun w' hw' => by have k0 := HO0.out w' hw'; have k1 := HO1.out w' hw'; go_simp) ?_
  simp only [Act.put, List.setIfInBounds_toArray, List.set_cons_succ, List.set_cons_zero]
  refine q_move _ rfl rfl ?_
  simp only [Act.put, List.setIfInBounds_toArray, List.set_cons_succ, List.set_cons_zero]
  refine q_call 15 _ (.int .i64 A) rfl (fun w' => by go_simp) (fun w' hw' => (HA1.out ao cap2 w'.heap.size w' (HLO.out w' hw')).mono fun e w'' ⟨he, hb⟩ => ⟨he, hw'.trans (hb.mono hw'.size)⟩) ?_
  simp only [Act.put, List.setIfInBounds_toArray, List.set_cons_succ, List.set_cons_zero]
  refine q_val (.agg #[.int .i64 gen, .slice pa n cap]) rfl (fun w' hw' => by have k0 := HM0.out w' hw'; have k1 := HM1.out w' hw'; go_simp) ?_
  simp only [Act.put, List.setIfInBounds_toArray, List.set_cons_succ, List.set_cons_zero]
  refine q_move _ rfl rfl ?_
  simp only [Act.put, List.setIfInBounds_toArray, List.set_cons_succ, List.set_cons_zero]
  refine q_call 16 _ (.int .i64 A) rfl (fun w' => by go_simp) (fun w' hw' => (HA2.out w.heap.size w' (HLA.out w' hw')).mono fun e w'' ⟨he, hb⟩ => ⟨he, hw'.trans (hb.mono hw'.size)⟩) ?_
  simp only [Act.put, List.setIfInBounds_toArray, List.set_cons_succ, List.set_cons_zero]
  refine q_val (.bool true) rfl (fun w' hw' => by go_simp) ?_
  simp only [Act.put, List.setIfInBounds_toArray, List.set_cons_succ, List.set_cons_zero]
  refine q_val (.bool true) rfl (fun w' hw' => by go_simp) ?_
  simp only [Act.put, List.setIfInBounds_toArray, List.set_cons_succ, List.set_cons_zero]
  refine q_move _ rfl rfl ?_
  simp only [Act.put, List.setIfInBounds_toArray, List.set_cons_succ, List.set_cons_zero]
  refine q_move _ rfl rfl ?_
  simp only [Act.put, List.setIfInBounds_toArray, List.set_cons_succ, List.set_cons_zero]
  refine q_call 17 _ (.int .i64 H) rfl (fun w' => by go_simp) (fun w' hw' => (HH1.out w').mono fun e w'' ⟨he, hb⟩ => ⟨he, hw'.trans (hb.mono hw'.size)⟩) ?_
  simp only [Act.put, List.setIfInBounds_toArray, List.set_cons_succ, List.set_cons_zero]
  refine q_move _ rfl rfl ?_
  simp only [Act.put, List.setIfInBounds_toArray, List.set_cons_succ, List.set_cons_zero]
  refine q_call 18 _ (.int .i64 H) rfl (fun w' => by go_simp) (fun w' hw' => (HH2.out w').mono fun e w'' ⟨he, hb⟩ => ⟨he, hw'.trans (hb.mono hw'.size)⟩) ?_
  simp only [Act.put, List.setIfInBounds_toArray, List.set_cons_succ, List.set_cons_zero]
  refine q_val (.bool true) rfl (fun w' hw' => by go_simp) ?_
  simp only [Act.put, List.setIfInBounds_toArray, List.set_cons_succ, List.set_cons_zero]
  refine q_val (.bool true) rfl (fun w' hw' => by go_simp) ?_
  simp only [Act.put, List.setIfInBounds_toArray, List.set_cons_succ, List.set_cons_zero]
  refine q_move _ rfl rfl ?_
  simp only [Act.put, List.setIfInBounds_toArray, List.set_cons_succ, List.set_cons_zero]
  refine q_val (.agg #[.int .i64 gen, .slice ao n cap2]) rfl (fun w' hw' => by have k0 := HO0.out w' hw'; have k1 := HO1.out w' hw'; go_simp) ?_
  simp only [Act.put, List.setIfInBounds_toArray, List.set_cons_succ, List.set_cons_zero]
  refine q_val (.agg #[.int .i64 gen, .slice pa n cap]) rfl (fun w' hw' => by have k0 := HM0.out w' hw'; have k1 := HM1.out w' hw'; go_simp) ?_
  simp only [Act.put, List.setIfInBounds_toArray, List.set_cons_succ, List.set_cons_zero]
  refine q_call 19 _ (.bool true) rfl (fun w' => by go_simp) (fun w' hw' => (HSM.out ao cap2 w'.heap.size w.heap.size w' (HLO.out w' hw') (HLA.out w' hw')).mono fun e w'' ⟨he, hb⟩ => ⟨he, hw'.trans (hb.mono hw'.size)⟩) ?_
  simp only [Act.put, List.setIfInBounds_toArray, List.set_cons_succ, List.set_cons_zero]
  refine q_val (.bool true) rfl (fun w' hw' => by go_simp) ?_
  simp only [Act.put, List.setIfInBounds_toArray, List.set_cons_succ, List.set_cons_zero]
  refine q_val (.bool true) rfl (fun w' hw' => by go_simp) ?_
  simp only [Act.put, List.setIfInBounds_toArray, List.set_cons_succ, List.set_cons_zero]
  refine wpQuiet_nil ?_
  intro w' hw'
  go_wp2_with fail
  go_ret
  exact ⟨rfl, hB7.trans (hw'.mono (by omega))⟩
end Rm
end Go.Proofs.YtlhncceajpdahaaDoor
