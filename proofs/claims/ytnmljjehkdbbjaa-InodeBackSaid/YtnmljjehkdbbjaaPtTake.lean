/- ptr: takeSide, Take. -/
import Derived.Test.YtnmljjehkdbbjaaPtPut
import Derived.Test.YtnmljjehkdbbjaaPtFits
import Derived.Test.YtnmljjehkdbbjaaQTail2
namespace Go.Proofs.Ytnmljjehkdbbjaa
set_option maxRecDepth 20000
namespace Pt
open Go.RowKit Dk Eqb Byt

def sideT (n : Nat) (a : Int) (f : Nat → Int) : Int := if Wd.takeN n a 4 f = noneN then -1 else Wd.takeN n a 4 f
theorem sideT_none {n : Nat} {a : Int} {f : Nat → Int} {z : Int} (h : Wd.takeN n a 4 f = z) (e : z = 4294967295) : sideT n a f = -1 := by
  unfold sideT noneN
  rw [h, if_pos e]
theorem sideT_other {n : Nat} {a : Int} {f : Nat → Int} {z : Int} (h : Wd.takeN n a 4 f = z) (e : z ≠ 4294967295) : sideT n a f = z := by
  unfold sideT noneN
  rw [h, if_neg e]
theorem takeside_any (w : World) (ao : Option Addr) (n cap : Nat) (f : Nat → Int) (a : Int) (h : Wd.Reads w ao n cap f) (hf : ∀ i, i < n → 0 ≤ f i ∧ f i < 256) (hn : n ≤ 140737488355328) :
    Calls Try.prog 45 #[.slice ao n cap, .int .i64 a] w fun e w' => e = .returned (.int .i64 (sideT n a f)) ∧ w = w' := by
  have HT := Lib.hid (Wd.take_any w ao n cap f a 4 h hf hn)
  have HS : ∀ z, Wd.takeN n a 4 f = z → Hid ((z = 4294967295 → sideT n a f = -1) ∧ (z ≠ 4294967295 → sideT n a f = z)) := fun z hz => Lib.hid ⟨sideT_none hz, sideT_other hz⟩
  have HS' := HS _ rfl
  clear h hf HS
  generalize Wd.takeN n a 4 f = z at *
  generalize Wd.takeE n a 4 f = e at *
  by_cases hz : z = 4294967295
  · have HV := Lib.hid (HS'.out.1 hz)
    clear HS'
    subst hz
    go_enter Try.func45, Try.ntmps45
    go_wp2_with fail
    refine HT.out.mono ?_
    rintro _ w1 ⟨rfl, rfl⟩
    dsimp only
    go_wp2_with fail
    go_ret
    exact ⟨by rw [HV.out]; rfl, rfl⟩
  · have HV := Lib.hid (HS'.out.2 hz)
    have hz' : (z == 4294967295) = false := by simpa using hz
    clear HS' hz
    go_enter Try.func45, Try.ntmps45
    go_wp2_with fail
    refine HT.out.mono ?_
    rintro _ w1 ⟨rfl, rfl⟩
    dsimp only
    go_wp2_with fail
    go_ret
    exact ⟨by rw [HV.out]; rfl, rfl⟩

/-- a quiet call of a function, as one step of a region that draws its order -/
theorem step_call_w {P : Program} {ops : Array Oper} {o : Oper} {a : Act} {w : World} {K : Act → World → Prop} {Q : Exit → Act → World → Prop} {E : Prop} (hgd : o.guard = none) (f : FuncId) (args : Array Value) (v : Value) (ho : (execOp a.eval o).run P w = .ok (.enter f args) w)
    (hc : Calls P f args w fun e w' => e = .returned v ∧ w = w') (h : K (a.put o.dst v) w) : if Region.wanted o (yielded ops a.tmps) = true then Oper.wp P o a w K Q else E := by
  have hw : Region.wanted o (yielded ops a.tmps) = true := by simp [Region.wanted, hgd]
  rw [if_pos hw]
  unfold Oper.wp
  rw [ho, Oper.upon_enter]
  refine hc.mono ?_
  rintro _ w' ⟨rfl, rfl⟩
  exact h
def tkP (n : Nat) (a : Int) (f : Nat → Int) : Pn := ⟨sideT n a f, sideT n (a + 4) f, fun i => f ((a + 8).toNat + i)⟩
def tkV (n : Nat) (a : Int) (f : Nat → Int) : Pn := if withinB n a = true then if rightB (tkP n a f) = true then tkP n a f else pz else pz
def tkE (n : Nat) (a : Int) (f : Nat → Int) : Int := if withinB n a = true then if rightB (tkP n a f) = true then 0 else 15 else 1

theorem wp_buildV {P : Program} {o : Oper} {a : Act} {w : World} {K : Act → World → Prop} {Q : Exit → Act → World → Prop} (t : TypeId) (parts : Array (Nat × Operand)) (ho : o.op = .build t parts)
    (cells : Array Value) (hf : P.built t (parts.map fun (i, x) => (i, a.eval x)).toList = some cells) (h : K (a.put o.dst (.agg cells)) w) : o.wp P a w K Q := by
  unfold Oper.wp execOp
  simp only [ho, Sem.run_bind, run_build w t _ _ hf, Result.andThen_ok]
  exact h
theorem rowSum {w : World} {g n a : Nat} {f : Nat → Int} (h : Row w g 0 n f) (ha : a + 40 ≤ n) : w.rangeAt g (a + 8) (Sha.arr 32 (Sha.vu8 fun i => f (a + 8 + i))).toList := fun j v hv => by
  have hj : j < 32 := by
    have := (List.getElem?_eq_some_iff.1 hv).1
    simpa [Sha.arr_size] using this
  have hc := h.cell (j := a + 8 + j) (by omega)
  rw [Nat.zero_add] at hc
  rw [hc]
  have h1 : (Sha.arr 32 (Sha.vu8 fun i => f (a + 8 + i))).toList[j]? = some (.int .u8 (f (a + 8 + j))) := by
    have := Sha.arr_get (Sha.vu8 fun i => f (a + 8 + i)) hj
    simpa [Sha.vu8] using this
  rw [h1] at hv
  exact hv
theorem run_arr (x : Option Addr) (len cap : Nat) (h : 32 ≤ len) (W : World) : (Instr.arrayAt 22 (.slice x len cap)).run Try.prog W = .ok (.pointer x) W := by
  simp [Instr.arrayAt, run_underlying undS, show ¬ len < 32 by omega]
def TkInv (x2 x3 x4 x5 x7 x8 x9 x10 x11 x27 x28 x29 x30 x31 : Value) (g n cap a : Nat) (TA TB : Int) (S : Nat → Int) (w0 : World) (L : Nat → Bool) (a' : Act) (w' : World) : Prop :=
  ∃ u0 u1 u2 u3 u4 u5 u6 u7 u8 u9 u10 u11 u12 u13 u14 u15, a' = { tmps := #[.slice (some ⟨g, 0, none⟩) n cap, .int .i64 (a : Int), x2, x3, x4, x5, u15, x7, x8, x9, x10, x11, u0, u1, u2, u3, u4, u5, u6, u7, u8, u9, u10, u11, u12, u13, u14, x27, x28, x29, x30, x31], defers := [] } ∧ (L 0 = true → u0 = .slice (some ⟨g, 0, none⟩) n cap) ∧ (L 1 = true → u1 = .int .i64 (a : Int)) ∧ (L 2 = true → u2 = .int .i64 (a : Int)) ∧ (L 3 = true → u3 = .int .i64 TA) ∧ (L 4 = true → u4 = .slice (some ⟨g, 0, none⟩) n cap) ∧ (L 5 = true → u5 = .int .i64 (a : Int)) ∧ (L 6 = true → u6 = .int .i64 ((a : Int) + 4)) ∧ (L 7 = true → u7 = .int .i64 TB) ∧ (L 8 = true → u8 = .slice (some ⟨g, 0, none⟩) n cap) ∧ (L 9 = true → u9 = .int .i64 (a : Int)) ∧ (L 10 = true → u10 = .int .i64 ((a : Int) + 8)) ∧ (L 11 = true → u11 = .slice (some ⟨g, a + 8, none⟩) (n - (a + 8)) (cap - (a + 8))) ∧ (L 12 = true → u12 = .pointer (some ⟨g, a + 8, none⟩)) ∧ (L 13 = true → u13 = .agg (Sha.arr 32 (Sha.vu8 S))) ∧ (L 14 = true → u14 = .agg (pV ⟨TA, TB, S⟩).toArray) ∧ (L 15 = true → ∃ bk, u15 = .pointer (some ⟨bk, 0, none⟩) ∧ w0.heap.size ≤ bk ∧ w'.heap[bk]? = some (.cells (pV pz).toArray 24 (0, 0))) ∧ Below w0.heap.size w0 w'
theorem TkInv_al {L : Nat → Bool} {i : Nat} {P : Nat → Prop} {u : Value} (h : L 15 = true → ∃ bk, u = .pointer (some ⟨bk, 0, none⟩) ∧ P bk) (h1 : (15 == i) = false) : (15 == i || L 15) = true → ∃ bk, u = .pointer (some ⟨bk, 0, none⟩) ∧ P bk := by
  rw [h1, Bool.false_or]
  exact h
theorem TkInv_kl {L : Nat → Bool} {i k : Nat} {Q : Prop} (h : L k = true → Q) (h1 : (k == i) = false) : (k == i || L k) = true → Q := by
  rw [h1, Bool.false_or]
  exact h

attribute [local go_sem] zvP
set_option maxRecDepth 100000 in
set_option maxHeartbeats 2000000 in
theorem take_any (w : World) (B : Nat) (ao : Option Addr) (n cap : Nat) (f : Nat → Int) (a : Int) (h : Wd.Own w B ao n cap f) (hf : ∀ i, i < n → 0 ≤ f i ∧ f i < 256) (hn : n ≤ 140737488355328) :
    Calls Try.prog 37 #[.slice ao n cap, .int .i64 a] w fun e w' => e = .returned (.tuple #[.agg (pV (tkV n a f)).toArray, .int .i64 (tkE n a f)]) ∧ Below w.heap.size w w' := by
  obtain ⟨W, hW, hb0, hx0, hs0⟩ : ∃ W, W = w.alloc (.cells (pV pz).toArray 24) ∧ Below w.heap.size w W ∧ W.heap[w.heap.size]? = some (.cells (pV pz).toArray 24 (0, 0)) ∧ W.heap.size = w.heap.size + 1 := ⟨_, rfl, box_pt w pz⟩
  have hO0 : Wd.Own W B ao n cap f := h.below hb0
  have HW := Lib.hid (fun W => within_any ao n cap a W hn)
  have HV : Hid (tkV n a f = if withinB n a = true then if rightB (tkP n a f) = true then tkP n a f else pz else pz) := Lib.hid rfl
  have HE : Hid (tkE n a f = if withinB n a = true then if rightB (tkP n a f) = true then 0 else 15 else 1) := Lib.hid rfl
  generalize tkV n a f = V at HV ⊢
  generalize tkE n a f = E at HE ⊢
  cases hw : withinB n a with
  | false =>
    rw [hw] at HW HV HE
    clear hw hO0 hf h
    go_enter Try.func37, Try.ntmps37
    go_wp2_with fail
    rw [zrow, ← hW]
    clear hW
    refine (HW.out W).mono ?_
    rintro _ w1 ⟨rfl, rfl⟩
    dsimp only
    go_wp2_with (first
      | (refine @wpList_buildG _ _ _ _ _ _ _ (by kernel_rfl) 24 #[] rfl (pV pz).toArray (by kernel_rfl) ?_; simp only [Act.put, List.setIfInBounds_toArray, List.set_cons_succ, List.set_cons_zero])
      | (refine @wpList_store_row _ _ _ _ _ _ _ rfl 24 (.tmp 4) (.tmp 11) rfl w.heap.size (pV pz).toArray rfl rfl 24 _ hx0 (sizeP' _) rfl (pV_all _) ?_; simp only [Act.put]))
    have hr9 := setRow_heap W w.heap.size _ (pV pz).toArray 24 (0, 0) hx0
    refine bodyPost_ret (results_2p rfl rfl rfl hr9) rfl ?_
    exact ⟨by rw [HV.out, HE.out]; rfl, hb0.trans ⟨rfl, rfl, rfl, by simp, fun k hk => setRow_other W _ k _ (by omega)⟩⟩
  | true =>
    obtain ⟨h0, h1⟩ := within_iff.1 hw
    obtain ⟨a', rfl⟩ : ∃ m : Nat, a = m := ⟨a.toNat, by omega⟩
    rw [hw] at HW HV HE
    rw [if_pos rfl] at HV HE
    obtain ⟨g, rfl, hBg, hrow⟩ := h.row.resolve_left (by rintro ⟨_, h0⟩; omega)
    have hgl := hrow.lt
    have hcap := h.room
    have HOW := Lib.hid (fun w' (hb : Below W.heap.size W w') => (hO0.below hb).reads)
    have HRW := Lib.hid (fun w' (hb : Below W.heap.size W w') => ((hrow.block (hb0.block g hgl)).block (hb.block g (by omega))))
    have HF := Lib.hid hf
    have hT : Hid (tkP n a' f = ⟨sideT n a' f, sideT n ((a' : Int) + 4) f, fun i => f (a' + 8 + i)⟩) := Lib.hid rfl
    clear hw hO0 hf h hrow
    go_enter Try.func37, Try.ntmps37
    go_wp2_with fail
    rw [zrow, ← hW]
    clear hW
    refine (HW.out W).mono ?_
    rintro _ w1 ⟨rfl, rfl⟩
    dsimp only
    go_wp2_with fail
    have hcut := fun W => run_cut g n cap (a' + 8) ((a' : Int) + 8) (by omega) (by omega) (by omega) hcap W
    have harr := fun W => run_arr (some ⟨g, a' + 8, none⟩) (n - (a' + 8)) (cap - (a' + 8)) (by omega) W
    have HTA := Lib.hid (fun w' (hb : Below W.heap.size W w') => takeside_any w' (some ⟨g, 0, none⟩) n cap f a' (HOW.out w' hb) HF.out hn)
    have HTB := Lib.hid (fun w' (hb : Below W.heap.size W w') => takeside_any w' (some ⟨g, 0, none⟩) n cap f ((a' : Int) + 4) (HOW.out w' hb) HF.out hn)
    have HSR := Lib.hid (fun w' (hb : Below W.heap.size W w') => rowSum (a := a') (HRW.out w' hb) (by omega))
    generalize hS : (fun i => f (a' + 8 + i)) = S at *
    generalize sideT n a' f = TA at *
    generalize sideT n ((a' : Int) + 4) f = TB at *
    clear hS HOW HRW HF
    refine QuietTail2.regionInv (n := 16) (Inv := TkInv _ _ _ _ _ _ _ _ _ _ _ _ _ _ g n cap a' TA TB S W) (by kernel_rfl) (by decide) (by kernel_rfl) ⟨_, _, _, _, _, _, _, _, _, _, _, _, _, _, _, _, rfl, by simp, by simp, by simp, by simp, by simp, by simp, by simp, by simp, by simp, by simp, by simp, by simp, by simp, by simp, by simp, by simp, ⟨rfl, rfl, rfl, Nat.le_refl _, fun _ _ => rfl⟩⟩ ?step ?fin
    case step =>
      rintro i o hi ho L a' w' ⟨u0, u1, u2, u3, u4, u5, u6, u7, u8, u9, u10, u11, u12, u13, u14, u15, rfl, i0, i1, i2, i3, i4, i5, i6, i7, i8, i9, i10, i11, i12, i13, i14, ia, iB⟩ hL hpre
      match i, hi with
      | 0, _ =>
        simp at ho
        subst ho
        go_simp
        exact ⟨_, u1, u2, u3, u4, u5, u6, u7, u8, u9, u10, u11, u12, u13, u14, u15, rfl, fun _ => rfl, TkInv_kl i1 rfl, TkInv_kl i2 rfl, TkInv_kl i3 rfl, TkInv_kl i4 rfl, TkInv_kl i5 rfl, TkInv_kl i6 rfl, TkInv_kl i7 rfl, TkInv_kl i8 rfl, TkInv_kl i9 rfl, TkInv_kl i10 rfl, TkInv_kl i11 rfl, TkInv_kl i12 rfl, TkInv_kl i13 rfl, TkInv_kl i14 rfl, TkInv_al ia rfl, iB⟩
      | 1, _ =>
        simp at ho
        subst ho
        go_simp
        exact ⟨u0, _, u2, u3, u4, u5, u6, u7, u8, u9, u10, u11, u12, u13, u14, u15, rfl, TkInv_kl i0 rfl, fun _ => rfl, TkInv_kl i2 rfl, TkInv_kl i3 rfl, TkInv_kl i4 rfl, TkInv_kl i5 rfl, TkInv_kl i6 rfl, TkInv_kl i7 rfl, TkInv_kl i8 rfl, TkInv_kl i9 rfl, TkInv_kl i10 rfl, TkInv_kl i11 rfl, TkInv_kl i12 rfl, TkInv_kl i13 rfl, TkInv_kl i14 rfl, TkInv_al ia rfl, iB⟩
      | 2, _ =>
        simp at ho
        subst ho
        obtain rfl := i1 (hpre 1 (by kernel_rfl))
        have k0 : IntKind.i64.wrap (a' : Int) = a' := IntWalk.i64_in _ (by omega)
        go_simp
        exact ⟨u0, _, _, u3, u4, u5, u6, u7, u8, u9, u10, u11, u12, u13, u14, u15, rfl, TkInv_kl i0 rfl, TkInv_kl i1 rfl, fun _ => rfl, TkInv_kl i3 rfl, TkInv_kl i4 rfl, TkInv_kl i5 rfl, TkInv_kl i6 rfl, TkInv_kl i7 rfl, TkInv_kl i8 rfl, TkInv_kl i9 rfl, TkInv_kl i10 rfl, TkInv_kl i11 rfl, TkInv_kl i12 rfl, TkInv_kl i13 rfl, TkInv_kl i14 rfl, TkInv_al ia rfl, iB⟩
      | 3, _ =>
        simp at ho
        subst ho
        obtain rfl := i0 (hpre 0 (by kernel_rfl))
        obtain rfl := i2 (hpre 2 (by kernel_rfl))
        go_simp
        refine (HTA.out w' iB).mono ?_
        rintro _ w'' ⟨rfl, rfl⟩
        exact ⟨_, u1, _, _, u4, u5, u6, u7, u8, u9, u10, u11, u12, u13, u14, u15, rfl, TkInv_kl i0 rfl, TkInv_kl i1 rfl, TkInv_kl i2 rfl, fun _ => rfl, TkInv_kl i4 rfl, TkInv_kl i5 rfl, TkInv_kl i6 rfl, TkInv_kl i7 rfl, TkInv_kl i8 rfl, TkInv_kl i9 rfl, TkInv_kl i10 rfl, TkInv_kl i11 rfl, TkInv_kl i12 rfl, TkInv_kl i13 rfl, TkInv_kl i14 rfl, TkInv_al ia rfl, iB⟩
      | 4, _ =>
        simp at ho
        subst ho
        go_simp
        exact ⟨u0, u1, u2, u3, _, u5, u6, u7, u8, u9, u10, u11, u12, u13, u14, u15, rfl, TkInv_kl i0 rfl, TkInv_kl i1 rfl, TkInv_kl i2 rfl, TkInv_kl i3 rfl, fun _ => rfl, TkInv_kl i5 rfl, TkInv_kl i6 rfl, TkInv_kl i7 rfl, TkInv_kl i8 rfl, TkInv_kl i9 rfl, TkInv_kl i10 rfl, TkInv_kl i11 rfl, TkInv_kl i12 rfl, TkInv_kl i13 rfl, TkInv_kl i14 rfl, TkInv_al ia rfl, iB⟩
      | 5, _ =>
        simp at ho
        subst ho
        go_simp
        exact ⟨u0, u1, u2, u3, u4, _, u6, u7, u8, u9, u10, u11, u12, u13, u14, u15, rfl, TkInv_kl i0 rfl, TkInv_kl i1 rfl, TkInv_kl i2 rfl, TkInv_kl i3 rfl, TkInv_kl i4 rfl, fun _ => rfl, TkInv_kl i6 rfl, TkInv_kl i7 rfl, TkInv_kl i8 rfl, TkInv_kl i9 rfl, TkInv_kl i10 rfl, TkInv_kl i11 rfl, TkInv_kl i12 rfl, TkInv_kl i13 rfl, TkInv_kl i14 rfl, TkInv_al ia rfl, iB⟩
      | 6, _ =>
        simp at ho
        subst ho
        obtain rfl := i5 (hpre 5 (by kernel_rfl))
        have k0 : IntKind.i64.wrap ((a' : Int) + 4) = a' + 4 := IntWalk.i64_in _ (by omega)
        go_simp
        exact ⟨u0, u1, u2, u3, u4, _, _, u7, u8, u9, u10, u11, u12, u13, u14, u15, rfl, TkInv_kl i0 rfl, TkInv_kl i1 rfl, TkInv_kl i2 rfl, TkInv_kl i3 rfl, TkInv_kl i4 rfl, TkInv_kl i5 rfl, fun _ => rfl, TkInv_kl i7 rfl, TkInv_kl i8 rfl, TkInv_kl i9 rfl, TkInv_kl i10 rfl, TkInv_kl i11 rfl, TkInv_kl i12 rfl, TkInv_kl i13 rfl, TkInv_kl i14 rfl, TkInv_al ia rfl, iB⟩
      | 7, _ =>
        simp at ho
        subst ho
        obtain rfl := i4 (hpre 4 (by kernel_rfl))
        obtain rfl := i6 (hpre 6 (by kernel_rfl))
        go_simp
        refine (HTB.out w' iB).mono ?_
        rintro _ w'' ⟨rfl, rfl⟩
        exact ⟨u0, u1, u2, u3, _, u5, _, _, u8, u9, u10, u11, u12, u13, u14, u15, rfl, TkInv_kl i0 rfl, TkInv_kl i1 rfl, TkInv_kl i2 rfl, TkInv_kl i3 rfl, TkInv_kl i4 rfl, TkInv_kl i5 rfl, TkInv_kl i6 rfl, fun _ => rfl, TkInv_kl i8 rfl, TkInv_kl i9 rfl, TkInv_kl i10 rfl, TkInv_kl i11 rfl, TkInv_kl i12 rfl, TkInv_kl i13 rfl, TkInv_kl i14 rfl, TkInv_al ia rfl, iB⟩
      | 8, _ =>
        simp at ho
        subst ho
        go_simp
        exact ⟨u0, u1, u2, u3, u4, u5, u6, u7, _, u9, u10, u11, u12, u13, u14, u15, rfl, TkInv_kl i0 rfl, TkInv_kl i1 rfl, TkInv_kl i2 rfl, TkInv_kl i3 rfl, TkInv_kl i4 rfl, TkInv_kl i5 rfl, TkInv_kl i6 rfl, TkInv_kl i7 rfl, fun _ => rfl, TkInv_kl i9 rfl, TkInv_kl i10 rfl, TkInv_kl i11 rfl, TkInv_kl i12 rfl, TkInv_kl i13 rfl, TkInv_kl i14 rfl, TkInv_al ia rfl, iB⟩
      | 9, _ =>
        simp at ho
        subst ho
        go_simp
        exact ⟨u0, u1, u2, u3, u4, u5, u6, u7, u8, _, u10, u11, u12, u13, u14, u15, rfl, TkInv_kl i0 rfl, TkInv_kl i1 rfl, TkInv_kl i2 rfl, TkInv_kl i3 rfl, TkInv_kl i4 rfl, TkInv_kl i5 rfl, TkInv_kl i6 rfl, TkInv_kl i7 rfl, TkInv_kl i8 rfl, fun _ => rfl, TkInv_kl i10 rfl, TkInv_kl i11 rfl, TkInv_kl i12 rfl, TkInv_kl i13 rfl, TkInv_kl i14 rfl, TkInv_al ia rfl, iB⟩
      | 10, _ =>
        simp at ho
        subst ho
        obtain rfl := i9 (hpre 9 (by kernel_rfl))
        have k0 : IntKind.i64.wrap ((a' : Int) + 8) = a' + 8 := IntWalk.i64_in _ (by omega)
        go_simp
        exact ⟨u0, u1, u2, u3, u4, u5, u6, u7, u8, _, _, u11, u12, u13, u14, u15, rfl, TkInv_kl i0 rfl, TkInv_kl i1 rfl, TkInv_kl i2 rfl, TkInv_kl i3 rfl, TkInv_kl i4 rfl, TkInv_kl i5 rfl, TkInv_kl i6 rfl, TkInv_kl i7 rfl, TkInv_kl i8 rfl, TkInv_kl i9 rfl, fun _ => rfl, TkInv_kl i11 rfl, TkInv_kl i12 rfl, TkInv_kl i13 rfl, TkInv_kl i14 rfl, TkInv_al ia rfl, iB⟩
      | 11, _ =>
        simp at ho
        subst ho
        obtain rfl := i8 (hpre 8 (by kernel_rfl))
        obtain rfl := i10 (hpre 10 (by kernel_rfl))
        have k0 := hcut w'
        go_simp
        exact ⟨u0, u1, u2, u3, u4, u5, u6, u7, _, u9, _, _, u12, u13, u14, u15, rfl, TkInv_kl i0 rfl, TkInv_kl i1 rfl, TkInv_kl i2 rfl, TkInv_kl i3 rfl, TkInv_kl i4 rfl, TkInv_kl i5 rfl, TkInv_kl i6 rfl, TkInv_kl i7 rfl, TkInv_kl i8 rfl, TkInv_kl i9 rfl, TkInv_kl i10 rfl, fun _ => rfl, TkInv_kl i12 rfl, TkInv_kl i13 rfl, TkInv_kl i14 rfl, TkInv_al ia rfl, iB⟩
      | 12, _ =>
        simp at ho
        subst ho
        obtain rfl := i11 (hpre 11 (by kernel_rfl))
        have k0 := harr w'
        go_simp
        exact ⟨u0, u1, u2, u3, u4, u5, u6, u7, u8, u9, u10, _, _, u13, u14, u15, rfl, TkInv_kl i0 rfl, TkInv_kl i1 rfl, TkInv_kl i2 rfl, TkInv_kl i3 rfl, TkInv_kl i4 rfl, TkInv_kl i5 rfl, TkInv_kl i6 rfl, TkInv_kl i7 rfl, TkInv_kl i8 rfl, TkInv_kl i9 rfl, TkInv_kl i10 rfl, TkInv_kl i11 rfl, fun _ => rfl, TkInv_kl i13 rfl, TkInv_kl i14 rfl, TkInv_al ia rfl, iB⟩
      | 13, _ =>
        simp at ho
        subst ho
        obtain rfl := i12 (hpre 12 (by kernel_rfl))
        refine wp_load_mid 22 (.tmp 24) rfl g (a' + 8) rfl (Sha.arr 32 (Sha.vu8 S)).toList _ (HSR.out w' iB) undS rfl (sizeS S) ?_
        simp only [Act.put, List.setIfInBounds_toArray, List.set_cons_succ, List.set_cons_zero, Array.toArray_toList]
        exact ⟨u0, u1, u2, u3, u4, u5, u6, u7, u8, u9, u10, u11, _, _, u14, u15, rfl, TkInv_kl i0 rfl, TkInv_kl i1 rfl, TkInv_kl i2 rfl, TkInv_kl i3 rfl, TkInv_kl i4 rfl, TkInv_kl i5 rfl, TkInv_kl i6 rfl, TkInv_kl i7 rfl, TkInv_kl i8 rfl, TkInv_kl i9 rfl, TkInv_kl i10 rfl, TkInv_kl i11 rfl, TkInv_kl i12 rfl, fun _ => rfl, TkInv_kl i14 rfl, TkInv_al ia rfl, iB⟩
      | 14, _ =>
        simp at ho
        subst ho
        obtain rfl := i3 (hpre 3 (by kernel_rfl))
        obtain rfl := i7 (hpre 7 (by kernel_rfl))
        obtain rfl := i13 (hpre 13 (by kernel_rfl))
        refine wp_buildV 24 #[(0, .tmp 15), (1, .tmp 19), (2, .tmp 25)] rfl (pV ⟨TA, TB, S⟩).toArray (by kernel_rfl) ?_
        simp only [Act.put, List.setIfInBounds_toArray, List.set_cons_succ, List.set_cons_zero]
        exact ⟨u0, u1, u2, _, u4, u5, u6, _, u8, u9, u10, u11, u12, _, _, u15, rfl, TkInv_kl i0 rfl, TkInv_kl i1 rfl, TkInv_kl i2 rfl, TkInv_kl i3 rfl, TkInv_kl i4 rfl, TkInv_kl i5 rfl, TkInv_kl i6 rfl, TkInv_kl i7 rfl, TkInv_kl i8 rfl, TkInv_kl i9 rfl, TkInv_kl i10 rfl, TkInv_kl i11 rfl, TkInv_kl i12 rfl, TkInv_kl i13 rfl, fun _ => rfl, TkInv_al ia rfl, iB⟩
      | 15, _ =>
        simp at ho
        subst ho
        have hn := heap_alloc_new w' (.cells (pV pz).toArray 24)
        go_simp
        rw [zrow]
        exact ⟨u0, u1, u2, u3, u4, u5, u6, u7, u8, u9, u10, u11, u12, u13, u14, _, rfl, TkInv_kl i0 rfl, TkInv_kl i1 rfl, TkInv_kl i2 rfl, TkInv_kl i3 rfl, TkInv_kl i4 rfl, TkInv_kl i5 rfl, TkInv_kl i6 rfl, TkInv_kl i7 rfl, TkInv_kl i8 rfl, TkInv_kl i9 rfl, TkInv_kl i10 rfl, TkInv_kl i11 rfl, TkInv_kl i12 rfl, TkInv_kl i13 rfl, TkInv_kl i14 rfl, fun _ => ⟨_, rfl, iB.size, hn⟩, iB.alloc iB.size _⟩
      | i + 16, h => omega
    case fin =>
      rintro L a' w5 hall ⟨u0, u1, u2, u3, u4, u5, u6, u7, u8, u9, u10, u11, u12, u13, u14, u15, rfl, i0, i1, i2, i3, i4, i5, i6, i7, i8, i9, i10, i11, i12, i13, i14, ia, iB⟩
      obtain rfl := i0 (hall 0 (by omega))
      obtain rfl := i1 (hall 1 (by omega))
      obtain rfl := i2 (hall 2 (by omega))
      obtain rfl := i3 (hall 3 (by omega))
      obtain rfl := i4 (hall 4 (by omega))
      obtain rfl := i5 (hall 5 (by omega))
      obtain rfl := i6 (hall 6 (by omega))
      obtain rfl := i7 (hall 7 (by omega))
      obtain rfl := i8 (hall 8 (by omega))
      obtain rfl := i9 (hall 9 (by omega))
      obtain rfl := i10 (hall 10 (by omega))
      obtain rfl := i11 (hall 11 (by omega))
      obtain rfl := i12 (hall 12 (by omega))
      obtain rfl := i13 (hall 13 (by omega))
      obtain rfl := i14 (hall 14 (by omega))
      obtain ⟨bk, rfl, hbk, hbz⟩ := ia (hall 15 (by omega))
      clear i0 i1 i2 i3 i4 i5 i6 i7 i8 i9 i10 i11 i12 i13 i14 ia hall
      simp only [List.drop_succ_cons, List.drop_zero]
      have hR6 := setRow_heap w5 bk _ (pV ⟨TA, TB, S⟩).toArray 24 (0, 0) hbz
      have hb6 : Below W.heap.size W (w5.setRow bk (pV ⟨TA, TB, S⟩).toArray) := iB.trans ⟨rfl, rfl, rfl, by simp [World.setRow], fun k hk => setRow_other w5 bk k _ (by omega)⟩
      refine @wpList_store_row _ _ _ _ _ _ _ rfl 24 (.tmp 6) (.tmp 26) rfl bk (pV ⟨TA, TB, S⟩).toArray rfl rfl 24 _ hbz (sizeP' _) rfl (pV_all _) ?_
      simp only [Act.put]
      generalize w5.setRow bk (pV ⟨TA, TB, S⟩).toArray = w6 at hR6 hb6 ⊢
      refine wpList_nil ?_
      clear hbz iB hcut harr HTA HTB HSR
      have hx6 := (hb6.block w.heap.size (by omega)).trans hx0
      have hB6 := hb0.trans (hb6.mono (by omega))
      have hs6 := hb6.size
      have hbl : bk < w6.heap.size := (Array.getElem?_eq_some_iff.1 hR6).1
      have HV2 := HV.out
      have HE2 := HE.out
      rw [hT.out] at HV2 HE2
      have HV3 := Lib.hid HV2
      have HE3 := Lib.hid HE2
      have HR := Lib.hid (fun W => right_any ⟨TA, TB, S⟩ W)
      clear HV2 HE2 HV HE hT
      generalize rightB ⟨TA, TB, S⟩ = r at *
      go_wp2_with (refine @wpList_loadG _ _ _ _ _ _ _ (by kernel_rfl) 24 (.tmp 6) rfl bk 0 rfl (pV ⟨TA, TB, S⟩) _ (row_pt hR6) undP rfl (sizeP _) ?_; simp only [Act.put, List.setIfInBounds_toArray, List.set_cons_succ, List.set_cons_zero])
      refine (HR.out w6).mono ?_
      rintro _ w7 ⟨rfl, hb7⟩
      have hx7 := (hb7.block w.heap.size (by omega)).trans hx6
      have hR7 := (hb7.block bk (by omega)).trans hR6
      have hB7 := hB6.trans (hb7.mono (by omega))
      clear hx6 hR6 hb7 HR hb6
      dsimp only
      cases r with
      | false =>
        go_wp2_with (first
          | (refine @wpList_buildG _ _ _ _ _ _ _ (by kernel_rfl) 24 #[] rfl (pV pz).toArray (by kernel_rfl) ?_; simp only [Act.put, List.setIfInBounds_toArray, List.set_cons_succ, List.set_cons_zero])
          | (refine @wpList_store_row _ _ _ _ _ _ _ rfl 24 (.tmp 4) (.tmp 30) rfl w.heap.size (pV pz).toArray rfl rfl 24 _ hx7 (sizeP' _) rfl (pV_all _) ?_; simp only [Act.put]))
        have hr9 := setRow_heap w7 w.heap.size _ (pV pz).toArray 24 (0, 0) hx7
        refine bodyPost_ret (results_2p rfl rfl rfl hr9) rfl ?_
        exact ⟨by rw [HV3.out, HE3.out]; rfl, hB7.trans ⟨rfl, rfl, rfl, by simp, fun k hk => setRow_other w7 _ k _ (by omega)⟩⟩
      | true =>
        go_wp2_with (first
          | (refine @wpList_loadG _ _ _ _ _ _ _ (by kernel_rfl) 24 (.tmp 6) rfl bk 0 rfl (pV ⟨TA, TB, S⟩) _ (row_pt hR7) undP rfl (sizeP _) ?_; simp only [Act.put, List.setIfInBounds_toArray, List.set_cons_succ, List.set_cons_zero])
          | (refine @wpList_store_row _ _ _ _ _ _ _ rfl 24 (.tmp 4) (.tmp 31) rfl w.heap.size (pV ⟨TA, TB, S⟩).toArray rfl rfl 24 _ hx7 (sizeP' _) rfl (pV_all _) ?_; simp only [Act.put]))
        have hr9 := setRow_heap w7 w.heap.size _ (pV ⟨TA, TB, S⟩).toArray 24 (0, 0) hx7
        refine bodyPost_ret (results_2p rfl rfl rfl hr9) rfl ?_
        exact ⟨by rw [HV3.out, HE3.out]; rfl, hB7.trans ⟨rfl, rfl, rfl, by simp, fun k hk => setRow_other w7 _ k _ (by omega)⟩⟩
end Pt
end Go.Proofs.Ytnmljjehkdbbjaa
