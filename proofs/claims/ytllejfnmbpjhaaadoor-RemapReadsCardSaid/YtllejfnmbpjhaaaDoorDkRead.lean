/- disk: Read. -/
import Derived.Test.YtllejfnmbpjhaaaDoorDkIter
namespace Go.Proofs.YtllejfnmbpjhaaaDoor
set_option maxRecDepth 20000
namespace Dk
open Go.RowKit Go.Shelf

attribute [local go_sem] Oper.semAt_some zv65 zv29
attribute [local go_sem] zc29
/-- the place of the last write at a, of the first m -/
def lastW (C : Nat → Wr) (a : Int) : Nat → Option Nat
  | 0 => none
  | j + 1 => if (C j).place = a then some j else lastW C a j
def rdOk (n m : Nat) (C : Nat → Wr) (a : Int) : Bool := formedB n m C && hasB n a
def rdE (n m : Nat) (S : Nat → Sec) (C : Nat → Wr) (d : Bool) (a : Int) : Int :=
  if rdOk n m C a then if d then 3 else match lastW C a m with
    | some _ => 0
    | none => if (S a.toNat).noRead then 2 else 0
  else 1
def rdV (n m : Nat) (S : Nat → Sec) (C : Nat → Wr) (d : Bool) (a : Int) : Nat → Int :=
  if rdE n m S C d a = 0 then match lastW C a m with
    | some j => (C j).data
    | none => (S a.toNat).data
  else fun _ => 0
/-- what a call of Read comes to -/
def Reads (w : World) (n m : Nat) (S : Nat → Sec) (C : Nat → Wr) (d : Bool) (a : Int) (e : Ending) (w' : World) : Prop :=
  e = .returned (.tuple #[.agg (bl (rdV n m S C d a)).toArray, .int .i64 (rdE n m S C d a)]) ∧ Below w.heap.size w w'

theorem size_bl' (f : Nat → Int) : (Tryd.prog.info? 22).map (·.size) = some (bl f).toArray.size := by rw [List.size_toArray]; exact size_bl f
theorem bl_all (f : Nat → Int) : (bl f).toArray.all (·.oneCell') = true := all_oneCell_toArray (bl_one f)
theorem bl_asize (f : Nat → Int) : (bl f).toArray.size = 128 := by rw [List.size_toArray, bl_length]
theorem built29 : Tryd.prog.built 22 [] = some (bl fun _ => 0).toArray := by kernel_rfl

theorem q_load_mid {P : Program} {ops : Array Oper} {C : World → Prop} {a : Act} {o : Oper} {rest : List Oper} {Q : Act → Prop} (ty : TypeId) (x : Operand) (ho : o.op = .load ty x) (hw : Region.wanted o (yielded ops a.tmps) = true) (b off : Nat) (hx : a.eval x = .pointer (some ⟨b, off, none⟩)) (cs : List Value) (d : TypeDesc)
    (hc : ∀ w, C w → w.rangeAt b off cs) (hu : P.underlying ty = some d) (hd : d.isRow = true) (hi : (P.info? ty).map (·.size) = some cs.length) (h : wpQuiet P ops C Q rest (a.put o.dst (.agg cs.toArray))) : wpQuiet P ops C Q (o :: rest) a :=
  q_val (.agg cs.toArray) hw (fun w hw => by
    unfold execOp
    simp only [ho, hx, Instr.loadAt, Instr.sureAddr, Sem.run_bind, Sem.run_pure, Result.andThen_ok, run_loadVar_mid w b off ty cs d (hc w hw) hu hd hi]) h
theorem row_kept {A B : World} {k : Nat} {cs : Array Value} {t : TypeId} {fr : Nat × Nat} {row : Option Nat} (h : A.heap[k]? = some (.cells cs t fr)) (hg : A.grownBy B row) (hr : ∀ r, row = some r → ∃ o : Obj, A.heap[r]? = some o ∧ o.isCells = false) : B.heap[k]? = some (.cells cs t fr) :=
  (hg.block k (Array.getElem?_eq_some_iff.1 h).1 (fun e => by
    obtain ⟨o, ho, hn⟩ := hr k e.symm
    rw [h] at ho
    injection ho with ho
    subst ho
    cases hn)).trans h
theorem lastW_none {C : Nat → Wr} {p : Int} {m : Nat} (h : ∀ j, j < m → (C j).place ≠ p) : lastW C p m = none := by
  induction m with
  | zero => rfl
  | succ m ih => rw [lastW, if_neg (h m (by omega)), ih (fun j hj => h j (by omega))]
theorem lastW_skip {C : Nat → Wr} {p : Int} {x : Nat} (hx : (C x).place = p) : ∀ m, x < m → (∀ j, x < j → j < m → (C j).place ≠ p) → lastW C p m = some x := by
  intro m
  induction m with
  | zero => intro h; omega
  | succ m ih =>
    intro h hj
    by_cases e : x = m
    · subst e; rw [lastW, if_pos hx]
    · rw [lastW, if_neg (hj m (by omega) (by omega))]
      exact ih (by omega) (fun j h1 h2 => hj j h1 (by omega))
theorem lastW_some {C : Nat → Wr} {p : Int} {m k x : Nat} {ini : List Nat} (hk : k ≤ m) (e1 : down m k = ini ++ [x]) (e2 : ∀ y ∈ ini, (C y).place ≠ p) (e3 : (C x).place = p) : lastW C p m = some x := by
  obtain ⟨k', rfl⟩ : ∃ k', k = k' + 1 := by
    cases k with
    | zero => simp [down] at e1
    | succ k' => exact ⟨k', rfl⟩
  rw [down_succ] at e1
  obtain ⟨rfl, e5⟩ := List.append_inj' e1 rfl
  obtain rfl : m - 1 - k' = x := by simpa using e5
  refine lastW_skip e3 m (by omega) (fun j h1 h2 => e2 j ?_)
  simp only [down, List.mem_map, List.mem_range]
  exact ⟨m - 1 - j, by omega, by omega⟩
theorem res_put {w w1 : World} {B E : Nat} {t te : TypeId} {old : Array Value} {v : Value} (hb : Below w.heap.size w w1) (kV : w1.heap[B]? = some (.cells old t (0, 0))) (hB : w.heap.size ≤ B) (kE : Boxed w1 E te v) (hne : E ≠ B) (cells : Array Value) :
    ∃ w2, w2 = w1.setRow B cells ∧ w2.heap[B]? = some (.cells cells t (0, 0)) ∧ Boxed w2 E te v ∧ Below w.heap.size w w2 :=
  ⟨_, rfl, setRow_heap w1 B _ _ t _ kV, (setRow_other w1 B E cells hne).trans kE, hb.trans ⟨rfl, rfl, rfl, by simp, fun k hk => setRow_other w1 B k cells (by omega)⟩⟩
theorem res_end {w w1 : World} {B E : Nat} {t te : TypeId} {cs : Array Value} {v : Value} (hb : Below w.heap.size w w1) (kV : w1.heap[B]? = some (.cells cs t (0, 0))) (kE : Boxed w1 E te v) (hE : w.heap.size ≤ E) (hne : B ≠ E) (u : Value) :
    (w1.setCell ⟨E, 0, none⟩ u).heap[B]? = some (.cells cs t (0, 0)) ∧ Boxed (w1.setCell ⟨E, 0, none⟩ u) E te u ∧ Below w.heap.size w (w1.setCell ⟨E, 0, none⟩ u) :=
  ⟨(Below.heap_setCell _ _ _ _ hne).trans kV, Boxed.set u kE, hb.setCell hE u⟩
theorem results_rd {tmps : Array Value} {w : World} {B E : Nat} {D : Nat → Int} {e : Int} {fn : Func} (hf : fn.results = #[.cell 4 22, .cell 5 27]) (h4 : tmps.getD 4 undef = .pointer (some ⟨B, 0, none⟩)) (h5 : tmps.getD 5 undef = .pointer (some ⟨E, 0, none⟩))
    (kV : w.heap[B]? = some (.cells (bl D).toArray 22 (0, 0))) (kE : Boxed w E 27 (.int .i64 e)) : (results fn tmps).run Tryd.prog w = .ok (.tuple #[.agg (bl D).toArray, .int .i64 e]) w := by
  have h4' : tmps[4]?.getD undef = .pointer (some ⟨B, 0, none⟩) := by simpa using h4
  have h5' : tmps[5]?.getD undef = .pointer (some ⟨E, 0, none⟩) := by simpa using h5
  have hv := run_loadVar_row (P := Tryd.prog) w B 22 22 (bl D).toArray (0, 0) _ kV und29 rfl (size_bl' D)
  have he : (loadVar 27 ⟨E, 0, none⟩).run Tryd.prog w = .ok (.int .i64 e) w := by
    have hc := Boxed.cell kE
    simp [loadVar, go_sem, hc]
  simp [results, hf, h4', h5', asAddr, hv, he]
theorem box_below {W W' : World} {B : Nat} {t : TypeId} {v : Value} (h : Boxed W B t v) (hb : Below W.heap.size W W') : Boxed W' B t v := (hb.block B (Boxed.lt h)).trans h

set_option maxRecDepth 100000 in
set_option maxHeartbeats 1000000 in
theorem read_any (g : Nat) (sa ca : Option Addr) (n sc m cc : Nat) (S : Nat → Sec) (C : Nat → Wr) (f : Int) (d : Bool) (a : Int) (w : World) (h : Has w g sa ca n sc m cc S C f d) :
    Calls Tryd.prog 51 #[.pointer (some ⟨g, 0, none⟩), .int .i64 a] w (Reads w n m S C d a) := by
  have HH := Lib.hid h
  clear h
  refine (callsIn_wide (n := 10)).1 ?_
  refine callsIn_of_wp_marks Tryd.func51 rfl trivial ?_
  refine wpIn_wide.2 ?_
  simp only [Tryd.ntmps51, List.size_toArray, List.length_cons, List.length_nil, Nat.reduceAdd, Nat.reduceSub, Array.replicate_succ, Array.replicate_zero, List.push_toArray, List.append_toArray, List.nil_append, List.cons_append]
  go_wp2_with fail
  generalize hW : ((w.alloc (.cells #[.int .i64 a] 3)).alloc (.cells (bl fun _ => 0).toArray 22)).alloc (.cells #[.int .i64 0] 27) = W
  have hb0 : Below w.heap.size w W := by rw [← hW]; exact (((Below.refl _ _).alloc (Nat.le_refl _) _).alloc (by simp) _).alloc (by simp; omega) _
  have hsW : W.heap.size = w.heap.size + 3 := by rw [← hW]; simp
  have hbA : Boxed W w.heap.size 3 (.int .i64 a) := by rw [← hW]; exact ((Boxed.new w _ _).alloc _).alloc _
  have hbV : W.heap[w.heap.size + 1]? = some (.cells (bl fun _ => 0).toArray 22 (0, 0)) := by
    rw [← hW, Below.heap_alloc _ _ _ (by simp)]
    have := heap_alloc_new (w.alloc (.cells #[.int .i64 a] 3)) (.cells (bl fun _ => 0).toArray 22)
    rwa [World.size_alloc] at this
  have hbE : Boxed W (w.heap.size + 1 + 1) 27 (.int .i64 0) := by
    rw [← hW]
    have := Boxed.new ((w.alloc (.cells #[.int .i64 a] 3)).alloc (.cells (bl fun _ => 0).toArray 22)) 27 (.int .i64 0)
    simpa using this
  clear hW
  have hHW := HH.out.below hb0
  have hgW := hHW.bx.lt
  have HC := Lib.hid (fun (w' : World) (hw' : Below W.heap.size W w') => hHW.below hw')
  have h47 := hHW.n47
  refine wp_region_quiet (C := fun w' => Below W.heap.size W w') (by kernel_rfl) (by kernel_rfl) ⟨rfl, rfl, rfl, Nat.le_refl _, fun _ _ => rfl⟩ ?_
  refine q_val (.pointer (some ⟨g, 0, none⟩)) rfl (fun w' hw' => by go_simp) ?_
  simp only [Act.put, List.setIfInBounds_toArray, List.set_cons_succ, List.set_cons_zero]
  refine q_call 68 _ (.bool (formedB n m C)) rfl (fun w' => by go_simp) (fun w' hw' => (HC.out w' hw').formed.mono fun e w'' ⟨he, hb⟩ => ⟨he, hw'.trans (hb.mono hw'.size)⟩) ?_
  simp only [Act.put, List.setIfInBounds_toArray, List.set_cons_succ, List.set_cons_zero]
  cases hfm : formedB n m C with
  | false =>
    refine q_val (.bool true) rfl (fun w' hw' => by go_simp) ?_
    simp only [Act.put, List.setIfInBounds_toArray, List.set_cons_succ, List.set_cons_zero]
    refine q_val (.bool true) rfl (fun w' hw' => by go_simp) ?_
    simp only [Act.put, List.setIfInBounds_toArray, List.set_cons_succ, List.set_cons_zero]
    refine BigFrame.wpQuiet_skip rfl ?_
    simp only [Act.put, List.setIfInBounds_toArray, List.set_cons_succ, List.set_cons_zero]
    refine BigFrame.wpQuiet_skip rfl ?_
    simp only [Act.put, List.setIfInBounds_toArray, List.set_cons_succ, List.set_cons_zero]
    refine BigFrame.wpQuiet_skip rfl ?_
    simp only [Act.put, List.setIfInBounds_toArray, List.set_cons_succ, List.set_cons_zero]
    refine BigFrame.wpQuiet_skip rfl ?_
    simp only [Act.put, List.setIfInBounds_toArray, List.set_cons_succ, List.set_cons_zero]
    refine BigFrame.wpQuiet_skip rfl ?_
    simp only [Act.put, List.setIfInBounds_toArray, List.set_cons_succ, List.set_cons_zero]
    refine BigFrame.wpQuiet_skip rfl ?_
    simp only [Act.put, List.setIfInBounds_toArray, List.set_cons_succ, List.set_cons_zero]
    refine q_val (.bool true) rfl (fun w' hw' => by go_simp) ?_
    simp only [Act.put, List.setIfInBounds_toArray, List.set_cons_succ, List.set_cons_zero]
    refine wpQuiet_nil ?_
    intro w1 hw1
    have hok : rdOk n m C a = false := by unfold rdOk; rw [hfm]; rfl
    have h1 : rdE n m S C d a = 1 := by unfold rdE; rw [hok]; rfl
    have h2 : rdV n m S C d a = fun _ => 0 := by unfold rdV; rw [h1]; rfl
    have H12 := Lib.hid (And.intro h1 h2)
    clear hok h1 h2 HC
    have kV := (hw1.block (w.heap.size + 1) (by omega)).trans hbV
    have kE := box_below hbE hw1
    have hBw := hb0.trans (hw1.mono (by omega))
    go_wp2_with (first
      | (refine wpList_buildTo rfl 22 #[] rfl _ rfl (bl fun _ => 0).toArray built29 ?_; simp only [Act.put, List.setIfInBounds_toArray, List.set_cons_succ, List.set_cons_zero])
      | (refine wpList_store_row rfl 22 (.tmp 4) (.tmp 19) rfl (w.heap.size + 1) (bl fun _ => 0).toArray rfl rfl 22 _ kV (size_bl' _) rfl (bl_all _) ?_; simp only [Act.put]; obtain ⟨w2, hw2, kV2, kE2, hB2⟩ := res_put hBw kV (by omega) kE (by omega) (bl fun _ => 0).toArray; rw [← hw2]; have cE2 := kE2.cell; have fE2 := kE2.frozen; clear hw2))
    obtain ⟨kV3, kE3, hB3⟩ := res_end hB2 kV2 kE2 (by omega) (by omega) (.int .i64 1)
    exact ⟨_, results_rd rfl rfl rfl kV3 kE3, by rw [H12.out.1, H12.out.2], hB3⟩
  | true =>
    refine q_val (.bool false) rfl (fun w' hw' => by go_simp) ?_
    simp only [Act.put, List.setIfInBounds_toArray, List.set_cons_succ, List.set_cons_zero]
    refine q_val (.bool false) rfl (fun w' hw' => by go_simp) ?_
    simp only [Act.put, List.setIfInBounds_toArray, List.set_cons_succ, List.set_cons_zero]
    refine q_val (.pointer (some ⟨g, 0, none⟩)) rfl (fun w' hw' => by go_simp) ?_
    simp only [Act.put, List.setIfInBounds_toArray, List.set_cons_succ, List.set_cons_zero]
    refine q_val (.pointer (some ⟨g, 0, none⟩)) rfl (fun w' hw' => by go_simp) ?_
    simp only [Act.put, List.setIfInBounds_toArray, List.set_cons_succ, List.set_cons_zero]
    refine q_val (.agg #[.slice sa n sc, .slice ca m cc, .int .i64 f, .bool d]) rfl (fun w' hw' => by have hH := HC.out w' hw'; have k0 := hH.bx.c0; have k1 := hH.bx.c1; have k2 := hH.bx.c2; have k3 := hH.bx.c3; go_simp) ?_
    simp only [Act.put, List.setIfInBounds_toArray, List.set_cons_succ, List.set_cons_zero]
    refine q_val (.int .i64 a) rfl (fun w' hw' => by have k0 := (box_below hbA hw').cell; go_simp) ?_
    simp only [Act.put, List.setIfInBounds_toArray, List.set_cons_succ, List.set_cons_zero]
    refine q_call 85 _ (.bool (hasB n a)) rfl (fun w' => by go_simp) (fun w' hw' => (has_any sa ca n sc m cc f a d w' h47.1).mono fun e w'' ⟨he, hb⟩ => ⟨he, hw'.trans (hb.mono hw'.size)⟩) ?_
    simp only [Act.put, List.setIfInBounds_toArray, List.set_cons_succ, List.set_cons_zero]
    cases hha : hasB n a with
    | false =>
      refine q_val (.bool true) rfl (fun w' hw' => by go_simp) ?_
      simp only [Act.put, List.setIfInBounds_toArray, List.set_cons_succ, List.set_cons_zero]
      refine q_val (.bool true) rfl (fun w' hw' => by go_simp) ?_
      simp only [Act.put, List.setIfInBounds_toArray, List.set_cons_succ, List.set_cons_zero]
      refine wpQuiet_nil ?_
      intro w1 hw1
      have hok : rdOk n m C a = false := by unfold rdOk; rw [hfm, hha]; rfl
      have h1 : rdE n m S C d a = 1 := by unfold rdE; rw [hok]; rfl
      have h2 : rdV n m S C d a = fun _ => 0 := by unfold rdV; rw [h1]; rfl
      have H12 := Lib.hid (And.intro h1 h2)
      clear hok h1 h2 HC
      have kV := (hw1.block (w.heap.size + 1) (by omega)).trans hbV
      have kE := box_below hbE hw1
      have hBw := hb0.trans (hw1.mono (by omega))
      go_wp2_with (first
        | (refine wpList_buildTo rfl 22 #[] rfl _ rfl (bl fun _ => 0).toArray built29 ?_; simp only [Act.put, List.setIfInBounds_toArray, List.set_cons_succ, List.set_cons_zero])
        | (refine wpList_store_row rfl 22 (.tmp 4) (.tmp 19) rfl (w.heap.size + 1) (bl fun _ => 0).toArray rfl rfl 22 _ kV (size_bl' _) rfl (bl_all _) ?_; simp only [Act.put]; obtain ⟨w2, hw2, kV2, kE2, hB2⟩ := res_put hBw kV (by omega) kE (by omega) (bl fun _ => 0).toArray; rw [← hw2]; have cE2 := kE2.cell; have fE2 := kE2.frozen; clear hw2))
      obtain ⟨kV3, kE3, hB3⟩ := res_end hB2 kV2 kE2 (by omega) (by omega) (.int .i64 1)
      exact ⟨_, results_rd rfl rfl rfl kV3 kE3, by rw [H12.out.1, H12.out.2], hB3⟩
    | true =>
      refine q_val (.bool false) rfl (fun w' hw' => by go_simp) ?_
      simp only [Act.put, List.setIfInBounds_toArray, List.set_cons_succ, List.set_cons_zero]
      refine q_val (.bool false) rfl (fun w' hw' => by go_simp) ?_
      simp only [Act.put, List.setIfInBounds_toArray, List.set_cons_succ, List.set_cons_zero]
      refine wpQuiet_nil ?_
      intro w1 hw1
      have hok : rdOk n m C a = true := by unfold rdOk; rw [hfm, hha]; rfl
      obtain ⟨ha0, ha1⟩ := hasB_nat hha
      obtain ⟨p, rfl⟩ : ∃ p : Nat, a = p := ⟨a.toNat, by omega⟩
      have hpn : p < n := by omega
      clear hfm hha
      have hH1 := HC.out w1 hw1
      clear HC
      have kV := (hw1.block (w.heap.size + 1) (by omega)).trans hbV
      have kE := box_below hbE hw1
      have kA := box_below hbA hw1
      have hBw := hb0.trans (hw1.mono (by omega))
      cases d with
      | true =>
        have h1 : rdE n m S C true p = 3 := by unfold rdE; rw [hok]; rfl
        have h2 : rdV n m S C true p = fun _ => 0 := by unfold rdV; rw [h1]; rfl
        have H12 := Lib.hid (And.intro h1 h2)
        clear hok h1 h2
        have c3 := hH1.bx.c3
        go_wp2_with (first
          | (refine wpList_buildTo rfl 22 #[] rfl _ rfl (bl fun _ => 0).toArray built29 ?_; simp only [Act.put, List.setIfInBounds_toArray, List.set_cons_succ, List.set_cons_zero])
          | (refine wpList_store_row rfl 22 (.tmp 4) (.tmp 24) rfl (w.heap.size + 1) (bl fun _ => 0).toArray rfl rfl 22 _ kV (size_bl' _) rfl (bl_all _) ?_; simp only [Act.put]; obtain ⟨w2, hw2, kV2, kE2, hB2⟩ := res_put hBw kV (by omega) kE (by omega) (bl fun _ => 0).toArray; rw [← hw2]; have cE2 := kE2.cell; have fE2 := kE2.frozen; clear hw2))
        obtain ⟨kV3, kE3, hB3⟩ := res_end hB2 kV2 kE2 (by omega) (by omega) (.int .i64 3)
        exact ⟨_, results_rd rfl rfl rfl kV3 kE3, by rw [H12.out.1, H12.out.2], hB3⟩
      | false =>
        have HOK := Lib.hid hok
        clear hok
        have c1 := hH1.bx.c1
        have c3 := hH1.bx.c3
        go_wp2_with fail
        refine (backward_any ca m cc w1).mono ?_
        rintro _ _ ⟨rfl, rfl⟩
        dsimp only
        go_wp2_with fail
        refine (wpIn_wide (n := 10)).1 ?_
        generalize hW0 : w1.alloc (.cells #[.slice ca m cc] 33) = W0
        have hb1 : Below w1.heap.size w1 W0 := by rw [← hW0]; exact (Below.refl _ _).alloc (Nat.le_refl _) _
        have hcN : W0.cell? ⟨w1.heap.size, 0, none⟩ = some (.slice ca m cc) := by rw [← hW0]; exact World.cell?_alloc_new _ _ _ 0
        have hs0 : W0.heap.size = w1.heap.size + 1 := by rw [← hW0]; simp
        clear hW0
        have hH0 := hH1.below hb1
        have kV0 := (hb1.block (w.heap.size + 1) (by have := hw1.size; omega)).trans kV
        have kE0 := box_below kE hb1
        have kA0 := box_below kA hb1
        have hB0 : Below w.heap.size w W0 := hBw.trans (hb1.mono hBw.size)
        have hs1 := hw1.size
        clear kV kE kA hBw hH1 c1 c3 hb1
        refine wpIn_rangeFunc_ownH (F := Fence.wide) rfl (by omega) (gf := 122) (lb := #[.pointer (some ⟨w1.heap.size, 0, none⟩)]) rfl trivial (enters_of Tryd.func122 (by kernel_rfl) rfl)
          (back_stops Fence.wide (10 - 1) trivial rfl (by omega) w1.heap.size W0.heap.size g ca m cc C hH0.mb W0 (by omega) (by omega) (Nat.le_refl _) hcN hH0.cs) belowK_t (belowK_b (Nat.le_refl _)) (Below.refl _ _) (fun _ => rfl)
          (fun pre W => (∀ x ∈ pre, (C x).place ≠ p) ∧ Below W0.heap.size W0 W)
          (fun c pre W => c = .ret ∧ ∃ ini x, pre = ini ++ [x] ∧ (∀ y ∈ ini, (C y).place ≠ p) ∧ (C x).place = p ∧ W.heap[w.heap.size + 1]? = some (.cells (bl (C x).data).toArray 22 (0, 0)) ∧ Boxed W (w.heap.size + 1 + 1) 27 (.int .i64 0) ∧ Below w.heap.size w W)
          (OwnFrom.and (ownFrom_pure _ _) (ownFrom_below (Nat.le_refl _) (Nat.le_refl _)))
          (fun c s A B row hs hg hr => by
            obtain ⟨hc, ini, x, e1, e2, e3, hV, hE, hB⟩ := hs
            exact ⟨hc, ini, x, e1, e2, e3, row_kept hV hg (fun r e => (hr r e).2), row_kept hE hg (fun r e => (hr r e).2), ownFrom_below (β := Unit) (w₀ := w) (Nat.le_refl _) hB0.size () A B row hB hg hr⟩)
          ⟨by simp, Below.refl _ _⟩
          (fun x a' W => ∃ Bx, W0.heap.size ≤ Bx ∧ W.heap[Bx]? = some (.cells (wrV (C x)).toArray 104 (0, 0)) ∧ ∃ u0 u1 u2 u6 u8 u9 u10 u11 u12 u13 u14 u15 u16 u17 u18 u19 u20 u21 u22 u23 u24 u25 u26 u27 u28 u29 u30 u31 u32 u33 u34 u35 u36 u37 u38 u39 u40 u41 u42 u43 u44 u45 u46 u47 u48 u49 u50 u51 u52 u53 u54, a' = { tmps := #[u0, u1, u2, .pointer (some ⟨w.heap.size, 0, none⟩), .pointer (some ⟨w.heap.size + 1, 0, none⟩), .pointer (some ⟨w.heap.size + 1 + 1, 0, none⟩), u6, .pointer (some ⟨Bx, 0, none⟩), u8, u9, u10, u11, u12, u13, u14, u15, u16, u17, u18, u19, u20, u21, u22, u23, u24, u25, u26, u27, u28, u29, u30, u31, u32, u33, u34, u35, u36, u37, u38, u39, u40, u41, u42, u43, u44, u45, u46, u47, u48, u49, u50, u51, u52, u53, u54], defers := [] })
          (fun x a' _ X Y row hs hg hr => by obtain ⟨Bx, h1, h2, h3⟩ := hs; exact ⟨Bx, h1, row_kept h2 hg (fun r e => (hr r e).2), h3⟩)
          ?assign ?body ?done ?stop
        case assign =>
          rintro l pre x W K ⟨hp, hB⟩ hK
          gi_wp2_with (refine wpListIn_store_row rfl 104 (.tmp 7) (.tmp 31) rfl W.heap.size (wrV (C x)).toArray rfl rfl 104 _ (heap_alloc_new _ _) (by rw [List.size_toArray]; exact size_wr _) (by rw [wrV_asize]; rfl) (all_oneCell_toArray (wrV_one _)) ?_; rw [World.setRow_alloc_new]; simp only [Act.put])
          exact hK _ _ ((KeepsOthers.alloc _ _).from _) ((Below.refl _ W).alloc hB.size _) ⟨hp, hB.alloc hB.size _⟩ ⟨W.heap.size, hB.size, heap_alloc_new _ _, _, _, _, _, _, _, _, _, _, _, _, _, _, _, _, _, _, _, _, _, _, _, _, _, _, _, _, _, _, _, _, _, _, _, _, _, _, _, _, _, _, _, _, _, _, _, _, _, _, _, _, rfl⟩
        case body =>
          rintro l pre x a' W hl ⟨r, hr⟩ ⟨hp, hB⟩ ⟨Bx, hBx, hrow, u0, u1, u2, u6, u8, u9, u10, u11, u12, u13, u14, u15, u16, u17, u18, u19, u20, u21, u22, u23, u24, u25, u26, u27, u28, u29, u30, u31, u32, u33, u34, u35, u36, u37, u38, u39, u40, u41, u42, u43, u44, u45, u46, u47, u48, u49, u50, u51, u52, u53, u54, rfl⟩ hlt
          have cX : W.cell? ⟨Bx, 0, none⟩ = some (.int .i64 (C x).place) := by rw [cell_of_row W Bx 0 _ _ _ hrow]; rfl
          have cA := (box_below kA0 hB).cell
          have hrg : W.rangeAt Bx 1 (bl (C x).data) := by
            intro i v hv
            rw [cell_of_row W Bx _ _ _ _ hrow]
            have : (wrV (C x))[1 + i]? = some v := by unfold wrV; rw [Nat.add_comm 1 i]; exact hv
            simpa using this
          have kVW := (hB.block (w.heap.size + 1) (by omega)).trans kV0
          have kEW := box_below kE0 hB
          by_cases hpx : (C x).place = p
          · rw [hpx] at cX
            have HPX := Lib.hid hpx
            clear hpx hrow
            generalize hDD : (C x).data = D at hrg
            have HD := Lib.hid hDD
            clear hDD
            have hBW := hB0.trans (hB.mono hB0.size)
            have hgr : ∀ cells, W.grownBy (W.setRow (w.heap.size + 1) cells) (some (w.heap.size + 1)) := fun cells => ⟨rfl, rfl, rfl, by simp, fun k _ hr => setRow_other _ _ _ _ (by simpa using hr)⟩
            gi_wp2_with (first
              | (refine wpListIn_load_mid rfl 22 (.tmp 36) rfl Bx 1 rfl (bl D) _ (by exact hrg) und29 rfl (size_bl _) ?_; simp only [Act.put, List.setIfInBounds_toArray, List.set_cons_succ, List.set_cons_zero])
              | (refine wpListIn_store_row rfl 22 (.tmp 4) (.tmp 37) rfl (w.heap.size + 1) (bl D).toArray rfl rfl 22 _ kVW (size_bl' _) rfl (bl_all _) ?_; simp only [Act.put]; obtain ⟨w2, hw2, kV2, kE2, hB2⟩ := res_put hBW kVW (by omega) kEW (by omega) (bl D).toArray; have hg2 := hgr (bl D).toArray; rw [← hw2] at hg2 ⊢; have cE2 := kE2.cell; have fE2 := kE2.frozen; clear hw2))
            obtain ⟨kV3, kE3, hB3⟩ := res_end hB2 kV2 kE2 (by omega) (by omega) (.int .i64 0)
            rw [← HD.out] at kV3
            exact ⟨(KeepsFrom.of_grownBy hg2 (fun j e => by cases e; omega)).trans ((KeepsOthers.setCell _ _ _).from _), rfl, pre, x, rfl, hp, HPX.out, kV3, kE3, hB3⟩
          · have hpb : ((C x).place == (p : Int)) = false := by simpa using hpx
            have HPX := Lib.hid hpx
            clear hpx hrow hrg
            gi_wp2
            exact ⟨KeepsFrom.refl _ _, Below.refl _ _, ⟨fun y hy => (List.mem_append.1 hy).elim (hp y) (fun e => by simp at e; subst e; exact HPX.out), hB⟩⟩
        case done =>
          rintro D ys W hD rfl ⟨hne, hB⟩ hK
          have hlw : lastW C p m = none := lastW_none fun j hj => hne j (by
            simp only [down, List.mem_map, List.mem_range]
            exact ⟨m - 1 - j, by omega, by omega⟩)
          have hHW := hH0.below hB
          obtain ⟨b, off, rfl, hbl, _, hrow⟩ := hHW.ss.rows.resolve_left (by omega)
          have c0 := hHW.bx.c0
          have cA := (box_below kA0 hB).cell
          have hrp := hrow p hpn
          have cN : W.cell? ⟨b, off + p * 130 + 128, none⟩ = some (.bool (S p).noRead) := hrp 128 _ (secV_read _)
          have hp0 : (0 : Int) ≤ (p : Int) := by omega
          have kVW := (hB.block (w.heap.size + 1) (by omega)).trans kV0
          have kEW := box_below kE0 hB
          have hBW := hB0.trans (hB.mono hB0.size)
          have HRP := Lib.hid hrp
          have HHW := Lib.hid hHW
          clear hrow hrp hHW hne hH0 HH
          cases hnr : (S p).noRead with
          | true =>
            rw [hnr] at cN
            have h1 : rdE n m S C false p = 2 := by unfold rdE; rw [HOK.out, hlw, Int.toNat_natCast, hnr]; rfl
            have h2 : rdV n m S C false p = fun _ => 0 := by unfold rdV; rw [h1]; rfl
            have H12 := Lib.hid (And.intro h1 h2)
            clear h1 h2 hlw hnr
            go_wp2_with fail
            go_quiet (fail)
            have hbd : Below W.heap.size W (W.drewN nq) := ⟨rfl, rfl, rfl, Nat.le_refl _, fun _ _ => rfl⟩
            have hKd := (hbd.block D (Array.getElem?_eq_some_iff.1 hK).1).trans hK
            have kVd := (hbd.block _ (Array.getElem?_eq_some_iff.1 kVW).1).trans kVW
            have kEd := box_below kEW hbd
            have hBd := hBW.trans (hbd.mono hBW.size)
            generalize W.drewN nq = W3 at hbd hKd kVd kEd hBd ⊢
            go_wp2_with (first
              | (refine wpList_buildTo rfl 22 #[] rfl _ rfl (bl fun _ => 0).toArray built29 ?_; simp only [Act.put, List.setIfInBounds_toArray, List.set_cons_succ, List.set_cons_zero])
              | (refine wpList_store_row rfl 22 (.tmp 4) (.tmp 46) rfl (w.heap.size + 1) (bl fun _ => 0).toArray rfl rfl 22 _ kVd (size_bl' _) rfl (bl_all _) ?_; simp only [Act.put]; obtain ⟨w2, hw2, kV2, kE2, hB2⟩ := res_put hBd kVd (by omega) kEd (by omega) (bl fun _ => 0).toArray; have hK2 : w2.heap[D]? = some (.deferred (some [])) := by rw [hw2, setRow_other _ _ _ _ (by omega)]; exact hKd
                 rw [← hw2]; have cE2 := kE2.cell; have fE2 := kE2.frozen; clear hw2))
            obtain ⟨kV3, kE3, hB3⟩ := res_end hB2 kV2 kE2 (by omega) (by omega) (.int .i64 2)
            have hK3 : (w2.setCell ⟨w.heap.size + 1 + 1, 0, none⟩ (.int .i64 2)).heap[D]? = some (.deferred (some [])) := (Below.heap_setCell _ _ _ _ (by simp only []; omega)).trans hK2
            refine ⟨by simp, .inl ⟨_, _, rfl, run_takeDeferred hK3, ?_⟩⟩
            have hg := grownBy_putObj' (w2.setCell ⟨w.heap.size + 1 + 1, 0, none⟩ (.int .i64 2)) D (.deferred none)
            have hr : ∀ r, some D = some r → ∃ o : Obj, (w2.setCell ⟨w.heap.size + 1 + 1, 0, none⟩ (.int .i64 2)).heap[r]? = some o ∧ o.isCells = false := fun r e => by cases e; exact ⟨_, hK3, rfl⟩
            exact ⟨_, results_rd rfl rfl rfl (row_kept kV3 hg hr) (row_kept kE3 hg hr), by rw [H12.out.1, H12.out.2], hB3.trans (belowK_b (w := w) (Nat.le_refl _) _ D _ _ (by have := hB0.size; omega) hK3 rfl rfl)⟩
          | false =>
            rw [hnr] at cN
            have h1 : rdE n m S C false p = 0 := by unfold rdE; rw [HOK.out, hlw, Int.toNat_natCast, hnr]; rfl
            have h2 : rdV n m S C false p = (S p).data := by unfold rdV; rw [h1, hlw, Int.toNat_natCast]; rfl
            have H12 := Lib.hid (And.intro h1 h2)
            clear h1 h2 hlw hnr
            go_wp2_with fail
            go_quiet (fail)
            have hbd : Below W.heap.size W (W.drewN nq) := ⟨rfl, rfl, rfl, Nat.le_refl _, fun _ _ => rfl⟩
            have hKd := (hbd.block D (Array.getElem?_eq_some_iff.1 hK).1).trans hK
            have kVd := (hbd.block _ (Array.getElem?_eq_some_iff.1 kVW).1).trans kVW
            have kEd := box_below kEW hbd
            have hBd := hBW.trans (hbd.mono hBW.size)
            have kAd := box_below (box_below kA0 hB) hbd
            have hHd := HHW.out.below hbd
            have cD0 := hHd.bx.c0
            have hgd := hHd.bx.lt
            have hrd : (W.drewN nq).rangeAt b (off + p * 130) (secV (S p)) := fun i v hv => (hbd.cell (p := ⟨b, off + p * 130 + i, none⟩) hbl).trans (HRP.out i v hv)
            have hrd2 : (W.drewN nq).rangeAt b (off + p * 130) (bl (S p).data) := fun i v hv => hrd i v (by
              have hi : i < (bl (S p).data).length := (List.getElem?_eq_some_iff.1 hv).1
              unfold secV
              rw [List.getElem?_append_left hi]
              exact hv)
            have hbd2 : b < (W.drewN nq).heap.size := Nat.lt_of_lt_of_le hbl hbd.size
            generalize W.drewN nq = W3 at hbd hKd kVd kEd hBd kAd cD0 hgd hrd2 hbd2 ⊢
            clear hrd hHd
            go_wp2_with fail
            refine QuietTail.region (n := 8) (C := fun w' => Below W3.heap.size W3 w') (by kernel_rfl) (by decide) (by kernel_rfl) (by kernel_rfl) ⟨rfl, rfl, rfl, Nat.le_refl _, fun _ _ => rfl⟩ ?_
            simp only [List.take_succ_cons, List.take_zero, List.drop_succ_cons, List.drop_zero]
            refine q_val (.pointer (some ⟨g, 0, none⟩)) rfl (fun w' hw' => by go_simp) ?_
            simp only [Act.put, List.setIfInBounds_toArray, List.set_cons_succ, List.set_cons_zero]
            refine q_val (.pointer (some ⟨g, 0, none⟩)) rfl (fun w' hw' => by go_simp) ?_
            simp only [Act.put, List.setIfInBounds_toArray, List.set_cons_succ, List.set_cons_zero]
            refine q_val (.pointer (some ⟨g, 0, none⟩)) rfl (fun w' hw' => by go_simp) ?_
            simp only [Act.put, List.setIfInBounds_toArray, List.set_cons_succ, List.set_cons_zero]
            refine q_val (.slice (some ⟨b, off, none⟩) n sc) rfl (fun w' hw' => by have k0 := (hw'.cell (p := ⟨g, 0, none⟩) hgd).trans cD0; go_simp) ?_
            simp only [Act.put, List.setIfInBounds_toArray, List.set_cons_succ, List.set_cons_zero]
            refine q_val (.int .i64 p) rfl (fun w' hw' => by have k0 := (box_below kAd hw').cell; go_simp) ?_
            simp only [Act.put, List.setIfInBounds_toArray, List.set_cons_succ, List.set_cons_zero]
            refine q_val (.pointer (some ⟨b, off + p * 130, none⟩)) rfl (fun w' hw' => by go_simp) ?_
            simp only [Act.put, List.setIfInBounds_toArray, List.set_cons_succ, List.set_cons_zero]
            refine q_val (.pointer (some ⟨b, off + p * 130, none⟩)) rfl (fun w' hw' => by go_simp) ?_
            simp only [Act.put, List.setIfInBounds_toArray, List.set_cons_succ, List.set_cons_zero]
            refine q_load_mid 22 (.tmp 53) rfl rfl b (off + p * 130) rfl (bl (S p).data) _ (fun w' hw' i v hv => (hw'.cell (p := ⟨b, off + p * 130 + i, none⟩) hbd2).trans (hrd2 i v hv)) und29 rfl (size_bl _) ?_
            simp only [Act.put, List.setIfInBounds_toArray, List.set_cons_succ, List.set_cons_zero]
            refine wpQuiet_nil ?_
            intro W4 hw4
            have hK4 := (hw4.block D (Array.getElem?_eq_some_iff.1 hKd).1).trans hKd
            have kV4 := (hw4.block _ (Array.getElem?_eq_some_iff.1 kVd).1).trans kVd
            have kE4 := box_below kEd hw4
            have hB4 := hBd.trans (hw4.mono hBd.size)
            go_wp2_with (refine wpList_store_row rfl 22 (.tmp 4) (.tmp 54) rfl (w.heap.size + 1) (bl (S p).data).toArray rfl rfl 22 _ kV4 (size_bl' _) rfl (bl_all _) ?_; simp only [Act.put]; obtain ⟨w2, hw2, kV2, kE2, hB2⟩ := res_put hB4 kV4 (by omega) kE4 (by omega) (bl (S p).data).toArray; have hK2 : w2.heap[D]? = some (.deferred (some [])) := by rw [hw2, setRow_other _ _ _ _ (by omega)]; exact hK4
                         rw [← hw2]; have cE2 := kE2.cell; have fE2 := kE2.frozen; clear hw2)
            obtain ⟨kV3, kE3, hB3⟩ := res_end hB2 kV2 kE2 (by omega) (by omega) (.int .i64 0)
            have hK3 : (w2.setCell ⟨w.heap.size + 1 + 1, 0, none⟩ (.int .i64 0)).heap[D]? = some (.deferred (some [])) := (Below.heap_setCell _ _ _ _ (by simp only []; omega)).trans hK2
            refine ⟨by simp, .inl ⟨_, _, rfl, run_takeDeferred hK3, ?_⟩⟩
            have hg := grownBy_putObj' (w2.setCell ⟨w.heap.size + 1 + 1, 0, none⟩ (.int .i64 0)) D (.deferred none)
            have hr : ∀ r, some D = some r → ∃ o : Obj, (w2.setCell ⟨w.heap.size + 1 + 1, 0, none⟩ (.int .i64 0)).heap[r]? = some o ∧ o.isCells = false := fun r e => by cases e; exact ⟨_, hK3, rfl⟩
            exact ⟨_, results_rd rfl rfl rfl (row_kept kV3 hg hr) (row_kept kE3 hg hr), by rw [H12.out.1, H12.out.2], hB3.trans (belowK_b (w := w) (Nat.le_refl _) _ D _ _ (by have := hB0.size; omega) hK3 rfl rfl)⟩
        case stop =>
          rintro D c pre W hD ⟨k, hk, rfl⟩ ⟨rfl, ini, x, e1, e2, e3, hV, hE, hBw⟩ hK
          refine wpIn_wide.2 ?_
          go_wp2_with fail
          have hx : lastW C p m = some x := lastW_some hk e1 e2 e3
          have h1 : rdE n m S C false p = 0 := by unfold rdE; rw [HOK.out, hx]; rfl
          have h2 : rdV n m S C false p = (C x).data := by unfold rdV; rw [h1, hx]; rfl
          refine ⟨by simp, .inl ⟨_, _, rfl, run_takeDeferred hK, ?_⟩⟩
          have hg := grownBy_putObj' W D (.deferred none)
          have hr : ∀ r, some D = some r → ∃ o : Obj, W.heap[r]? = some o ∧ o.isCells = false := fun r e => by cases e; exact ⟨_, hK, rfl⟩
          exact ⟨_, results_rd rfl rfl rfl (row_kept hV hg hr) (row_kept hE hg hr), by rw [h1, h2], hBw.trans (belowK_b (w := w) (Nat.le_refl _) W D _ _ (by have := hB0.size; omega) hK rfl rfl)⟩

end Dk
end Go.Proofs.YtllejfnmbpjhaaaDoor
