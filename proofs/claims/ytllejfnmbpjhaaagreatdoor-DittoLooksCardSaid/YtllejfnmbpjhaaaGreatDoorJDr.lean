import Derived.Test.YtllejfnmbpjhaaaGreatDoorQTail2
import Derived.Test.YtllejfnmbpjhaaaGreatDoorDiMem
import Derived.Test.YtllejfnmbpjhaaaGreatDoorJRp
/- A region that draws its order, guarded operations among the others: walked by an invariant, whatever the order. -/
namespace Go.Proofs.YtllejfnmbpjhaaaGreatDoor
set_option maxRecDepth 20000
namespace QTailG
open Go QuietTail2

variable {P : Program}

/-- every operation waits for earlier ones alone -/
def backG (ops : Array Oper) : Bool :=
  (List.range ops.size).all fun i => match ops[i]? with
    | some o => o.after.all fun e => !Region.binds .any e || decide (e.on < i)
    | none => true
theorem back_of {ops : Array Oper} (h : backG ops = true) (i : Nat) (o : Oper) (ho : ops[i]? = some o) : ∀ e ∈ o.after, Region.binds .any e = true → e.on < i := fun e he hb => by
  have hi : i < ops.size := (Array.getElem?_eq_some_iff.1 ho).1
  have h1 := List.all_eq_true.1 h i (List.mem_range.2 hi)
  simp only [ho] at h1
  have h2 := Array.all_eq_true'.1 h1 e he
  simpa [hb] using h2
/-- one operation: it is wanted and runs, or it is passed over -/
def One (ops : Array Oper) (o : Oper) (Q : Exit → Act → World → Prop) (K : Act → World → Prop) (a : Act) (w : World) : Prop :=
  (Region.wanted o (yielded ops a.tmps) = true ∧ o.wp P a w K Q) ∨ (Region.wanted o (yielded ops a.tmps) = false ∧ K (a.put o.dst undef) w)
theorem walkG {l : List Oper} {Q : Exit → Act → World → Prop} {Inv : (Nat → Bool) → Act → World → Prop} (B : ∀ i o, l.toArray[i]? = some o → ∀ e ∈ o.after, Region.binds .any e = true → e.on < i)
    (hstep : ∀ (i : Nat) (o : Oper), i < l.length → l[i]? = some o → ∀ (L : Nat → Bool) (a : Act) (w : World), Inv L a w → L i = false → (∀ j, (o.after.any fun e => Region.binds .any e && e.on == j) = true → L j = true) →
      One (P := P) l.toArray o Q (fun a' w' => Inv (fun j => j == i || L j) a' w') a w)
    (hend : ∀ (L : Nat → Bool) (a : Act) (w : World), (∀ i, i < l.length → L i = true) → Inv L a w → Q .normal a w) :
    ∀ (f : Nat) (listed : Array Bool) (a : Act) (w : World), listed.size = l.length → cnt (fun i => listed.getD i false) l.length ≤ f → Inv (fun i => listed.getD i false) a w → wpAny P .any l.toArray Q f listed a w := by
  have full : ∀ (listed : Array Bool), listed.size = l.length → (∀ i, i < l.length → listed.getD i false = true) → Region.ready .any l.toArray listed = [] := by
    intro listed hs hall
    cases hc : Region.ready .any l.toArray listed with
    | nil => rfl
    | cons i r =>
      have hm : i ∈ Region.ready .any l.toArray listed := by rw [hc]; simp
      obtain ⟨hun, o, ho, _⟩ := mem_ready.1 hm
      have hi : i < l.length := by have := (Array.getElem?_eq_some_iff.1 ho).1; simpa using this
      rw [getD_tf (by omega), hall i hi] at hun
      cases hun
  intro f
  induction f with
  | zero =>
    intro listed a w hs hc h
    have hall := cnt_zero l.length (Nat.le_zero.1 hc)
    exact ⟨full listed hs hall, hend _ a w hall h⟩
  | succ f ih =>
    intro listed a w hs hc h
    refine ⟨fun h0 => ?_, fun j hj => ?_⟩
    · refine hend _ a w (fun i hi => ?_) h
      cases hv : listed.getD i false with
      | true => rfl
      | false =>
        exfalso
        have least : ∀ (k i : Nat), i ≤ k → i < l.length → listed.getD i false = false → ∃ j, j < l.length ∧ listed.getD j false = false ∧ ∀ m, m < j → listed.getD m false = true := by
          intro k
          induction k with
          | zero => intro i hk hi hf; exact ⟨i, hi, hf, fun m hm => by omega⟩
          | succ k ih =>
            intro i hk hi hf
            by_cases hm : ∃ m, m < i ∧ listed.getD m false = false
            · obtain ⟨m, hmi, hmf⟩ := hm
              exact ih m (by omega) (by omega) hmf
            · refine ⟨i, hi, hf, fun m hmi => ?_⟩
              cases hv : listed.getD m false with
              | true => rfl
              | false => exact absurd ⟨m, hmi, hv⟩ hm
        obtain ⟨j, hj, hjf, hall⟩ := least i i (Nat.le_refl _) hi hv
        have ho : l.toArray[j]? = some l[j] := by simp [hj]
        have hr : j ∈ Region.ready .any l.toArray listed := mem_ready.2 ⟨by rw [getD_tf (by omega)]; exact hjf, l[j], ho, fun e he hbd => hall e.on (B j _ ho e he hbd)⟩
        rw [h0] at hr
        cases hr
    · obtain ⟨hun, oj, hoj, hallj⟩ := mem_ready.1 hj
      have hjl : j < l.length := by have := (Array.getElem?_eq_some_iff.1 hoj).1; simpa using this
      have hunf : listed.getD j false = false := by rw [getD_tf (by omega)] at hun; exact hun
      have hset : ∀ k, (listed.setIfInBounds j true).getD k false = (k == j || listed.getD k false) := fun k => by
        by_cases hk : j = k
        · subst hk; simp [show j < listed.size by omega]
        · have hk' : (k == j) = false := by simp; omega
          simp only [Array.getD_eq_getD_getElem?, Array.getElem?_setIfInBounds, if_neg hk, hk', Bool.false_or]
      have hnext : ∀ a' w', Inv (fun k => k == j || listed.getD k false) a' w' → wpAny P .any l.toArray Q f (listed.setIfInBounds j true) a' w' := fun a' w' h' => by
        refine ih _ a' w' (by simpa using hs) ?_ (by rw [funext hset]; exact h')
        have := cnt_lt (L := fun i => listed.getD i false) (M := fun i => (listed.setIfInBounds j true).getD i false) (fun k hk => by rw [hset k, hk]; simp) hunf (by rw [hset j]; simp) l.length hjl
        omega
      have hw := hstep j oj hjl (by simpa using hoj) (fun i => listed.getD i false) a w h hunf (fun j hj => by
        obtain ⟨e, he, hb⟩ := Array.any_eq_true'.1 hj
        simp only [Bool.and_eq_true, beq_iff_eq] at hb
        exact hb.2 ▸ hallj e he hb.1)
      unfold wpOp
      simp only [hoj]
      rcases hw with ⟨h1, h2⟩ | ⟨h1, h2⟩
      · rw [if_pos h1]
        left
        exact Oper.wp_mono (fun a' w' h' => hnext a' w' h') h2
      · rw [if_neg (by rw [h1]; decide)]
        exact hnext _ _ h2
/-- all operations in whatever order their binding edges let, by an invariant -/
theorem regionInv {id : Nat} {l : List Oper} {Q : Exit → Act → World → Prop} {a : Act} {w : World} {Inv : (Nat → Bool) → Act → World → Prop} (hm : P.follows .mixedOrders = true) (hB : backG l.toArray = true)
    (hstart : Inv (fun _ => false) a { w with drawn := w.drawn + 1 })
    (hstep : ∀ (i : Nat) (o : Oper), i < l.length → l[i]? = some o → ∀ (L : Nat → Bool) (a : Act) (w : World), Inv L a w → L i = false → (∀ j, (o.after.any fun e => Region.binds .any e && e.on == j) = true → L j = true) →
      One (P := P) l.toArray o Q (fun a' w' => Inv (fun j => j == i || L j) a' w') a w)
    (hend : ∀ (L : Nat → Bool) (a : Act) (w : World), (∀ i, i < l.length → L i = true) → Inv L a w → Q .normal a w) : (Code.region id l.toArray true).wp P Q a w := by
  refine wp_region_any hm ?_
  have e : (fun i => (Array.replicate l.toArray.size false).getD i false) = fun _ => false := by
    funext i; exact getD_replicate_false' _ _
  have R := walkG (P := P) (Q := Q) (back_of hB) hstep hend l.length (Array.replicate l.toArray.size false) a { w with drawn := w.drawn + 1 } (by simp) (by rw [e, cnt_all]; exact Nat.le_refl _) (by rw [e]; exact hstart)
  simpa using R
end QTailG
end Go.Proofs.YtllejfnmbpjhaaaGreatDoor
/- ditto: the reference's home, good, heal (made by tools/gen_dref.py). -/
namespace Go.Proofs.YtllejfnmbpjhaaaGreatDoor
set_option maxRecDepth 20000
namespace Di
open Go.RowKit Dk Byt Eqb Rm

attribute [local go_sem] zv29
attribute [local go_sem] Pt.zvP
attribute [local go_sem] zc29
/-- the call's own boxes -/
structure RhW (w : World) (n : Nat) (sa ca : Option Addr) (sc cc m : Nat) (f : Int) (d : Bool) (gen : Int) (pa : Option Addr) (k cap : Nat) (p : Pt.Pn) (w' : World) : Prop where
  be : Below w.heap.size w w'
  bx : Bx w' w.heap.size (.slice sa n sc) (.slice ca m cc) (.int .i64 f) (.bool d)
  t : w'.heap[w.heap.size + 1]? = some (.cells #[.int .i64 gen, .slice pa k cap] 28 (0, 0))
  p : w'.heap[w.heap.size + 2]? = some (.cells (Pt.pV p).toArray 31 (0, 0))
theorem RhW.below {w w' w'' : World} {n : Nat} {sa ca : Option Addr} {sc cc m : Nat} {f : Int} {d : Bool} {gen : Int} {pa : Option Addr} {k cap : Nat} {p : Pt.Pn} (h : RhW w n sa ca sc cc m f d gen pa k cap p w') (hb : Below w'.heap.size w' w'') : RhW w n sa ca sc cc m f d gen pa k cap p w'' :=
  ⟨h.be.trans (hb.mono h.be.size), h.bx.below hb, (hb.block _ (Array.getElem?_eq_some_iff.1 h.t).1).trans h.t, (hb.block _ (Array.getElem?_eq_some_iff.1 h.p).1).trans h.p⟩
theorem box_rh (w : World) (n : Nat) (sa ca : Option Addr) (sc cc m : Nat) (f : Int) (d : Bool) (gen : Int) (pa : Option Addr) (k cap : Nat) (p : Pt.Pn) : ∃ W, W = ((w.alloc (.cells #[.slice sa n sc, .slice ca m cc, .int .i64 f, .bool d] 25)).alloc (.cells #[.int .i64 gen, .slice pa k cap] 28)).alloc (.cells (Pt.pV p).toArray 31) ∧ RhW w n sa ca sc cc m f d gen pa k cap p W := by
  refine ⟨_, rfl, (((Below.refl _ _).alloc (Nat.le_refl _) _).alloc (by simp) _).alloc (by simp; omega) _, (Below.heap_alloc _ _ _ (by simp; omega)).trans ((Below.heap_alloc _ _ _ (by simp)).trans (heap_alloc_new _ _)), (Below.heap_alloc _ _ _ (by simp)).trans ?_, ?_⟩
  · have := heap_alloc_new (w.alloc (.cells #[.slice sa n sc, .slice ca m cc, .int .i64 f, .bool d] 25)) (.cells #[.int .i64 gen, .slice pa k cap] 28)
    rwa [World.size_alloc] at this
  · have := heap_alloc_new ((w.alloc (.cells #[.slice sa n sc, .slice ca m cc, .int .i64 f, .bool d] 25)).alloc (.cells #[.int .i64 gen, .slice pa k cap] 28)) (.cells (Pt.pV p).toArray 31)
    rwa [World.size_alloc, World.size_alloc] at this

set_option maxRecDepth 100000 in
set_option maxHeartbeats 4000000 in
theorem refhome_v (sa ca : Option Addr) (n sc cc g : Nat) (X : Dst) (gen : Int) (k : Nat) (F T : Nat → Int) (pa : Option Addr) (cap : Nat) (p : Pt.Pn) (w : World) (hn : n ≤ 140737488355328) (hm : X.m ≤ 140737488355328) (hc : Lay w w.heap.size g ca X.m cc 129 (fun i => wrV (X.C i)))
    (hl : Lay w w.heap.size g pa k cap 2 (prV F T)) (hk : k ≤ 140737488355328) :
    Calls Tryz.prog 25 #[.agg #[.slice sa n sc, .slice ca X.m cc, .int .i64 X.f, .bool X.d], .agg #[.int .i64 gen, .slice pa k cap], .agg (Pt.pV p).toArray] w fun e w' => e = .returned (.bool (homB n X ⟨gen, k, F, T⟩ p)) ∧ Below w.heap.size w w' := by
  have HF := Lib.hid (fun W (hb : Below w.heap.size w W) => refFormed_any sa ca n sc X.m cc g X.C X.f X.d W hn hm ((hc.below hb).more hb.size))
  have HR := Lib.hid (fun W (hb : Below w.heap.size w W) => Rm.refright_any n gen k F T pa cap g W ((hl.below hb).more hb.size) hk)
  have HP := Lib.hid (fun W => Pt.refright_any p W)
  have hbd := halfN_bd n
  have HV : Hid (homB n X ⟨gen, k, F, T⟩ p = (formedB n X.m X.C && (Rm.rightB n gen k F T && (Pt.rightB p && ((p.A == -1 || lentB (halfN n) p.A) && (p.B == -1 || lentB (halfN n) p.B)))))) := Lib.hid rfl
  clear hc hl
  generalize homB n X ⟨gen, k, F, T⟩ p = V at HV ⊢
  generalize formedB n X.m X.C = fo at HF HV
  generalize Rm.rightB n gen k F T = ri at HR HV
  generalize Pt.rightB p = pr at HP HV
  have hh0 : 0 ≤ halfN n := hbd.1
  have hh1 : halfN n ≤ 4096 := by omega
  have HUA := Lib.hid (fun W => usable_any (halfN n) p.A W hh0 hh1)
  have HUB := Lib.hid (fun W => usable_any (halfN n) p.B W hh0 hh1)
  have HHF := Lib.hid (fun W => refhalf_any n W)
  clear hbd
  generalize halfN n = hh at HV HUA HUB HHF hh0 hh1
  generalize lentB hh p.A = lA at HV HUA
  generalize lentB hh p.B = lB at HV HUB
  obtain ⟨W, hW, hG0⟩ := box_rh w n sa ca sc cc X.m X.f X.d gen pa k cap p
  have HG0 := Lib.hid hG0
  have c0 := hG0.bx.c0
  have c1 := hG0.bx.c1
  have c2 := hG0.bx.c2
  have c3 := hG0.bx.c3
  clear hG0
  go_enter Tryz.func25, Tryz.ntmps25
  go_wp2_with fail
  rw [← hW]
  clear hW
  refine (HF.out W HG0.out.be).mono ?_
  rintro _ w1 ⟨rfl, hb1⟩
  have HG1 := Lib.hid (HG0.out.below hb1)
  have k0 := HG1.out.bx.c0
  obtain ⟨m0, m1⟩ := tab_cells HG1.out.t
  clear c0 c1 c2 c3 hb1 HG0
  dsimp only
  cases fo with
  | false =>
    go_wp2_with fail
    go_ret
    exact ⟨by rw [HV.out]; try rfl, HG1.out.be⟩
  | true =>
    go_wp2_with fail
    refine (HR.out w1 HG1.out.be).mono ?_
    rintro _ w2 ⟨rfl, hb2⟩
    have HG2 := Lib.hid (HG1.out.below hb2)
    have q2 := Pt.row_pt HG2.out.p
    clear k0 m0 m1 hb2 HG1
    dsimp only
    cases ri with
    | false =>
      go_wp2_with fail
      go_ret
      exact ⟨by rw [HV.out]; try rfl, HG2.out.be⟩
    | true =>
      go_wp2_with (refine @wpList_loadG _ _ _ _ _ _ _ (by kernel_rfl) 31 (.tmp 5) rfl (w.heap.size + 2) 0 rfl (Pt.pV p) _ q2 Pt.undP rfl (Pt.sizeP p) ?_; simp only [Act.put, List.setIfInBounds_toArray, List.set_cons_succ, List.set_cons_zero])
      refine (HP.out w2).mono ?_
      rintro _ w3 ⟨rfl, hb3⟩
      have HG3 := Lib.hid (HG2.out.below hb3)
      have k0 := HG3.out.bx.c0
      clear q2 hb3 HG2
      dsimp only
      cases pr with
      | false =>
        go_wp2_with fail
        go_ret
        exact ⟨by rw [HV.out]; try rfl, HG3.out.be⟩
      | true =>
        go_wp2_with fail
        refine (HHF.out w3).mono ?_
        rintro _ w4 ⟨rfl, hb4⟩
        have HG4 := Lib.hid (HG3.out.below hb4)
        have cA := Pt.cA_pt HG4.out.p
        have cB := Pt.cB_pt HG4.out.p
        clear k0 hb4 HG3
        dsimp only
        by_cases eA : p.A = -1
        · have a' : (p.A == -1) = true := by simpa using eA
          clear eA
          by_cases eB : p.B = -1
          · have b' : (p.B == -1) = true := by simpa using eB
            clear eB
            go_wp2_with fail
            go_ret
            exact ⟨by rw [HV.out, a', b']; try rfl, HG4.out.be⟩
          · have b' : (p.B == -1) = false := by simpa using eB
            clear eB
            go_wp2_with fail
            refine (HUB.out w4).mono ?_
            rintro _ w6 ⟨rfl, hb6⟩
            dsimp only
            go_wp2_with fail
            go_ret
            exact ⟨by rw [HV.out, a', b']; try simp, (HG4.out.below hb6).be⟩
        · have a' : (p.A == -1) = false := by simpa using eA
          clear eA
          go_wp2_with fail
          refine (HUA.out w4).mono ?_
          rintro _ w5 ⟨rfl, hb5⟩
          have HG5 := Lib.hid (HG4.out.below hb5)
          have cA5 := Pt.cA_pt HG5.out.p
          have cB5 := Pt.cB_pt HG5.out.p
          clear hb5 HG4 cA cB
          dsimp only
          cases lA with
          | false =>
            go_wp2_with fail
            go_ret
            exact ⟨by rw [HV.out, a']; try rfl, HG5.out.be⟩
          | true =>
            by_cases eB : p.B = -1
            · have b' : (p.B == -1) = true := by simpa using eB
              clear eB
              go_wp2_with fail
              go_ret
              exact ⟨by rw [HV.out, a', b']; try rfl, HG5.out.be⟩
            · have b' : (p.B == -1) = false := by simpa using eB
              clear eB
              go_wp2_with fail
              refine (HUB.out w5).mono ?_
              rintro _ w6 ⟨rfl, hb6⟩
              dsimp only
              go_wp2_with fail
              go_ret
              exact ⟨by rw [HV.out, a', b']; try simp, (HG5.out.below hb6).be⟩

set_option maxRecDepth 100000 in
set_option maxHeartbeats 2000000 in
theorem refheal_d {w : World} {g b n : Nat} {X : Dst} (h : HasD w g n X) (hk : Rm.Kp w) (hok : Ok 23 X) (gen : Int) (k : Nat) (F T : Nat → Int) (hT : HasT w b g ⟨gen, k, F, T⟩) (hm : TabOk ⟨gen, k, F, T⟩) (hgb : g ≠ b) (x : Int) (V : Nat → Int) :
    Calls Tryz.prog 27 #[.pointer (some ⟨g, 0, none⟩), .pointer (some ⟨b, 0, none⟩), .int .i64 x, .agg (bl V).toArray] w (Healed w g b n (wRes n X ⟨gen, k, F, T⟩ x V)) := by
  unfold Healed
  have hB0 : Below w.heap.size w (w.alloc (.cells (bl V).toArray 36)) := (Below.refl _ _).alloc (Nat.le_refl _) _
  have hv0 := row_all (heap_alloc_new w (.cells (bl V).toArray 36))
  have HW := Lib.hid (refwr_d (h.below hB0) (hk.below hB0) hok gen k F T (hasT_below hT hB0) hm hgb x V)
  unfold Wrote at HW
  clear h hk hok hT hm
  generalize wRes n X ⟨gen, k, F, T⟩ x V = R at HW ⊢
  obtain ⟨E, X', M'⟩ := R
  dsimp only at HW ⊢
  go_enter Tryz.func27, Tryz.ntmps27
  go_wp2_with (refine @wpList_loadG _ _ _ _ _ _ _ (by kernel_rfl) 36 (.tmp 7) rfl w.heap.size 0 rfl (bl V) _ hv0 undB rfl (size_bl V) ?_; simp only [Act.put, List.setIfInBounds_toArray, List.set_cons_succ, List.set_cons_zero])
  refine HW.out.mono ?_
  rintro _ w1 ⟨rfl, hT1, hD1, hM1⟩
  have hT2 := two_below' hB0 hT1
  clear hT1 hB0 hv0 HW
  dsimp only
  by_cases e0 : E = 0
  · subst e0
    go_wp2_with fail
    refine bodyPost_ret (results_2t rfl rfl rfl) rfl ?_
    exact ⟨rfl, hT2, hD1, hM1⟩
  · have n0 : (E == 0) = false := by simpa using e0
    by_cases e3 : E = 3
    · subst e3
      go_wp2_with fail
      refine bodyPost_ret (results_2t rfl rfl rfl) rfl ?_
      exact ⟨rfl, hT2, hD1, hM1⟩
    · have n3 : (E == 3) = false := by simpa using e3
      have HH : Hid (hlH E = 0 ∧ hlE E = 0) := Lib.hid ⟨if_neg e0, if_neg e3⟩
      clear e0 e3
      cases n1 : (E == 1) with
      | false =>
        go_wp2_with fail
        refine bodyPost_ret (results_2t rfl rfl rfl) rfl ?_
        exact ⟨by rw [HH.out.1, HH.out.2]; rfl, hT2, hD1, hM1⟩
      | true =>
        go_wp2_with fail
        refine bodyPost_ret (results_2t rfl rfl rfl) rfl ?_
        exact ⟨by rw [HH.out.1, HH.out.2]; rfl, hT2, hD1, hM1⟩

theorem results_gd {tmps : Array Value} {w : World} {B : Nat} {D : Nat → Int} {b : Bool} {fn : Func} (hf : fn.results = #[.cell 8 36, .tmp 9]) (h4 : tmps.getD 8 undef = .pointer (some ⟨B, 0, none⟩)) (h5 : tmps.getD 9 undef = .bool b)
    (kV : w.heap[B]? = some (.cells (bl D).toArray 36 (0, 0))) : (results fn tmps).run Tryz.prog w = .ok (.tuple #[.agg (bl D).toArray, .bool b]) w := by
  have h4' : tmps[8]?.getD undef = .pointer (some ⟨B, 0, none⟩) := by simpa using h4
  have h5' : tmps[9]?.getD undef = .bool b := by simpa using h5
  have hv := run_loadVar_row (P := Tryz.prog) w B 36 36 (bl D).toArray (0, 0) _ kV und29 rfl (size_bl' D)
  simp [results, hf, h4', h5', asAddr, hv]
/-- good's own blocks -/
structure GdW (w : World) (p : Pt.Pn) (bx : Nat) (V f : Nat → Int) (w' : World) : Prop where
  be : Below w.heap.size w w'
  p : w'.heap[w.heap.size + 1]? = some (.cells (Pt.pV p).toArray 31 (0, 0))
  z : w'.heap[w.heap.size + 2]? = some (.cells (bl f).toArray 36 (0, 0))
  x : w'.heap[bx]? = some (.cells (bl V).toArray 36 (0, 0))
  far : w.heap.size + 2 < bx
theorem GdW.below {w w' w'' : World} {p : Pt.Pn} {bx : Nat} {V f : Nat → Int} (h : GdW w p bx V f w') (hb : Below w'.heap.size w' w'') : GdW w p bx V f w'' :=
  ⟨h.be.trans (hb.mono h.be.size), (hb.block _ (Array.getElem?_eq_some_iff.1 h.p).1).trans h.p, (hb.block _ (Array.getElem?_eq_some_iff.1 h.z).1).trans h.z, (hb.block _ (Array.getElem?_eq_some_iff.1 h.x).1).trans h.x, h.far⟩
theorem GdW.put {w w' : World} {p : Pt.Pn} {bx : Nat} {V f : Nat → Int} (h : GdW w p bx V f w') (F : Nat → Int) : GdW w p bx V F (w'.setRow (w.heap.size + 2) (bl F).toArray) :=
  have hf := h.far
  ⟨below_only h.be (by omega) (grown_row _), (setRow_other _ _ _ _ (by omega)).trans h.p, setRow_heap _ _ _ _ _ _ h.z, (setRow_other _ _ _ _ (by omega)).trans h.x, h.far⟩

def GdA (x0 x1 x2 x3 x4 x5 x7 x12 x13 x14 x15 x16 x17 x18 : Value) (w : World) (p : Pt.Pn) (bx : Nat) (V : Nat → Int) (E : Int) (f : Bool) (L : Nat → Bool) (a' : Act) (w' : World) : Prop :=
  ∃ u0 u1 u2 u3 u4 u5 u6 u7 u9, a' = { tmps := #[x0, x1, x2, x3, x4, x5, .pointer (some ⟨w.heap.size + 1, 0, none⟩), x7, .pointer (some ⟨w.heap.size + 2, 0, none⟩), u9, .pointer (some ⟨bx, 0, none⟩), .int .i64 E, x12, x13, x14, x15, x16, x17, x18, u0, u1, u2, u3, u4, u5, u6, u7], defers := [] } ∧ (L 0 = true → u0 = .agg (bl V).toArray) ∧ (L 1 = true → u1 = .int .i64 E) ∧ (L 2 = true → u2 = .bool true) ∧ (L 3 = true → u3 = .bool true) ∧ (L 4 = true → u4 = .agg (Pt.pV p).toArray) ∧ (L 5 = true → u5 = .agg (bl V).toArray) ∧ (L 6 = true → u6 = .bool f) ∧ (L 7 = true → u7 = .bool f) ∧ (L 9 = true → u9 = .bool f) ∧ GdW w p bx V (if L 8 then V else fun _ => 0) w'
theorem GdA_kl {L : Nat → Bool} {i k : Nat} {Q : Prop} (h : L k = true → Q) (h1 : (k == i) = false) : (k == i || L k) = true → Q := by
  rw [h1, Bool.false_or]
  exact h

def GdB (x0 x1 x2 x3 x4 x5 x7 x12 x13 x14 x15 x16 x17 x18 : Value) (w : World) (p : Pt.Pn) (bx : Nat) (V : Nat → Int) (E : Int) (L : Nat → Bool) (a' : Act) (w' : World) : Prop :=
  ∃ u0 u1 u2 u3 u4 u5 u6 u7 u9, a' = { tmps := #[x0, x1, x2, x3, x4, x5, .pointer (some ⟨w.heap.size + 1, 0, none⟩), x7, .pointer (some ⟨w.heap.size + 2, 0, none⟩), u9, .pointer (some ⟨bx, 0, none⟩), .int .i64 E, x12, x13, x14, x15, x16, x17, x18, u0, u1, u2, u3, u4, u5, u6, u7], defers := [] } ∧ (L 0 = true → u0 = .agg (bl V).toArray) ∧ (L 1 = true → u1 = .int .i64 E) ∧ (L 2 = true → u2 = .bool false) ∧ (L 3 = true → u3 = .bool false) ∧ (L 4 = true → u4 = undef) ∧ (L 5 = true → u5 = undef) ∧ (L 6 = true → u6 = undef) ∧ (L 7 = true → u7 = .bool false) ∧ (L 9 = true → u9 = .bool false) ∧ GdW w p bx V (if L 8 then V else fun _ => 0) w'
theorem GdB_kl {L : Nat → Bool} {i k : Nat} {Q : Prop} (h : L k = true → Q) (h1 : (k == i) = false) : (k == i || L k) = true → Q := by
  rw [h1, Bool.false_or]
  exact h

set_option maxRecDepth 100000 in
set_option maxHeartbeats 4000000 in
theorem refgood_d {w : World} {g n : Nat} {X : Dst} (h : HasD w g n X) (hz : 0 < w.heap.size) (gen : Int) (k : Nat) (F T : Nat → Int) (pa : Option Addr) (cap q : Nat) (p : Pt.Pn) (x : Int) (hl : Lay w w.heap.size q pa k cap 2 (prV F T)) (hk : k ≤ 140737488355328) (hby : byt (tV n X ⟨gen, k, F, T⟩ x)) :
    Calls Tryz.prog 26 #[.pointer (some ⟨g, 0, none⟩), .agg #[.int .i64 gen, .slice pa k cap], .agg (Pt.pV p).toArray, .int .i64 x] w fun e w' => e = .returned (.tuple #[.agg (bl (tV n X ⟨gen, k, F, T⟩ x)).toArray, .bool (gdB n X ⟨gen, k, F, T⟩ p x)]) ∧ Below w.heap.size w w' := by
  have HR := Lib.hid (fun W (hb : Below w.heap.size w W) => refread_d (h.below hb) gen k F T pa cap q x ((hl.below hb).more hb.size) hk)
  have HF := Lib.hid (fun W (hb : Below w.heap.size w W) => Pt.reffits_any p (tV n X ⟨gen, k, F, T⟩ x) W hby (Nat.lt_of_lt_of_le hz hb.size))
  have HG : Hid (gdB n X ⟨gen, k, F, T⟩ p x = (decide (tE n X ⟨gen, k, F, T⟩ x = 0) && Pt.fitsB p (tV n X ⟨gen, k, F, T⟩ x))) := Lib.hid rfl
  change Hid (∀ W, Below w.heap.size w W → Calls _ _ _ W fun e w' => e = .returned (.tuple #[.agg (bl (tV n X ⟨gen, k, F, T⟩ x)).toArray, .int .i64 (tE n X ⟨gen, k, F, T⟩ x)]) ∧ Below W.heap.size W w') at HR
  clear hl h hby hz
  generalize gdB n X ⟨gen, k, F, T⟩ p x = G at HG ⊢
  generalize tE n X ⟨gen, k, F, T⟩ x = E at HR HG
  generalize tV n X ⟨gen, k, F, T⟩ x = V at HR HF HG ⊢
  generalize Pt.fitsB p V = f at HF HG
  obtain ⟨W, hW, hB0, hs0, ht0, hp0, hz0⟩ := box3 w gen pa k cap p
  have c0 : W.cell? ⟨w.heap.size, 0, none⟩ = some (.int .i64 gen) := by rw [cell_of_row _ _ _ _ _ _ ht0]; rfl
  have c1 : W.cell? ⟨w.heap.size, 1, none⟩ = some (.slice pa k cap) := by rw [cell_of_row _ _ _ _ _ _ ht0]; rfl
  go_enter Tryz.func26, Tryz.ntmps26
  go_wp2_with fail
  rw [← hW]
  clear hW c0 c1 ht0
  refine (HR.out W hB0).mono ?_
  rintro _ w1 ⟨rfl, hb1⟩
  have hB1 := hB0.trans (hb1.mono hB0.size)
  have hp1 := (hb1.block (w.heap.size + 1) (by omega)).trans hp0
  have hz1 := (hb1.block (w.heap.size + 2) (by omega)).trans hz0
  have hs1 := hb1.size
  obtain ⟨W2, hW2, hb2, hx2, hs2⟩ : ∃ W2, W2 = w1.alloc (.cells (bl V).toArray 36) ∧ Below w1.heap.size w1 W2 ∧ W2.heap[w1.heap.size]? = some (.cells (bl V).toArray 36 (0, 0)) ∧ W2.heap.size = w1.heap.size + 1 :=
    ⟨_, rfl, (Below.refl _ _).alloc (Nat.le_refl _) _, heap_alloc_new _ _, by simp⟩
  have hG2 : GdW w p w1.heap.size V (fun _ => 0) W2 := ⟨hB1.trans (hb2.mono hB1.size), (hb2.block (w.heap.size + 1) (by omega)).trans hp1, (hb2.block (w.heap.size + 2) (by omega)).trans hz1, hx2, by omega⟩
  have HGI : Hid (GdW w p w1.heap.size V (fun _ => 0) { W2 with drawn := W2.drawn + 1 }) := Lib.hid (hG2.below ⟨rfl, rfl, rfl, Nat.le_refl _, fun _ _ => rfl⟩)
  clear hb1 hp0 hz0 hB0 hp1 hz1 hB1 HR hb2 hG2 hx2
  dsimp only
  go_wp2_with (refine wpList_store_row rfl 36 (.tmp 10) (.tmp 17) rfl w1.heap.size (bl V).toArray rfl rfl 36 _ (heap_alloc_new w1 _) (size_bl' _) rfl (bl_all _) ?_; rw [World.setRow_alloc_new]; simp only [Act.put])
  rw [← hW2]
  clear hW2
  by_cases eE : E = 0
  · have HG1 : Hid (G = f) := Lib.hid (by rw [HG.out, decide_eq_true eE, Bool.true_and])
    have HFI := HF
    subst eE
    refine QTailG.regionInv (Inv := GdA _ _ _ _ _ _ _ _ _ _ _ _ _ _ w p w1.heap.size V 0 f) (by kernel_rfl) (by kernel_rfl) ⟨_, _, _, _, _, _, _, _, _, rfl, by simp, by simp, by simp, by simp, by simp, by simp, by simp, by simp, by simp, HGI.out⟩ ?stA ?fiA
    case stA =>
      rintro i o hi ho L a' w' ⟨u0, u1, u2, u3, u4, u5, u6, u7, u9, rfl, i0, i1, i2, i3, i4, i5, i6, i7, i9, iW⟩ hL hpre
      match i, hi with
      | 0, _ =>
        simp at ho
        subst ho
        refine .inl ⟨by kernel_rfl, ?_⟩
        refine wp_load_mid 36 (.tmp 10) rfl w1.heap.size 0 rfl (bl V) _ (row_all iW.x) undB rfl (size_bl V) ?_
        simp only [Act.put, List.setIfInBounds_toArray, List.set_cons_succ, List.set_cons_zero]
        exact ⟨_, u1, u2, u3, u4, u5, u6, u7, u9, rfl, fun _ => rfl, GdA_kl i1 rfl, GdA_kl i2 rfl, GdA_kl i3 rfl, GdA_kl i4 rfl, GdA_kl i5 rfl, GdA_kl i6 rfl, GdA_kl i7 rfl, GdA_kl i9 rfl, iW⟩
      | 1, _ =>
        simp at ho
        subst ho
        refine .inl ⟨by kernel_rfl, ?_⟩
        go_simp
        exact ⟨u0, _, u2, u3, u4, u5, u6, u7, u9, rfl, GdA_kl i0 rfl, fun _ => rfl, GdA_kl i2 rfl, GdA_kl i3 rfl, GdA_kl i4 rfl, GdA_kl i5 rfl, GdA_kl i6 rfl, GdA_kl i7 rfl, GdA_kl i9 rfl, iW⟩
      | 2, _ =>
        simp at ho
        subst ho
        obtain rfl := i1 (hpre 1 (by kernel_rfl))
        refine .inl ⟨by kernel_rfl, ?_⟩
        go_simp
        exact ⟨u0, _, _, u3, u4, u5, u6, u7, u9, rfl, GdA_kl i0 rfl, GdA_kl i1 rfl, fun _ => rfl, GdA_kl i3 rfl, GdA_kl i4 rfl, GdA_kl i5 rfl, GdA_kl i6 rfl, GdA_kl i7 rfl, GdA_kl i9 rfl, iW⟩
      | 3, _ =>
        simp at ho
        subst ho
        obtain rfl := i2 (hpre 2 (by kernel_rfl))
        refine .inl ⟨by kernel_rfl, ?_⟩
        go_simp
        exact ⟨u0, u1, _, _, u4, u5, u6, u7, u9, rfl, GdA_kl i0 rfl, GdA_kl i1 rfl, GdA_kl i2 rfl, fun _ => rfl, GdA_kl i4 rfl, GdA_kl i5 rfl, GdA_kl i6 rfl, GdA_kl i7 rfl, GdA_kl i9 rfl, iW⟩
      | 4, _ =>
        simp at ho
        subst ho
        obtain rfl := i3 (hpre 3 (by kernel_rfl))
        refine .inl ⟨by kernel_rfl, ?_⟩
        refine wp_load_mid 31 (.tmp 6) rfl (w.heap.size + 1) 0 rfl (Pt.pV p) _ (Pt.row_pt iW.p) Pt.undP rfl (Pt.sizeP p) ?_
        simp only [Act.put, List.setIfInBounds_toArray, List.set_cons_succ, List.set_cons_zero]
        exact ⟨u0, u1, u2, _, _, u5, u6, u7, u9, rfl, GdA_kl i0 rfl, GdA_kl i1 rfl, GdA_kl i2 rfl, GdA_kl i3 rfl, fun _ => rfl, GdA_kl i5 rfl, GdA_kl i6 rfl, GdA_kl i7 rfl, GdA_kl i9 rfl, iW⟩
      | 5, _ =>
        simp at ho
        subst ho
        obtain rfl := i3 (hpre 3 (by kernel_rfl))
        refine .inl ⟨by kernel_rfl, ?_⟩
        refine wp_load_mid 36 (.tmp 10) rfl w1.heap.size 0 rfl (bl V) _ (row_all iW.x) undB rfl (size_bl V) ?_
        simp only [Act.put, List.setIfInBounds_toArray, List.set_cons_succ, List.set_cons_zero]
        exact ⟨u0, u1, u2, _, u4, _, u6, u7, u9, rfl, GdA_kl i0 rfl, GdA_kl i1 rfl, GdA_kl i2 rfl, GdA_kl i3 rfl, GdA_kl i4 rfl, fun _ => rfl, GdA_kl i6 rfl, GdA_kl i7 rfl, GdA_kl i9 rfl, iW⟩
      | 6, _ =>
        simp at ho
        subst ho
        obtain rfl := i3 (hpre 3 (by kernel_rfl))
        obtain rfl := i4 (hpre 4 (by kernel_rfl))
        obtain rfl := i5 (hpre 5 (by kernel_rfl))
        refine .inl ⟨by kernel_rfl, ?_⟩
        go_simp
        refine (HFI.out w' iW.be).mono ?_
        rintro _ w'' ⟨rfl, hb⟩
        exact ⟨u0, u1, u2, _, _, _, _, u7, u9, rfl, GdA_kl i0 rfl, GdA_kl i1 rfl, GdA_kl i2 rfl, GdA_kl i3 rfl, GdA_kl i4 rfl, GdA_kl i5 rfl, fun _ => rfl, GdA_kl i7 rfl, GdA_kl i9 rfl, iW.below hb⟩
      | 7, _ =>
        simp at ho
        subst ho
        obtain rfl := i3 (hpre 3 (by kernel_rfl))
        obtain rfl := i6 (hpre 6 (by kernel_rfl))
        refine .inl ⟨by kernel_rfl, ?_⟩
        go_simp
        exact ⟨u0, u1, u2, _, u4, u5, _, _, u9, rfl, GdA_kl i0 rfl, GdA_kl i1 rfl, GdA_kl i2 rfl, GdA_kl i3 rfl, GdA_kl i4 rfl, GdA_kl i5 rfl, GdA_kl i6 rfl, fun _ => rfl, GdA_kl i9 rfl, iW⟩
      | 8, _ =>
        simp at ho
        subst ho
        obtain rfl := i0 (hpre 0 (by kernel_rfl))
        refine .inl ⟨by kernel_rfl, ?_⟩
        refine wp_store_row 36 (.tmp 8) (.tmp 19) rfl (w.heap.size + 2) (bl V).toArray rfl rfl 36 _ iW.z (size_bl' _) rfl (bl_all _) ?_
        exact ⟨_, u1, u2, u3, u4, u5, u6, u7, u9, rfl, GdA_kl i0 rfl, GdA_kl i1 rfl, GdA_kl i2 rfl, GdA_kl i3 rfl, GdA_kl i4 rfl, GdA_kl i5 rfl, GdA_kl i6 rfl, GdA_kl i7 rfl, GdA_kl i9 rfl, iW.put V⟩
      | 9, _ =>
        simp at ho
        subst ho
        obtain rfl := i7 (hpre 7 (by kernel_rfl))
        refine .inl ⟨by kernel_rfl, ?_⟩
        go_simp
        exact ⟨u0, u1, u2, u3, u4, u5, u6, _, _, rfl, GdA_kl i0 rfl, GdA_kl i1 rfl, GdA_kl i2 rfl, GdA_kl i3 rfl, GdA_kl i4 rfl, GdA_kl i5 rfl, GdA_kl i6 rfl, GdA_kl i7 rfl, fun _ => rfl, iW⟩
      | i + 10, h => exact absurd h (by show ¬ i + 10 < 10; omega)
    rintro L a' w5 hall ⟨u0, u1, u2, u3, u4, u5, u6, u7, u9, rfl, i0, i1, i2, i3, i4, i5, i6, i7, i9, iW⟩
    obtain rfl := i0 (hall 0 (by simp))
    obtain rfl := i1 (hall 1 (by simp))
    obtain rfl := i2 (hall 2 (by simp))
    obtain rfl := i3 (hall 3 (by simp))
    obtain rfl := i4 (hall 4 (by simp))
    obtain rfl := i5 (hall 5 (by simp))
    obtain rfl := i6 (hall 6 (by simp))
    obtain rfl := i7 (hall 7 (by simp))
    obtain rfl := i9 (hall 9 (by simp))
    have hG := iW
    rw [hall 8 (by simp), if_pos rfl] at hG
    clear iW
    clear i0 i1 i2 i3 i4 i5 i6 i7 i9 hall
    go_wp2_with fail
    refine bodyPost_ret (results_gd rfl rfl rfl hG.z) rfl ?_
    exact ⟨by rw [HG1.out], hG.be⟩
  · have HG1 : Hid (G = false) := Lib.hid (by rw [HG.out, decide_eq_false eE, Bool.false_and])
    have ne : (E == 0) = false := by simpa using eE
    refine QTailG.regionInv (Inv := GdB _ _ _ _ _ _ _ _ _ _ _ _ _ _ w p w1.heap.size V E) (by kernel_rfl) (by kernel_rfl) ⟨_, _, _, _, _, _, _, _, _, rfl, by simp, by simp, by simp, by simp, by simp, by simp, by simp, by simp, by simp, HGI.out⟩ ?stB ?fiB
    case stB =>
      rintro i o hi ho L a' w' ⟨u0, u1, u2, u3, u4, u5, u6, u7, u9, rfl, i0, i1, i2, i3, i4, i5, i6, i7, i9, iW⟩ hL hpre
      match i, hi with
      | 0, _ =>
        simp at ho
        subst ho
        refine .inl ⟨by kernel_rfl, ?_⟩
        refine wp_load_mid 36 (.tmp 10) rfl w1.heap.size 0 rfl (bl V) _ (row_all iW.x) undB rfl (size_bl V) ?_
        simp only [Act.put, List.setIfInBounds_toArray, List.set_cons_succ, List.set_cons_zero]
        exact ⟨_, u1, u2, u3, u4, u5, u6, u7, u9, rfl, fun _ => rfl, GdB_kl i1 rfl, GdB_kl i2 rfl, GdB_kl i3 rfl, GdB_kl i4 rfl, GdB_kl i5 rfl, GdB_kl i6 rfl, GdB_kl i7 rfl, GdB_kl i9 rfl, iW⟩
      | 1, _ =>
        simp at ho
        subst ho
        refine .inl ⟨by kernel_rfl, ?_⟩
        go_simp
        exact ⟨u0, _, u2, u3, u4, u5, u6, u7, u9, rfl, GdB_kl i0 rfl, fun _ => rfl, GdB_kl i2 rfl, GdB_kl i3 rfl, GdB_kl i4 rfl, GdB_kl i5 rfl, GdB_kl i6 rfl, GdB_kl i7 rfl, GdB_kl i9 rfl, iW⟩
      | 2, _ =>
        simp at ho
        subst ho
        obtain rfl := i1 (hpre 1 (by kernel_rfl))
        refine .inl ⟨by kernel_rfl, ?_⟩
        go_simp
        exact ⟨u0, _, _, u3, u4, u5, u6, u7, u9, rfl, GdB_kl i0 rfl, GdB_kl i1 rfl, fun _ => rfl, GdB_kl i3 rfl, GdB_kl i4 rfl, GdB_kl i5 rfl, GdB_kl i6 rfl, GdB_kl i7 rfl, GdB_kl i9 rfl, iW⟩
      | 3, _ =>
        simp at ho
        subst ho
        obtain rfl := i2 (hpre 2 (by kernel_rfl))
        refine .inl ⟨by kernel_rfl, ?_⟩
        go_simp
        exact ⟨u0, u1, _, _, u4, u5, u6, u7, u9, rfl, GdB_kl i0 rfl, GdB_kl i1 rfl, GdB_kl i2 rfl, fun _ => rfl, GdB_kl i4 rfl, GdB_kl i5 rfl, GdB_kl i6 rfl, GdB_kl i7 rfl, GdB_kl i9 rfl, iW⟩
      | 4, _ =>
        simp at ho
        subst ho
        obtain rfl := i3 (hpre 3 (by kernel_rfl))
        refine .inr ⟨by kernel_rfl, ?_⟩
        simp only [Act.put, List.setIfInBounds_toArray, List.set_cons_succ, List.set_cons_zero]
        exact ⟨u0, u1, u2, _, _, u5, u6, u7, u9, rfl, GdB_kl i0 rfl, GdB_kl i1 rfl, GdB_kl i2 rfl, GdB_kl i3 rfl, fun _ => rfl, GdB_kl i5 rfl, GdB_kl i6 rfl, GdB_kl i7 rfl, GdB_kl i9 rfl, iW⟩
      | 5, _ =>
        simp at ho
        subst ho
        obtain rfl := i3 (hpre 3 (by kernel_rfl))
        refine .inr ⟨by kernel_rfl, ?_⟩
        simp only [Act.put, List.setIfInBounds_toArray, List.set_cons_succ, List.set_cons_zero]
        exact ⟨u0, u1, u2, _, u4, _, u6, u7, u9, rfl, GdB_kl i0 rfl, GdB_kl i1 rfl, GdB_kl i2 rfl, GdB_kl i3 rfl, GdB_kl i4 rfl, fun _ => rfl, GdB_kl i6 rfl, GdB_kl i7 rfl, GdB_kl i9 rfl, iW⟩
      | 6, _ =>
        simp at ho
        subst ho
        obtain rfl := i3 (hpre 3 (by kernel_rfl))
        refine .inr ⟨by kernel_rfl, ?_⟩
        simp only [Act.put, List.setIfInBounds_toArray, List.set_cons_succ, List.set_cons_zero]
        exact ⟨u0, u1, u2, _, u4, u5, _, u7, u9, rfl, GdB_kl i0 rfl, GdB_kl i1 rfl, GdB_kl i2 rfl, GdB_kl i3 rfl, GdB_kl i4 rfl, GdB_kl i5 rfl, fun _ => rfl, GdB_kl i7 rfl, GdB_kl i9 rfl, iW⟩
      | 7, _ =>
        simp at ho
        subst ho
        obtain rfl := i3 (hpre 3 (by kernel_rfl))
        refine .inl ⟨by kernel_rfl, ?_⟩
        go_simp
        exact ⟨u0, u1, u2, _, u4, u5, u6, _, u9, rfl, GdB_kl i0 rfl, GdB_kl i1 rfl, GdB_kl i2 rfl, GdB_kl i3 rfl, GdB_kl i4 rfl, GdB_kl i5 rfl, GdB_kl i6 rfl, fun _ => rfl, GdB_kl i9 rfl, iW⟩
      | 8, _ =>
        simp at ho
        subst ho
        obtain rfl := i0 (hpre 0 (by kernel_rfl))
        refine .inl ⟨by kernel_rfl, ?_⟩
        refine wp_store_row 36 (.tmp 8) (.tmp 19) rfl (w.heap.size + 2) (bl V).toArray rfl rfl 36 _ iW.z (size_bl' _) rfl (bl_all _) ?_
        exact ⟨_, u1, u2, u3, u4, u5, u6, u7, u9, rfl, GdB_kl i0 rfl, GdB_kl i1 rfl, GdB_kl i2 rfl, GdB_kl i3 rfl, GdB_kl i4 rfl, GdB_kl i5 rfl, GdB_kl i6 rfl, GdB_kl i7 rfl, GdB_kl i9 rfl, iW.put V⟩
      | 9, _ =>
        simp at ho
        subst ho
        obtain rfl := i7 (hpre 7 (by kernel_rfl))
        refine .inl ⟨by kernel_rfl, ?_⟩
        go_simp
        exact ⟨u0, u1, u2, u3, u4, u5, u6, _, _, rfl, GdB_kl i0 rfl, GdB_kl i1 rfl, GdB_kl i2 rfl, GdB_kl i3 rfl, GdB_kl i4 rfl, GdB_kl i5 rfl, GdB_kl i6 rfl, GdB_kl i7 rfl, fun _ => rfl, iW⟩
      | i + 10, h => exact absurd h (by show ¬ i + 10 < 10; omega)
    rintro L a' w5 hall ⟨u0, u1, u2, u3, u4, u5, u6, u7, u9, rfl, i0, i1, i2, i3, i4, i5, i6, i7, i9, iW⟩
    obtain rfl := i0 (hall 0 (by simp))
    obtain rfl := i1 (hall 1 (by simp))
    obtain rfl := i2 (hall 2 (by simp))
    obtain rfl := i3 (hall 3 (by simp))
    obtain rfl := i4 (hall 4 (by simp))
    obtain rfl := i5 (hall 5 (by simp))
    obtain rfl := i6 (hall 6 (by simp))
    obtain rfl := i7 (hall 7 (by simp))
    obtain rfl := i9 (hall 9 (by simp))
    have hG := iW
    rw [hall 8 (by simp), if_pos rfl] at hG
    clear iW
    clear i0 i1 i2 i3 i4 i5 i6 i7 i9 hall
    go_wp2_with fail
    refine bodyPost_ret (results_gd rfl rfl rfl hG.z) rfl ?_
    exact ⟨by rw [HG1.out], hG.be⟩
end Di
end Go.Proofs.YtllejfnmbpjhaaaGreatDoor
