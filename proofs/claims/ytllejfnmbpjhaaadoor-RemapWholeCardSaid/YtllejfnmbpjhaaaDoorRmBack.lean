/- RemapBack: the law's walk (made by tools/gen_lback.py). -/
import Derived.Test.YtllejfnmbpjhaaaDoorRmPair
import Derived.Test.YtllejfnmbpjhaaaDoorRmBackM
import Derived.Test.YtllejfnmbpjhaaaDoorRmBackT
import Derived.Test.YtllejfnmbpjhaaaDoorJRc
import Derived.Test.YtllejfnmbpjhaaaDoorMix
import Derived.Deep.CutRange
import Derived.BigGuard
namespace Go.Proofs.YtllejfnmbpjhaaaDoor
set_option maxRecDepth 20000
namespace Rm
open Go.RowKit Dk Byt Eqb

attribute [local go_sem] zv29
attribute [local go_sem] zc29
theorem tab_row {w : World} {B b : Nat} {gen : Int} {k : Nat} {F T : Nat → Int} {v : Value} {TY : TypeId} {c0 : Array Value} (h : NewTab w B gen k F T v) (hb : w.heap[b]? = some (.cells c0 TY (0, 0))) (hne : TY ≠ 100) (c : Array Value) : NewTab (w.setRow b c) B gen k F T v := by
  obtain ⟨ao, cap, e, h1⟩ := h
  exact ⟨ao, cap, e, Twin.owns_row h1 hb hne c⟩
theorem disk_row {w w' : World} {n m b : Nat} {S : Nat → Sec} {C : Nat → Wr} {f : Int} {d : Bool} {v : Value} {TY : TypeId} {c0 : Array Value} (h : Copied w n m S C f d v w') (hb : w'.heap[b]? = some (.cells c0 TY (0, 0))) (h1 : TY ≠ 56) (h2 : TY ≠ 104) (c : Array Value) : Copied w n m S C f d v (w'.setRow b c) := by
  obtain ⟨sa, sc, ca, cc, e, p1, p2⟩ := h
  exact ⟨sa, sc, ca, cc, e, Twin.owns_row p1 hb h1 c, Twin.owns_row p2 hb h2 c⟩
theorem hasT_below {w w' : World} {b g : Nat} {M : Tab} (h : HasT w b g M) (hb : Below w.heap.size w w') : HasT w' b g M := by
  obtain ⟨pa, cap, h1, h2⟩ := h
  exact ⟨pa, cap, (hb.block b (Array.getElem?_eq_some_iff.1 h1).1).trans h1, (h2.below hb).more hb.size⟩
theorem two_below {w w' : World} {a b B : Nat} (h : Two w w' a b) (ha : B ≤ a) (hb : B ≤ b) (hB : B ≤ w.heap.size) : Below B w w' :=
  ⟨h.os, h.tape, h.output, h.size, fun k hk => h.block k (Nat.lt_of_lt_of_le hk hB) (by omega) (by omega)⟩
theorem right_tab {s gen : Int} {k : Nat} {F T : Nat → Int} (h : rightB s gen k F T = true) : k ≤ 140737488355328 ∧ ∀ i, i < k → i64 (F i) ∧ i64 (T i) := by
  obtain ⟨h0, _, _, hk, hp, _, _⟩ := right_parts h
  obtain ⟨_, hh1, hh2⟩ := halfN_bd s
  obtain ⟨_, hs⟩ := hh2 h0
  refine ⟨by omega, fun i hi => ?_⟩
  have h1 := pairsB_iff.1 hp i hi
  unfold pairB at h1
  simp only [Bool.and_eq_true, decide_eq_true_eq] at h1
  obtain ⟨⟨h2, h3⟩, h5⟩ := h1
  obtain ⟨l0, l1, _⟩ := lent_bd h2
  unfold i64
  omega
theorem layB_cells {w : World} {b : Nat} {x : Int} {D : Nat → Int} {t : TypeId} {fr : Nat × Nat} (h : w.heap[b]? = some (.cells (wrV ⟨x, D⟩).toArray t fr)) : w.cell? ⟨b, 0, none⟩ = some (.int .i64 x) ∧ w.rangeAt b 1 (bl D) :=
  ⟨by rw [cell_of_row _ _ _ _ _ _ h]; rfl, fun j v hv => by
    rw [cell_of_row _ _ _ _ _ _ h, Nat.add_comm]
    simpa [wrV] using hv⟩
def BkMix (x0 x1 x2 x5 x6 x9 x10 x11 x12 x13 x14 x15 x16 x17 x18 x19 x20 x21 x22 x23 x24 x25 x26 x27 x32 x33 x34 x35 x36 x37 x38 x39 x40 x41 x42 x43 x44 x45 x46 x47 x48 x49 x50 x51 x52 x53 x54 x55 x56 x57 x58 x59 x60 x61 x62 x63 x64 x65 x66 x67 x68 x69 x70 x71 x72 x73 x74 x75 x76 x77 x78 x79 x80 x81 x82 x83 x84 x85 x86 x87 x88 x89 x90 x91 x92 x93 x94 x95 x96 x97 x98 x99 x100 x101 x102 x103 x104 x105 x106 x107 x108 x109 x110 x111 x112 x113 x114 : Value) (bx bt : Nat) (dv ev : Value) (n m : Nat) (S : Nat → Sec) (C : Nat → Wr) (f : Int) (d : Bool) (gen : Int) (k : Nat) (F T : Nat → Int) (W : World) (L : Nat → Bool) (a' : Act) (w' : World) : Prop :=
  ∃ u0 u1 u2 u3 u4 u5, a' = { tmps := #[x0, x1, x2, .pointer (some ⟨bx, 0, none⟩), .pointer (some ⟨bt, 0, none⟩), x5, x6, u4, u5, x9, x10, x11, x12, x13, x14, x15, x16, x17, x18, x19, x20, x21, x22, x23, x24, x25, x26, x27, u0, u1, u2, u3, x32, x33, x34, x35, x36, x37, x38, x39, x40, x41, x42, x43, x44, x45, x46, x47, x48, x49, x50, x51, x52, x53, x54, x55, x56, x57, x58, x59, x60, x61, x62, x63, x64, x65, x66, x67, x68, x69, x70, x71, x72, x73, x74, x75, x76, x77, x78, x79, x80, x81, x82, x83, x84, x85, x86, x87, x88, x89, x90, x91, x92, x93, x94, x95, x96, x97, x98, x99, x100, x101, x102, x103, x104, x105, x106, x107, x108, x109, x110, x111, x112, x113, x114], defers := [] } ∧ Mix.Mx (fun v w' => Copied W n m S C f d v w') (fun v w' => NewTab w' W.heap.size gen k F T v) 35 26 4 2 dv ev W L u0 u1 u2 u3 u4 u5 w'

set_option maxRecDepth 100000 in
set_option maxHeartbeats 8000000 in
theorem lback_any (sa ca : Option Addr) (n sc m cc : Nat) (S : Nat → Sec) (C : Nat → Wr) (f : Int) (d : Bool) (gen : Int) (k : Nat) (F T : Nat → Int) (pa : Option Addr) (cap : Nat) (x : Int) (D : Nat → Int) (w : World) (nb : n * 130 ≤ 140737488355328) (mb : m * 136 ≤ 140737488355328) (hf : i64 f)
    (hs : Lay w w.heap.size w.heap.size sa n sc 130 (fun i => secV (S i))) (hc : Lay w w.heap.size w.heap.size ca m cc 129 (fun i => wrV (C i))) (hl : Lay w w.heap.size w.heap.size pa k cap 2 (prV F T)) (hk16 : k * 16 ≤ 140737488355328) (hF : ∀ i, i < k → i64 (F i) ∧ i64 (T i)) (hkp : Kp w) :
    Calls Tryd.prog 6 #[.agg #[.slice sa n sc, .slice ca m cc, .int .i64 f, .bool d], .agg #[.int .i64 gen, .slice pa k cap], .agg (wrV ⟨x, D⟩).toArray] w fun e w' => e = .returned (.bool true) ∧ Below w.heap.size w w' := by
  have hn47 : n ≤ 140737488355328 := by omega
  have hm47 : m ≤ 140737488355328 := by omega
  have hk47 : k ≤ 140737488355328 := by omega
  have HK := Lib.hid (fun W (hb : Below w.heap.size w W) => hkp.below hb)
  have HL := Lib.hid (fun W (hb : Below w.heap.size w W) => (hl.below hb).more hb.size)
  have HS0 := Lib.hid (fun W (hb : Below w.heap.size w W) => (hs.below hb).more hb.size)
  have HC0 := Lib.hid (fun W (hb : Below w.heap.size w W) => (hc.below hb).more hb.size)
  have HFF := Lib.hid hF
  have HF64 := Lib.hid hf
  clear hl hs hc hF hkp hf
  obtain ⟨W, hW, hb0, bx0, tx0, lx0, hs0⟩ : ∃ W, W = ((w.alloc (.cells #[.slice sa n sc, .slice ca m cc, .int .i64 f, .bool d] 35)).alloc (.cells #[.int .i64 gen, .slice pa k cap] 26)).alloc (.cells (wrV ⟨x, D⟩).toArray 44) ∧ Below w.heap.size w W ∧ Bx W w.heap.size (.slice sa n sc) (.slice ca m cc) (.int .i64 f) (.bool d) ∧
      W.heap[w.heap.size + 1]? = some (.cells #[.int .i64 gen, .slice pa k cap] 26 (0, 0)) ∧ W.heap[w.heap.size + 2]? = some (.cells (wrV ⟨x, D⟩).toArray 44 (0, 0)) ∧ W.heap.size = w.heap.size + 3 := by
    refine ⟨_, rfl, (((Below.refl _ _).alloc (Nat.le_refl _) _).alloc (by simp) _).alloc (by simp; omega) _, (Below.heap_alloc _ _ _ (by simp; omega)).trans ((Below.heap_alloc _ _ _ (by simp)).trans (heap_alloc_new _ _)), (Below.heap_alloc _ _ _ (by simp)).trans ?_, ?_, by simp⟩
    · have := heap_alloc_new (w.alloc (.cells #[.slice sa n sc, .slice ca m cc, .int .i64 f, .bool d] 35)) (.cells #[.int .i64 gen, .slice pa k cap] 26)
      rwa [World.size_alloc] at this
    · have := heap_alloc_new ((w.alloc (.cells #[.slice sa n sc, .slice ca m cc, .int .i64 f, .bool d] 35)).alloc (.cells #[.int .i64 gen, .slice pa k cap] 26)) (.cells (wrV ⟨x, D⟩).toArray 44)
      rwa [World.size_alloc, World.size_alloc] at this
  have HBW := Lib.hid (fun w' (hw' : Below W.heap.size W w') => bx0.below hw')
  have HMW := Lib.hid (fun w' (hw' : Below W.heap.size W w') => show w'.cell? ⟨w.heap.size + 1, 0, none⟩ = some (.int .i64 gen) ∧ w'.cell? ⟨w.heap.size + 1, 1, none⟩ = some (.slice pa k cap) from
    ⟨(hw'.cell (p := ⟨w.heap.size + 1, 0, none⟩) (by show w.heap.size + 1 < _; omega)).trans (by rw [cell_of_row _ _ _ _ _ _ tx0]; rfl), (hw'.cell (p := ⟨w.heap.size + 1, 1, none⟩) (by show w.heap.size + 1 < _; omega)).trans (by rw [cell_of_row _ _ _ _ _ _ tx0]; rfl)⟩)
  have HLWW := Lib.hid (fun w' (hw' : Below W.heap.size W w') => layB_cells ((hw'.block (w.heap.size + 2) (by omega)).trans lx0))
  clear bx0 tx0 lx0
  go_enter Tryd.func6, Tryd.ntmps6
  go_wp2_with fail
  rw [← hW]
  clear hW
  refine (alive4_any W (HK.out W hb0)).mono ?_
  rintro _ w1 ⟨rfl, hb1⟩
  obtain ⟨d0, d1, d2, d3⟩ : _ ∧ _ ∧ _ ∧ _ := ⟨(HBW.out w1 hb1).c0, (HBW.out w1 hb1).c1, (HBW.out w1 hb1).c2, (HBW.out w1 hb1).c3⟩
  dsimp only
  go_wp2_with fail
  refine (great_any sa ca n sc m cc f d w1).mono ?_
  rintro _ w2 ⟨rfl, hb2⟩
  have hw2 : Below W.heap.size W w2 := hb1.trans (hb2.mono hb1.size)
  have hB2 : Below w.heap.size w w2 := hb0.trans (hw2.mono hb0.size)
  have c0 := (HBW.out w2 hw2).c0
  clear d0 d1 d2 d3 hb1 hb2
  dsimp only
  by_cases hgr : (300 : Int) < (m : Int)
  · go_wp2_with fail
    go_ret
    exact ⟨rfl, hB2⟩
  by_cases hgn : (100 : Int) < (n : Int)
  · go_wp2_with fail
    go_ret
    exact ⟨rfl, hB2⟩
  · have HBX := Lib.hid (fun w' (hw' : Below w2.heap.size w2 w') => HBW.out w' (hw2.trans (hw'.mono hw2.size)))
    have HMX := Lib.hid (fun w' (hw' : Below w2.heap.size w2 w') => HMW.out w' (hw2.trans (hw'.mono hw2.size)))
    have HLW := Lib.hid (fun w' (hw' : Below w2.heap.size w2 w') => HLWW.out w' (hw2.trans (hw'.mono hw2.size)))
    have HS := Lib.hid (fun w' (hw' : Below w2.heap.size w2 w') => (HS0.out w' (hB2.trans (hw'.mono hB2.size))))
    have HC := Lib.hid (fun w' (hw' : Below w2.heap.size w2 w') => (HC0.out w' (hB2.trans (hw'.mono hB2.size))))
    have HT := Lib.hid (fun w' (hw' : Below w2.heap.size w2 w') => (HL.out w' (hB2.trans (hw'.mono hB2.size))))
    have HKW := Lib.hid (fun w' (hw' : Below w2.heap.size w2 w') => HK.out w' (hB2.trans (hw'.mono hB2.size)))
    have HBB := Lib.hid (fun w' (hw' : Below w2.heap.size w2 w') => hB2.trans (hw'.mono hB2.size))
    have HXO := Lib.hid (fun w' (hw' : Below w2.heap.size w2 w') => HasD.of (Has.mk (HBX.out w' hw') (HS.out w' hw') (HC.out w' hw') nb mb))
    have hx2 : w.heap.size + 2 < w2.heap.size := by have := hw2.size; omega
    have hOK : Ok 23 ⟨m, S, C, f, d⟩ := ⟨by show (m + 23) * 136 ≤ _; omega, HF64.out⟩
    have HOK := Lib.hid hOK
    clear HBW HMW HLWW HS0 HC0 HL hs0 hw2 hOK
    go_wp2_with fail
    refine QuietTail2.regionInv (n := 8) (Inv := BkMix _ _ _ _ _ _ _ _ _ _ _ _ _ _ _ _ _ _ _ _ _ _ _ _ _ _ _ _ _ _ _ _ _ _ _ _ _ _ _ _ _ _ _ _ _ _ _ _ _ _ _ _ _ _ _ _ _ _ _ _ _ _ _ _ _ _ _ _ _ _ _ _ _ _ _ _ _ _ _ _ _ _ _ _ _ _ _ _ _ _ _ _ _ _ _ _ _ _ _ _ _ _ _ _ _ _ _ (w.heap.size) (w.heap.size + 1) (.agg #[.slice sa n sc, .slice ca m cc, .int .i64 f, .bool d]) (.agg #[.int .i64 gen, .slice pa k cap]) n m S C f d gen k F T w2) (by kernel_rfl) (by decide) (by kernel_rfl) ⟨_, _, _, _, _, _, rfl, Mix.Mx.start⟩ ?stepM ?finM
    case stepM =>
      rintro i o hi ho L a' w' ⟨u0, u1, u2, u3, u4, u5, rfl, TT⟩ hL hpre
      match i, hi with
      | 0, _ =>
        simp at ho
        subst ho
        have hH := HBX.out w' TT.be; have k0 := hH.c0; have k1 := hH.c1; have k2 := hH.c2; have k3 := hH.c3; clear hH
        go_simp
        exact ⟨_, u1, u2, u3, u4, u5, rfl, TT.load0⟩
      | 1, _ =>
        simp at ho
        subst ho
        obtain rfl := TT.a0 (hpre 0 (by kernel_rfl))
        go_simp
        refine (Dk.copy_any sa ca n sc m cc w.heap.size S C f d w' nb mb (HS.out w' TT.be) (HC.out w' TT.be)).mono ?_
        rintro _ w'' ⟨v, rfl, hv, hb⟩
        exact ⟨_, v, u2, u3, u4, u5, rfl, TT.call1 hL (hv.mono TT.be.size) hb (fun _ _ _ h hb => h.below hb) (fun _ _ _ h hb => NewTab.below h hb)⟩
      | 2, _ =>
        simp at ho
        subst ho
        obtain ⟨k0, k1⟩ := HMX.out w' TT.be
        go_simp
        exact ⟨u0, u1, _, u3, u4, u5, rfl, TT.load2⟩
      | 3, _ =>
        simp at ho
        subst ho
        obtain rfl := TT.a2 (hpre 2 (by kernel_rfl))
        go_simp
        refine (refcopy_any gen k F T pa cap w.heap.size w' (HT.out w' TT.be) hk16).mono ?_
        rintro _ w'' ⟨⟨v, rfl, hv⟩, hb⟩
        exact ⟨u0, u1, _, v, u4, u5, rfl, TT.call3 hL (hv.mono TT.be.size) hb (fun _ _ _ h hb => h.below hb) (fun _ _ _ h hb => NewTab.below h hb)⟩
      | 4, _ =>
        simp at ho
        subst ho
        go_simp
        exact ⟨u0, u1, u2, u3, _, u5, rfl, TT.alloc4 hL rfl (fun _ _ _ h hb => h.below hb) (fun _ _ _ h hb => NewTab.below h hb)⟩
      | 5, _ =>
        simp at ho
        subst ho
        go_simp
        exact ⟨u0, u1, u2, u3, u4, _, rfl, TT.alloc5 hL rfl (fun _ _ _ h hb => h.below hb) (fun _ _ _ h hb => NewTab.below h hb)⟩
      | 6, _ =>
        simp at ho
        subst ho
        have h1 := hpre 1 (by kernel_rfl)
        have h4 := hpre 4 (by kernel_rfl)
        obtain ⟨b, c0, e4, _, hb, hs, _⟩ := TT.a4 h4
        obtain ⟨sa1, sc1, ca1, cc1, rfl, p1, q1⟩ := TT.a1 h1
        subst e4
        refine wp_store_row 35 (.tmp 7) (.tmp 29) rfl b #[.slice sa1 n sc1, .slice ca1 m cc1, .int .i64 f, .bool d] rfl rfl 35 c0 hb (by kernel_rfl) hs (disk_one _ _ _ _ _ _ _ _) ?_
        exact ⟨u0, _, u2, u3, _, u5, rfl, TT.store6 h1 h4 rfl rfl hb rfl (fun _ _ _ _ c h hb => Twin.Copied.row h hb c) (fun _ _ _ _ c h hb => tab_row h hb (by decide) c)⟩
      | 7, _ =>
        simp at ho
        subst ho
        have h1 := hpre 3 (by kernel_rfl)
        have h4 := hpre 5 (by kernel_rfl)
        obtain ⟨b, c0, e4, _, hb, hs, _⟩ := TT.a5 h4
        obtain ⟨ao1, cap1, rfl, q1⟩ := TT.a3 h1
        subst e4
        refine wp_store_row 26 (.tmp 8) (.tmp 31) rfl b #[.int .i64 gen, .slice ao1 k cap1] rfl rfl 26 c0 hb (by kernel_rfl) hs (tb_one _ _ _ _) ?_
        exact ⟨u0, u1, u2, _, u4, _, rfl, TT.store7 h1 h4 rfl rfl hb rfl (fun _ _ _ _ c h hb => disk_row h hb (by decide) (by decide) c) (fun _ _ _ _ c h hb => NewTab.row h hb c)⟩
      | i + 8, h => omega
    rintro L a' w5A hall ⟨u0, u1, u2, u3, u4, u5, rfl, TT⟩
    obtain ⟨bA, cA, bP, cP, rfl, rfl, lA, lP, hneA, hA, hP, pA, pP, hbeA⟩ := TT.fin hall
    clear TT hall
    simp only [List.drop_succ_cons, List.drop_zero]
    refine wpList_nil ?_
    obtain ⟨sa1, sc1, ca1, cc1, hX⟩ := Twin.Copied.has' pA hA nb mb
    have hTA : HasT w5A bP bA ⟨gen, k, F, T⟩ := by
      obtain ⟨ao, cap', e, ho⟩ := pP
      injection e with e
      subst e
      exact ⟨ao, cap', hP, Twin.lay_owns (fun i _ => prV_length F T i) ho hA (by decide)⟩
    have hsA := hbeA.size
    have HXD := Lib.hid (fun w' (hw' : Below w5A.heap.size w5A w') => (HasD.of hX).below hw')
    have HTD := Lib.hid (fun w' (hw' : Below w5A.heap.size w5A w') => hasT_below hTA hw')
    have HB5 := Lib.hid (fun w' (hw' : Below w5A.heap.size w5A w') => hbeA.trans (hw'.mono hsA))
    obtain ⟨ao1, cap1, tbP, hlP⟩ := hTA
    have p0 : w5A.cell? ⟨bP, 0, none⟩ = some (.int .i64 gen) := by rw [cell_of_row _ _ _ _ _ _ tbP]; rfl
    have p1 : w5A.cell? ⟨bP, 1, none⟩ = some (.slice ao1 k cap1) := by rw [cell_of_row _ _ _ _ _ _ tbP]; rfl
    have d0 := (HBX.out w5A hbeA).c0
    have HPT := Lib.hid (put_any (n : Int) gen k F T ao1 cap1 bA w5A hlP hk47 HFF.out (HKW.out w5A hbeA))
    clear pA pP hA hP hX tbP hlP
    go_wp2_with fail
    refine HPT.out.mono ?_
    rintro _ w6 ⟨rfl, hb6⟩
    have HTK := Lib.hid (@tk_back (n : Int) gen k F T)
    have HBY := Lib.hid (putV_byt (n : Int) gen k F T)
    generalize putV (n : Int) gen k F T = V at HTK HBY ⊢
    generalize putEr (n : Int) gen k F T = E at HTK ⊢
    obtain ⟨W7, hW7, hb7, hx7, hs7⟩ : ∃ W7, W7 = w6.alloc (.cells (bl V).toArray 22) ∧ Below w6.heap.size w6 W7 ∧ W7.heap[w6.heap.size]? = some (.cells (bl V).toArray 22 (0, 0)) ∧ W7.heap.size = w6.heap.size + 1 :=
      ⟨_, rfl, (Below.refl _ _).alloc (Nat.le_refl _) _, heap_alloc_new _ _, by simp⟩
    have hb57 : Below w5A.heap.size w5A W7 := hb6.trans (hb7.mono hb6.size)
    have hr7 := Twin.row_of hx7
    have d0' := (HBX.out W7 (HB5.out W7 hb57)).c0
    have hK7 := Lib.hid (HKW.out W7 (HB5.out W7 hb57))
    clear p0 p1 d0 HPT hb7 hx7
    dsimp only
    subst hW7
    go_wp2_with (first
      | (refine @wpList_store_row _ _ _ _ _ _ _ rfl 22 (.tmp 9) (.tmp 38) rfl w6.heap.size (bl V).toArray rfl rfl 22 _ (heap_alloc_new _ _) (size_bl' _) rfl (bl_all _) ?_; rw [World.setRow_alloc_new]; simp only [Act.put])
      | (refine @wpList_loadG _ _ _ _ _ _ _ (by kernel_rfl) 22 (.tmp 9) rfl w6.heap.size 0 rfl (bl V) _ hr7 undB rfl (size_bl V) ?_; simp only [Act.put, List.setIfInBounds_toArray, List.set_cons_succ, List.set_cons_zero]))
    generalize w6.alloc (.cells (bl V).toArray 22) = W7 at hb57 hK7 hr7 hs7 d0' ⊢
    have HTT := Lib.hid (take_d (n : Int) V W7 (fun i _ => HBY.out i) hK7.out)
    unfold TkPost at HTT
    clear hr7 d0' hK7
    refine HTT.out.mono ?_
    rintro _ w8 ⟨⟨_, rfl, ao2, cap2, rfl, ho8⟩, hb8⟩
    clear HTT
    generalize tkE (n : Int) V = E2 at HTK ⊢
    generalize tkG (n : Int) V = G2 at HTK ⊢
    generalize tkN (n : Int) V = k2 at HTK ho8 ⊢
    generalize tkF V = F2 at HTK ho8
    generalize tkT V = T2 at HTK ho8
    obtain ⟨W9, hW9, hb9, hx9, hs9⟩ : ∃ W9, W9 = w8.alloc (.cells #[.int .i64 G2, .slice ao2 k2 cap2] 26) ∧ Below w8.heap.size w8 W9 ∧ W9.heap[w8.heap.size]? = some (.cells #[.int .i64 G2, .slice ao2 k2 cap2] 26 (0, 0)) ∧ W9.heap.size = w8.heap.size + 1 :=
      ⟨_, rfl, (Below.refl _ _).alloc (Nat.le_refl _) _, heap_alloc_new _ _, by simp⟩
    have ho9 := owns_below ho8 hb9
    have hb58 : Below w5A.heap.size w5A w8 := hb57.trans (hb8.mono hb57.size)
    have hb59 : Below w5A.heap.size w5A W9 := hb58.trans (hb9.mono hb58.size)
    have hB9 := HB5.out W9 hb59
    clear ho8 hb8 hb9 hb57 hb58 hs7 HBY
    dsimp only
    subst hW9
    go_upto_region 8 with (first
      | (refine @wpList_store_row _ _ _ _ _ _ _ rfl 26 (.tmp 11) (.tmp 46) rfl w8.heap.size #[.int .i64 G2, .slice ao2 k2 cap2] rfl rfl 26 _ (heap_alloc_new _ _) (by kernel_rfl) rfl (tb_one _ _ _ _) ?_; rw [World.setRow_alloc_new]; simp only [Act.put]))
    generalize w8.alloc (.cells #[.int .i64 G2, .slice ao2 k2 cap2] 26) = W9 at hb59 hB9 hx9 hs9 ho9 ⊢
    go_cut [59] from 48 (fun v wc => v = .bool false ∧ Hid (Below W9.heap.size W9 wc))
    case first =>
      by_cases e0 : E = 0
      · obtain ⟨e2, e3, e4, e5⟩ := HTK.out e0
        have a0 : W9.cell? ⟨w8.heap.size, 0, none⟩ = some (.int .i64 gen) := by rw [cell_of_row _ _ _ _ _ _ hx9, e3]; rfl
        have a1 : W9.cell? ⟨w8.heap.size, 1, none⟩ = some (.slice ao2 k cap2) := by rw [cell_of_row _ _ _ _ _ _ hx9, e4]; rfl
        obtain ⟨m0, m1⟩ := HMX.out W9 hB9
        rw [e4, show flat (prV F2 T2) k = flat (prV F T) k from flat_congr fun i hi => by unfold prV; rw [(e5 i hi).1, (e5 i hi).2]] at ho9
        have HRS := Lib.hid (refsame_any gen k F T ao2 pa cap2 cap W9.heap.size w.heap.size W9 hk47 (lay_own (fun i _ => prV_length F T i) ho9 (.inr (Nat.le_refl _))) (HT.out W9 hB9))
        clear HTK ho9 hx9 e3 e4 e5
        subst e0 e2
        go_wp2_with fail
        refine HRS.out.mono ?_
        rintro _ w10 ⟨rfl, hb10⟩
        dsimp only
        go_wp2_with fail
        go_meet
        exact ⟨rfl, Lib.hid hb10⟩
      · have ne : (E == 0) = false := by simpa using e0
        clear HTK ho9 hx9
        go_wp2_with fail
        go_meet
        exact ⟨rfl, Lib.hid (Below.refl _ _)⟩
    case rest =>
      obtain ⟨rfl, hcw⟩ := hcut
      have hb5c : Below w5A.heap.size w5A wc := hb59.trans (hcw.out.mono hb59.size)
      have hBc := HB5.out wc hb5c
      obtain ⟨l0, l1⟩ := HLW.out wc hBc
      have HWR := Lib.hid (rwrite_d (HXD.out wc hb5c) (HKW.out wc hBc) HOK.out gen k F T (HTD.out wc hb5c) ⟨hk47, HFF.out⟩ hneA x D)
      have HBS := Lib.hid (@back_same n ⟨m, S, C, f, d⟩ ⟨gen, k, F, T⟩ x D)
      have HBO := Lib.hid (fun y => @back_other n ⟨m, S, C, f, d⟩ ⟨gen, k, F, T⟩ x y D)
      have HWO := Lib.hid (@wr_ok n ⟨m, S, C, f, d⟩ ⟨gen, k, F, T⟩ x D)
      unfold Wrote at HWR
      dsimp only at HBS HBO HWO
      generalize wRes n ⟨m, S, C, f, d⟩ ⟨gen, k, F, T⟩ x D = R at HWR HBS HBO HWO
      obtain ⟨E3, X', M'⟩ := R
      dsimp only at HWR HBS HBO HWO
      have hsc : w2.heap.size ≤ wc.heap.size := hBc.size
      clear hcw HTK hx9 ho9 hb59 hB9 hs9 HXD HTD
      go_wp2_with (first
        | (refine @wpList_loadG _ _ _ _ _ _ _ (by kernel_rfl) 22 (.tmp 62) rfl (w.heap.size + 2) 1 rfl (bl D) _ l1 undB rfl (size_bl D) ?_; simp only [Act.put, List.setIfInBounds_toArray, List.set_cons_succ, List.set_cons_zero]))
      refine HWR.out.mono ?_
      rintro _ w11 ⟨rfl, hT11, hD11, hM11⟩
      have hB11 : Below w2.heap.size w2 w11 := hBc.trans (two_below hT11 lA lP hsc)
      clear HWR hT11 hb5c hBc hsc l0 l1
      dsimp only
      by_cases e3 : E3 = 0
      · have hrt := right_tab (HWO.out e3).2.2.2.2.1
        have hbs := Lib.hid (HBS.out e3)
        have hbo := Lib.hid (fun y (hy : y ≠ x) => HBO.out y e3 hy)
        obtain ⟨ao3, cap3, tbP, hlP⟩ := hM11
        have HPC := Lib.hid (fun w' (hw' : Below w11.heap.size w11 w') => show (w'.cell? ⟨bP, 0, none⟩ = some (.int .i64 M'.gen) ∧ w'.cell? ⟨bP, 1, none⟩ = some (.slice ao3 M'.k cap3)) ∧ Lay w' w'.heap.size bA ao3 M'.k cap3 2 (prV M'.F M'.T) from by
          have hb := (hw'.block bP (Array.getElem?_eq_some_iff.1 tbP).1).trans tbP
          exact ⟨⟨by rw [cell_of_row _ _ _ _ _ _ hb]; rfl, by rw [cell_of_row _ _ _ _ _ _ hb]; rfl⟩, (hlP.below hw').more hw'.size⟩)
        have HDX := Lib.hid (fun w' (hw' : Below w11.heap.size w11 w') => hD11.below hw')
        have HBL := Lib.hid (fun w' (hw' : Below w11.heap.size w11 w') => hB11.trans (hw'.mono hB11.size))
        have hk' := hrt.1
        have HF' := Lib.hid hrt.2
        subst e3
        clear HBS HBO HWO hrt tbP hlP hD11 HB5
        go_wp2_with fail
        go_loopw [13] (fun nv wr => ∃ i : Nat, i ≤ n ∧ nv = .int .i64 i ∧ Below w11.heap.size w11 wr) (fun nv _ => n - (intOf nv).toNat)
        case atStart => exact ⟨0, by omega, rfl, Below.refl _ _⟩
        case round =>
          obtain ⟨i, hi, rfl, hB⟩ := hrel
          have hBw := HBL.out wr hB
          have d0 := (HBX.out wr hBw).c0
          by_cases hlt : i < n
          · have hi0 : (0 : Int) ≤ (i : Int) := by omega
            have hin : (i : Int) < (n : Int) := by omega
            obtain ⟨m0, m1⟩ := HMX.out wr hBw
            go_wp2_with fail
            refine (read_d (HXO.out wr hBw) gen k F T pa cap w.heap.size i (HT.out wr hBw) hk47 HFF.out).mono ?_
            rintro _ w12 ⟨rfl, hb12⟩
            have hcase : Hid (((i : Int) = x ∧ rE n X' M'.gen M'.k M'.F M'.T i = 0 ∧ rV n X' M'.gen M'.k M'.F M'.T i = D) ∨ ((i : Int) ≠ x ∧ rE n X' M'.gen M'.k M'.F M'.T i = rE n ⟨m, S, C, f, d⟩ gen k F T i ∧ rV n X' M'.gen M'.k M'.F M'.T i = rV n ⟨m, S, C, f, d⟩ gen k F T i)) := Lib.hid (by
              by_cases hix : (i : Int) = x
              · rw [hix]
                exact .inl ⟨rfl, hbs.out⟩
              · exact .inr ⟨hix, hbo.out i hix⟩)
            generalize rV n ⟨m, S, C, f, d⟩ gen k F T (i : Int) = V1 at hcase ⊢
            generalize rE n ⟨m, S, C, f, d⟩ gen k F T (i : Int) = E1 at hcase ⊢
            obtain ⟨W13, hW13, hb13, hx13, hs13⟩ : ∃ W13, W13 = w12.alloc (.cells (bl V1).toArray 22) ∧ Below w12.heap.size w12 W13 ∧ W13.heap[w12.heap.size]? = some (.cells (bl V1).toArray 22 (0, 0)) ∧ W13.heap.size = w12.heap.size + 1 :=
              ⟨_, rfl, (Below.refl _ _).alloc (Nat.le_refl _) _, heap_alloc_new _ _, by simp⟩
            have hB12 : Below w11.heap.size w11 w12 := hB.trans (hb12.mono hB.size)
            have hB13 : Below w11.heap.size w11 W13 := hB12.trans (hb13.mono hB12.size)
            obtain ⟨⟨p0, p1⟩, hlP⟩ := HPC.out W13 hB13
            have HRD := Lib.hid (read_d (HDX.out W13 hB13) M'.gen M'.k M'.F M'.T ao3 cap3 bA i hlP hk' HF'.out)
            clear m0 m1 d0 hlP hb12 hb13
            dsimp only
            subst hW13
            go_wp2_with (first
              | (refine @wpList_store_row _ _ _ _ _ _ _ rfl 22 (.tmp 14) (.tmp 77) rfl w12.heap.size (bl V1).toArray rfl rfl 22 _ (heap_alloc_new _ _) (size_bl' _) rfl (bl_all _) ?_; rw [World.setRow_alloc_new]; simp only [Act.put]))
            generalize w12.alloc (.cells (bl V1).toArray 22) = W13 at hB13 hx13 hs13 p0 p1 HRD ⊢
            refine HRD.out.mono ?_
            rintro _ w14 ⟨rfl, hb14⟩
            clear HRD p0 p1
            generalize rV n X' M'.gen M'.k M'.F M'.T (i : Int) = V2 at hcase ⊢
            generalize rE n X' M'.gen M'.k M'.F M'.T (i : Int) = E2' at hcase ⊢
            obtain ⟨W15, hW15, hb15, hx15, hs15⟩ : ∃ W15, W15 = w14.alloc (.cells (bl V2).toArray 22) ∧ Below w14.heap.size w14 W15 ∧ W15.heap[w14.heap.size]? = some (.cells (bl V2).toArray 22 (0, 0)) ∧ W15.heap.size = w14.heap.size + 1 :=
              ⟨_, rfl, (Below.refl _ _).alloc (Nat.le_refl _) _, heap_alloc_new _ _, by simp⟩
            have hB14 : Below w11.heap.size w11 w14 := hB13.trans (hb14.mono hB13.size)
            have hB15 : Below w11.heap.size w11 W15 := hB14.trans (hb15.mono hB14.size)
            have hs14 := hb14.size
            have hr14 := Twin.row_of ((hb15.block w12.heap.size (by omega)).trans ((hb14.block w12.heap.size (by omega)).trans hx13))
            have hr16 := Twin.row_of hx15
            obtain ⟨l0, l1⟩ := HLW.out W15 (HBL.out W15 hB15)
            clear hb14 hb15 hx13 hx15
            dsimp only
            rcases hcase.out with ⟨hix, g1, g2⟩ | ⟨hix, g1, g2⟩
            · have q1 : ((i : Int) == x) = true := by simpa using hix
              have q2 : ((i : Int) != x) = false := by simpa using hix
              clear hcase hix
              replace g2 := g2.symm
              subst g1 g2 hW15
              go_upto_region 17 with (refine @wpList_store_row _ _ _ _ _ _ _ rfl 22 (.tmp 16) (.tmp 83) rfl w14.heap.size (bl D).toArray rfl rfl 22 _ (heap_alloc_new _ _) (size_bl' _) rfl (bl_all _) ?_; rw [World.setRow_alloc_new]; simp only [Act.put])
              generalize w14.alloc (.cells (bl D).toArray 22) = W15 at hB15 hr14 hr16 l0 l1 hs15 ⊢
              iterate 22 go_step
              (refine @wpList_loadG _ _ _ _ _ _ _ (by kernel_rfl) 22 (.tmp 16) rfl w14.heap.size 0 rfl (bl D) _ hr16 undB rfl (size_bl D) ?_; simp only [Act.put, List.setIfInBounds_toArray, List.set_cons_succ, List.set_cons_zero])
              iterate 2 go_step
              (refine @wpList_loadG _ _ _ _ _ _ _ (by kernel_rfl) 22 (.tmp 94) rfl (w.heap.size + 2) 1 rfl (bl D) _ l1 undB rfl (size_bl D) ?_; simp only [Act.put, List.setIfInBounds_toArray, List.set_cons_succ, List.set_cons_zero])
              (refine @wpList_neqV _ _ _ _ _ _ _ 22 _ (.tmp 93) (.tmp 95) rfl (by kernel_rfl) (bl D).toArray (bl D).toArray rfl rfl true guardBl (by rw [Eqb.eq_bl, eqB_same]) ?_; simp only [Act.put, List.setIfInBounds_toArray, List.set_cons_succ, List.set_cons_zero])
              iterate 18 go_step
              go_big_skip
              go_wp2_with fail
              go_roundw
              case rel => exact ⟨i + 1, by omega, by go_num, hB15⟩
              case measure => simp [intOf]; omega
            · have q1 : ((i : Int) == x) = false := by simpa using hix
              have q2 : ((i : Int) != x) = true := by simpa using hix
              clear hcase hix
              replace g1 := g1.symm
              replace g2 := g2.symm
              subst g1 g2 hW15
              go_wp2_with (first
                | (refine @wpList_store_row _ _ _ _ _ _ _ rfl 22 (.tmp 16) (.tmp 83) rfl w14.heap.size (bl V1).toArray rfl rfl 22 _ (heap_alloc_new _ _) (size_bl' _) rfl (bl_all _) ?_; rw [World.setRow_alloc_new]; simp only [Act.put])
                | (refine @wpList_loadG _ _ _ _ _ _ _ (by kernel_rfl) 22 (.tmp 16) rfl w14.heap.size 0 rfl (bl V1) _ hr16 undB rfl (size_bl V1) ?_; simp only [Act.put, List.setIfInBounds_toArray, List.set_cons_succ, List.set_cons_zero])
                | (refine @wpList_loadG _ _ _ _ _ _ _ (by kernel_rfl) 22 (.tmp 14) rfl w12.heap.size 0 rfl (bl V1) _ hr14 undB rfl (size_bl V1) ?_; simp only [Act.put, List.setIfInBounds_toArray, List.set_cons_succ, List.set_cons_zero])
                | (refine @wpList_neqV _ _ _ _ _ _ _ 22 _ (.tmp 105) (.tmp 106) rfl (by kernel_rfl) (bl V1).toArray (bl V1).toArray rfl rfl true guardBl (by rw [Eqb.eq_bl, eqB_same]) ?_; simp only [Act.put, List.setIfInBounds_toArray, List.set_cons_succ, List.set_cons_zero]))
              go_roundw
              case rel => exact ⟨i + 1, by omega, by go_num, hB15⟩
              case measure => simp [intOf]; omega
          · have hni : ¬ ((i : Int) < (n : Int)) := by omega
            go_wp2_with fail
            go_ret
            exact ⟨rfl, HBB.out wr hBw⟩
      · have ne : (E3 != 0) = true := by simpa using e3
        clear HBS HBO HWO
        go_wp2_with fail
        go_ret
        exact ⟨rfl, HBB.out w11 hB11⟩
end Rm
end Go.Proofs.YtllejfnmbpjhaaaDoor
