/- DittoLost: the law's walk (made by tools/gen_dlost.py). -/
import Derived.Test.YtllejfnmbpjhaaaDoorDiLoM
import Derived.Deep.CutRange
namespace Go.Proofs.YtllejfnmbpjhaaaDoor
set_option maxRecDepth 20000
namespace Di
open Go.RowKit Dk Byt Eqb Rm

attribute [local irreducible] wpQuiet
attribute [local go_sem] zv29
attribute [local go_sem] Pt.zvP
attribute [local go_sem] zc29
/-- two blocks laid in any order -/
structure TwB (W0 : World) (D E : Nat → Int) (la sa lb sb : Bool) (u v : Value) (w' : World) : Prop where
  be : Below W0.heap.size W0 w'
  a : la = true → ∃ bk, u = .pointer (some ⟨bk, 0, none⟩) ∧ W0.heap.size ≤ bk ∧ w'.heap[bk]? = some (.cells (bl (if sa = true then D else fun _ => 0)).toArray 22 (0, 0))
  b : lb = true → ∃ bk, v = .pointer (some ⟨bk, 0, none⟩) ∧ W0.heap.size ≤ bk ∧ w'.heap[bk]? = some (.cells (bl (if sb = true then E else fun _ => 0)).toArray 22 (0, 0))
  oa : sa = true → la = true
  ob : sb = true → lb = true
  ne : la = true → lb = true → ∀ p q, u = .pointer (some ⟨p, 0, none⟩) → v = .pointer (some ⟨q, 0, none⟩) → p ≠ q
section
variable {W0 w' : World} {D E : Nat → Int} {la sa lb sb : Bool} {u v : Value}
theorem ptr_inj {p q : Nat} (h : Value.pointer (some ⟨p, 0, none⟩) = .pointer (some ⟨q, 0, none⟩)) : p = q := by
  injection h with h
  injection h with h
  injection h with h
theorem off_of {l s : Bool} (hl : l = false) (h : s = true → l = true) : s = false := by
  cases s with
  | false => rfl
  | true => rw [h rfl] at hl; cases hl
theorem TwB.allocA (h : TwB W0 D E la sa lb sb u v w') (hl : la = false) : TwB W0 D E true sa lb sb (.pointer (some ⟨w'.heap.size, 0, none⟩)) v (w'.alloc (.cells (bl fun _ => 0).toArray 22)) := by
  have hb : Below w'.heap.size w' (w'.alloc (.cells (bl fun _ => 0).toArray 22)) := (Below.refl _ _).alloc (Nat.le_refl _) _
  refine ⟨h.be.trans (hb.mono h.be.size), fun _ => ⟨_, rfl, h.be.size, ?_⟩, fun e => ?_, fun _ => rfl, h.ob, fun _ e p q hp hq => ?_⟩
  · rw [off_of hl h.oa, if_neg (by decide)]
    exact heap_alloc_new _ _
  · obtain ⟨bk, e1, e2, e3⟩ := h.b e
    exact ⟨bk, e1, e2, below_at hb e3⟩
  · obtain ⟨bk, e1, _, e3⟩ := h.b e
    have := (Array.getElem?_eq_some_iff.1 e3).1
    have hp' := ptr_inj hp
    rw [e1] at hq
    have hq' := ptr_inj hq
    omega
theorem TwB.allocB (h : TwB W0 D E la sa lb sb u v w') (hl : lb = false) : TwB W0 D E la sa true sb u (.pointer (some ⟨w'.heap.size, 0, none⟩)) (w'.alloc (.cells (bl fun _ => 0).toArray 22)) := by
  have hb : Below w'.heap.size w' (w'.alloc (.cells (bl fun _ => 0).toArray 22)) := (Below.refl _ _).alloc (Nat.le_refl _) _
  refine ⟨h.be.trans (hb.mono h.be.size), fun e => ?_, fun _ => ⟨_, rfl, h.be.size, ?_⟩, h.oa, fun _ => rfl, fun e _ p q hp hq => ?_⟩
  · obtain ⟨bk, e1, e2, e3⟩ := h.a e
    exact ⟨bk, e1, e2, below_at hb e3⟩
  · rw [off_of hl h.ob, if_neg (by decide)]
    exact heap_alloc_new _ _
  · obtain ⟨bk, e1, _, e3⟩ := h.a e
    have := (Array.getElem?_eq_some_iff.1 e3).1
    have hq' := ptr_inj hq
    rw [e1] at hp
    have hp' := ptr_inj hp
    omega
theorem TwB.putA {bk : Nat} {c : Array Value} (h : TwB W0 D E la sa lb sb (.pointer (some ⟨bk, 0, none⟩)) v w') (hl : la = true) (hb : w'.heap[bk]? = some (.cells c 22 (0, 0))) : TwB W0 D E la true lb sb (.pointer (some ⟨bk, 0, none⟩)) v (w'.setRow bk (bl D).toArray) := by
  obtain ⟨bk', e1, e2, _⟩ := h.a hl
  have := ptr_inj e1
  subst this
  refine ⟨below_only h.be e2 (grown_row _), fun _ => ⟨bk, rfl, e2, by rw [if_pos rfl]; exact setRow_heap w' bk _ _ _ _ hb⟩, fun e => ?_, fun _ => hl, h.ob, h.ne⟩
  obtain ⟨q, f1, f2, f3⟩ := h.b e
  have hne := h.ne hl e bk q rfl f1
  exact ⟨q, f1, f2, (setRow_other _ _ _ _ (fun e => hne e.symm)).trans f3⟩
theorem TwB.putB {bk : Nat} {c : Array Value} (h : TwB W0 D E la sa lb sb u (.pointer (some ⟨bk, 0, none⟩)) w') (hl : lb = true) (hb : w'.heap[bk]? = some (.cells c 22 (0, 0))) : TwB W0 D E la sa lb true u (.pointer (some ⟨bk, 0, none⟩)) (w'.setRow bk (bl E).toArray) := by
  obtain ⟨bk', e1, e2, _⟩ := h.b hl
  have := ptr_inj e1
  subst this
  refine ⟨below_only h.be e2 (grown_row _), fun e => ?_, fun _ => ⟨bk, rfl, e2, by rw [if_pos rfl]; exact setRow_heap w' bk _ _ _ _ hb⟩, h.oa, fun _ => hl, h.ne⟩
  obtain ⟨q, f1, f2, f3⟩ := h.a e
  have hne := h.ne e hl q bk f1 rfl
  exact ⟨q, f1, f2, (setRow_other _ _ _ _ hne).trans f3⟩
theorem TwB.fin (h : TwB W0 D E la sa lb sb u v w') (h1 : la = true) (h2 : sa = true) (h3 : lb = true) (h4 : sb = true) : ∃ p q, u = .pointer (some ⟨p, 0, none⟩) ∧ v = .pointer (some ⟨q, 0, none⟩) ∧ (W0.heap.size ≤ p ∧ w'.heap[p]? = some (.cells (bl D).toArray 22 (0, 0))) ∧ (W0.heap.size ≤ q ∧ w'.heap[q]? = some (.cells (bl E).toArray 22 (0, 0))) ∧ Below W0.heap.size W0 w' := by
  obtain ⟨p, e1, e2, e3⟩ := h.a h1
  obtain ⟨q, f1, f2, f3⟩ := h.b h3
  rw [h2, if_pos rfl] at e3
  rw [h4, if_pos rfl] at f3
  exact ⟨p, q, e1, f1, ⟨e2, e3⟩, ⟨f2, f3⟩, h.be⟩
end
theorem box_lo (w : World) (V : Nat → Int) (y z : Int) : ∃ W, W = (w.alloc (.cells (bl V).toArray 22)).alloc (.cells #[.int .u8 y, .int .u8 z] 92) ∧ Below w.heap.size w W ∧ W.heap.size = w.heap.size + 2 ∧
    W.heap[w.heap.size]? = some (.cells (bl V).toArray 22 (0, 0)) ∧ W.heap[w.heap.size + 1]? = some (.cells #[.int .u8 y, .int .u8 z] 92 (0, 0)) := by
  refine ⟨_, rfl, ((Below.refl _ _).alloc (Nat.le_refl _) _).alloc (by simp) _, by simp, (Below.heap_alloc _ _ _ (by simp)).trans (heap_alloc_new w _), ?_⟩
  have := heap_alloc_new (w.alloc (.cells (bl V).toArray 22)) (.cells #[.int .u8 y, .int .u8 z] 92)
  rwa [World.size_alloc] at this
theorem two_cells {w : World} {b : Nat} {y z : Int} (h : w.heap[b]? = some (.cells #[.int .u8 y, .int .u8 z] 92 (0, 0))) : w.cell? ⟨b, 0, none⟩ = some (.int .u8 y) ∧ w.cell? ⟨b, 1, none⟩ = some (.int .u8 z) :=
  ⟨by rw [cell_of_row _ _ _ _ _ _ h]; rfl, by rw [cell_of_row _ _ _ _ _ _ h]; rfl⟩
/-- two blocks of the law's own, kept -/
structure KepL (w0 : World) (V : Nat → Int) (y z : Int) (w : World) : Prop where
  v : w.heap[w0.heap.size]? = some (.cells (bl V).toArray 22 (0, 0))
  l : w.heap[w0.heap.size + 1]? = some (.cells #[.int .u8 y, .int .u8 z] 92 (0, 0))
theorem KepL.below {w0 w w' : World} {V : Nat → Int} {y z : Int} (h : KepL w0 V y z w) (hb : Below w.heap.size w w') : KepL w0 V y z w' := ⟨below_at hb h.v, below_at hb h.l⟩
theorem KepL.two {w0 w w' : World} {V : Nat → Int} {y z : Int} {g b : Nat} (h : KepL w0 V y z w) (ht : Two w w' g b) (hg : w0.heap.size + 1 < g) (hb : w0.heap.size + 1 < b) : KepL w0 V y z w' := ⟨two_at ht h.v (by omega) (by omega), two_at ht h.l (by omega) (by omega)⟩
theorem sum_all {w : World} {B : Nat} {q : Nat → Int} (h : w.heap[B]? = some (.cells (Sha.arr 32 (Sha.vu8 q)) 63 (0, 0))) : w.rangeAt B 0 (Sha.arr 32 (Sha.vu8 q)).toList := fun j v hv => by
  rw [cell_of_row _ _ _ _ _ _ h, Nat.zero_add]
  simpa using hv
theorem undS : Tryd.prog.underlying 63 = some (.array 32 5) := by kernel_rfl
theorem size32 (q : Nat → Int) : (Sha.arr 32 (Sha.vu8 q)).size = 32 := by simp [Sha.arr]
theorem sizeS' (q : Nat → Int) : (Tryd.prog.info? 63).map (·.size) = some (Sha.arr 32 (Sha.vu8 q)).toList.length := by rw [Array.length_toList, size32]; kernel_rfl

def LoI (x0 x1 x2 x3 x4 x5 x6 x8 x9 x10 x11 x12 x13 x16 x17 x18 x19 x20 x21 x22 x23 x24 x25 x26 x27 x28 x29 x30 x31 x32 x33 x34 x35 x36 x37 x38 x39 x40 x41 x42 x43 x44 x45 x46 x47 x48 x49 x50 x51 x52 x53 x54 x55 x56 x57 x68 x69 x70 x71 x72 x73 x74 x75 x76 x77 x78 x79 x80 x81 x82 x83 x84 x85 x86 x87 x88 x89 x90 x91 x92 x93 x94 x95 x96 x97 x98 x99 x100 x101 x102 x103 x104 x105 x106 x107 x108 x109 x110 x111 x112 x113 x114 x115 x116 x117 x118 x119 x120 x121 x122 x123 x124 x125 x126 x127 x128 x129 x130 x131 x132 x133 x134 x135 : Value) (W0 : World) (g bs off : Nat) (sc : Nat) (D E : Nat → Int) (L : Nat → Bool) (a' : Act) (w' : World) : Prop :=
  ∃ u0 u1 u2 u3 u4 u5 u6 u7 u8 u9 u10 u11, a' = { tmps := #[x0, x1, x2, x3, x4, x5, x6, .pointer (some ⟨g, 0, none⟩), x8, x9, x10, x11, x12, x13, u10, u11, x16, x17, x18, x19, x20, x21, x22, x23, x24, x25, x26, x27, x28, x29, x30, x31, x32, x33, x34, x35, x36, x37, x38, x39, x40, x41, x42, x43, x44, x45, x46, x47, x48, x49, x50, x51, x52, x53, x54, x55, x56, x57, u0, u1, u2, u3, u4, u5, u6, u7, u8, u9, x68, x69, x70, x71, x72, x73, x74, x75, x76, x77, x78, x79, x80, x81, x82, x83, x84, x85, x86, x87, x88, x89, x90, x91, x92, x93, x94, x95, x96, x97, x98, x99, x100, x101, x102, x103, x104, x105, x106, x107, x108, x109, x110, x111, x112, x113, x114, x115, x116, x117, x118, x119, x120, x121, x122, x123, x124, x125, x126, x127, x128, x129, x130, x131, x132, x133, x134, x135], defers := [] } ∧ (L 0 = true → u0 = .pointer (some ⟨g, 0, none⟩)) ∧ (L 1 = true → u1 = .slice (some ⟨bs, off, none⟩) 60 sc) ∧ (L 2 = true → u2 = .pointer (some ⟨bs, off + 390, none⟩)) ∧ (L 3 = true → u3 = .pointer (some ⟨bs, off + 390, none⟩)) ∧ (L 4 = true → u4 = .agg (bl D).toArray) ∧ (L 5 = true → u5 = .pointer (some ⟨g, 0, none⟩)) ∧ (L 6 = true → u6 = .slice (some ⟨bs, off, none⟩) 60 sc) ∧ (L 7 = true → u7 = .pointer (some ⟨bs, off + 3250, none⟩)) ∧ (L 8 = true → u8 = .pointer (some ⟨bs, off + 3250, none⟩)) ∧ (L 9 = true → u9 = .agg (bl E).toArray) ∧ TwB W0 D E (L 10) (L 12) (L 11) (L 13) u10 u11 w'
theorem LoI_kl {L : Nat → Bool} {i k : Nat} {Q : Prop} (h : L k = true → Q) (h1 : (k == i) = false) : (k == i || L k) = true → Q := by
  rw [h1, Bool.false_or]
  exact h

set_option maxRecDepth 100000 in
set_option maxHeartbeats 16000000 in
theorem llost_any (V : Nat → Int) (tw : Bool) (y z : Int) (w : World) (hV : byt V) (hy : 0 ≤ y ∧ y < 256) (hz : 0 ≤ z ∧ z < 256) (hk : Rm.Kp w) :
    Calls Tryd.prog 10 #[.agg (bl V).toArray, .bool tw, .agg #[.int .u8 y, .int .u8 z]] w fun e w' => e = .returned (.bool true) ∧ Below w.heap.size w w' := by
  have HK := Lib.hid (fun W (hb : Below w.heap.size w W) => hk.below hb)
  have HK0 := Lib.hid hk
  obtain ⟨hup2, hm2, hfl, hup3, hm3, _⟩ := lchain tw V
  obtain ⟨hup4, hm4, hup5, hm5, _, _, _, _, hD3, hD25⟩ := lhits tw V y z
  have HPUT := Lib.hid (fun g b w3 (hS : LwS w g b fX1 w3) => lputs tw hV hS)
  have HFL := Lib.hid (fun g b w3 (hS : LwS w g b (lX2 tw V) w3) => lflush hS hup2 (by omega))
  have HH1 := Lib.hid (fun g b w3 (hS : LwS w g b (lX3 tw V) w3) => lhit hS hup3 hm3 3 1 5 y (by decide) rfl)
  have HH2 := Lib.hid (fun g b w3 (hS : LwS w g b (lX4 tw V y) w3) => lhit hS hup4 hm4 25 1 9 z (by decide) rfl)
  have HNU := Lib.hid (fun h3 h25 => lost_num (w0 := w) hV tw hy hz h3 h25)
  have hbD := rot_byt hV 5 y
  have hbE := rot_byt (lB_byt hV tw) 9 z
  unfold LwD at HFL HH1 HH2
  rw [hfl] at HFL
  rw [show hX (lX3 tw V) 3 1 5 y = lX4 tw V y from rfl] at HH1
  rw [show hX (lX4 tw V y) 25 1 9 z = lX5 tw V y z from rfl] at HH2
  generalize lX2 tw V = X2 at HPUT HFL
  generalize lX3 tw V = X3 at HFL HH1
  generalize lX4 tw V y = X4 at HH1 HH2
  generalize lX5 tw V y z = X5 at HH2 HNU hD3 hD25
  generalize rot V 5 y = D at HNU hD3 hbD
  generalize rot (lB tw V) 9 z = E at HNU hD25 hbE
  have HSV := Lib.hid (fun (W : World) (g : Nat) (hr : Row W g 0 128 V) (hz : 0 < W.heap.size) => Pt.refsum_row hr hV hz)
  have HSD := Lib.hid (fun (W : World) (g : Nat) (hr : Row W g 0 128 D) (hz : 0 < W.heap.size) => Pt.refsum_row hr hbD hz)
  have HSE' := Lib.hid (fun (W : World) (g : Nat) (hr : Row W g 0 128 E) (hz : 0 < W.heap.size) => Pt.refsum_row hr hbE hz)
  have HQV : Hid (∀ bad V' h' eG X6 s1 s2 s3 eL X7, LoOk w tw V X5 bad V' h' eG X6 s1 s2 s3 eL X7 → LwC w X5 X6 42 (fun g b => #[.pointer (some ⟨g, 0, none⟩), .pointer (some ⟨b, 0, none⟩), .agg (Pt.pV ⟨3, lC tw, Pt.sumD V⟩).toArray]) (.tuple #[.agg (bl V').toArray, .int .i64 h', .int .i64 eG]) ∧
      LwC w X6 X7 43 (fun g b => #[.pointer (some ⟨g, 0, none⟩), .pointer (some ⟨b, 0, none⟩), .agg (Pt.pV ⟨3, lC tw, Pt.sumD V⟩).toArray]) (.tuple #[.agg #[.int .i64 s1, .int .i64 s2, .int .i64 s3, .slice none 0 0], .int .i64 eL])) := Lib.hid fun _ _ _ _ _ _ _ _ _ _ h => ⟨h.g, h.l⟩
  generalize hqd : Pt.sumD D = qd at HSD HNU
  generalize hqe : Pt.sumD E = qe at HSE' HNU
  generalize hqv : Pt.sumD V = q at HSV HPUT HNU HQV
  obtain ⟨y0, y1⟩ := hy
  obtain ⟨z0, z1⟩ := hz
  obtain ⟨W, hW, hB0, hs0, hv0, hl0⟩ := box_lo w V y z
  have HKE := Lib.hid (⟨hv0, hl0⟩ : KepL w V y z W)
  clear hk hup2 hm2 hfl hup3 hm3 hup4 hm4 hup5 hm5 hV hbD hbE hv0 hl0 hqd hqe hqv
  cases htw : tw with
  | false =>
    subst htw
    have hc : lC false = (-1) := rfl
    rw [hc] at HPUT HQV
    clear hc
    go_enter Tryd.func10, Tryd.ntmps10
    go_wp2_with fail
    rw [← hW]
    clear hW
    refine (alive6_any W (HK.out W hB0)).mono ?_
    rintro _ w1 ⟨rfl, hb1⟩
    have hB1 := hB0.trans (hb1.mono hB0.size)
    have HK1 := Lib.hid (HKE.out.below hb1)
    have hs1 := hb1.size
    clear hb1 HKE hB0
    dsimp only
    go_wp2_with fail
    refine (fresh_any w1 (HK.out w1 hB1)).mono ?_
    rintro _ w2 ⟨hb2, sa, sc, ca, cc, rfl, hs, hc⟩
    have hB2 := hB1.trans (hb2.mono hB1.size)
    obtain ⟨a0, a1, W3, hW3, hb3, hS3, hs3⟩ := law_start hB2 HK0.out hs hc
    have HK3 := Lib.hid ((HK1.out.below hb2).below hb3)
    have hg : w.heap.size + 1 < w2.heap.size := by have := hb2.size; omega
    have r3 := row_all HK3.out.v
    clear hs hc hb2 hB1 hB2 HK1
    dsimp only
    subst hW3
    go_wp2_with (first
      | (refine @wpList_store_row _ _ _ _ _ _ _ rfl 35 (.tmp 7) (.tmp 27) rfl w2.heap.size #[.slice sa 60 sc, .slice ca 0 cc, .int .i64 (-1), .bool false] rfl rfl 35 _ a0 (by kernel_rfl) rfl (disk_one _ _ _ _ _ _ _ _) ?_; simp only [Act.put])
      | (refine @wpList_store_row _ _ _ _ _ _ _ rfl 26 (.tmp 8) (.tmp 28) rfl (w2.heap.size + 1) zM rfl rfl 26 _ a1 (by kernel_rfl) rfl rm_one ?_; simp only [Act.put])
      | (refine @wpList_loadG _ _ _ _ _ _ _ (by kernel_rfl) 22 (.tmp 3) rfl w.heap.size 0 rfl (bl V) _ r3 undB rfl (size_bl _) ?_; simp only [Act.put, List.setIfInBounds_toArray, List.set_cons_succ, List.set_cons_zero]))
    generalize ((((w2.alloc (.cells zD 35)).alloc (.cells zM 26)).setRow w2.heap.size #[.slice sa 60 sc, .slice ca 0 cc, .int .i64 (-1), .bool false]).setRow (w2.heap.size + 1) zM) = W3 at hS3 hs3 HK3 ⊢
    clear a0 a1 hb3 r3
    generalize w2.heap.size = g at hS3 hs3 hg ⊢
    refine (HPUT.out g (g + 1) W3 hS3).mono ?_
    rintro _ w4 ⟨rfl, hT4, hS4⟩
    have hs4 := hT4.size
    obtain ⟨W5, hW5, hb5, hx5, hs5⟩ := new_obj w4 (.cells (Pt.pV ⟨3, (-1), q⟩).toArray 65)
    have HK5 := Lib.hid ((HK3.out.two hT4 hg (by omega)).below hb5)
    have hS5 := hS4.below hb5
    clear hT4 hS4 hb5 HPUT hS3 HK3
    dsimp only
    go_wp2_with (refine @wpList_store_row _ _ _ _ _ _ _ rfl 65 (.tmp 11) (.tmp 35) rfl w4.heap.size (Pt.pV ⟨3, (-1), q⟩).toArray rfl rfl 65 _ (heap_alloc_new w4 _) (Pt.sizeP' _) rfl (Pt.pV_all _) ?_; rw [World.setRow_alloc_new]; simp only [Act.put])
    rw [← hW5]
    clear hW5
    have hpg : g + 1 < w4.heap.size := by omega
    generalize w4.heap.size = bp at hx5 hs5 hpg ⊢
    refine (HFL.out g (g + 1) W5 hS5).mono ?_
    rintro _ w6 ⟨rfl, hT6, hS6⟩
    have hx6 := two_at hT6 hx5 (by omega) (by omega)
    have HK6 := Lib.hid (HK5.out.two hT6 hg (by omega))
    have hs6 := hT6.size
    obtain ⟨l0, l1⟩ := two_cells HK6.out.l
    clear hT6 hx5 hS5 HFL HK5
    dsimp only
    go_wp2_with fail
    refine (HH1.out g (g + 1) w6 hS6).mono ?_
    rintro _ w7 ⟨rfl, hT7, hS7⟩
    have hx7 := two_at hT7 hx6 (by omega) (by omega)
    have HK7 := Lib.hid (HK6.out.two hT7 hg (by omega))
    have hs7 := hT7.size
    obtain ⟨m0, m1⟩ := two_cells HK7.out.l
    clear hT7 hx6 hS6 HH1 HK6 l0 l1
    dsimp only
    go_wp2_with fail
    refine (HH2.out g (g + 1) w7 hS7).mono ?_
    rintro _ w10 ⟨rfl, hT10, hS10⟩
    have hx10 := two_at hT10 hx7 (by omega) (by omega)
    have HK10 := Lib.hid (HK7.out.two hT10 hg (by omega))
    have hs10 := hT10.size
    obtain ⟨sa7, sc7, ca7, cc7, hH7⟩ := hS10.d
    obtain ⟨bs, off, rfl, hbs, hbg, hrow⟩ := hH7.ss.rows.resolve_left (by omega)
    have hDr := sec_data (hrow 3 (by omega))
    have hEr := sec_data (hrow 25 (by omega))
    rw [hD3] at hDr
    rw [hD25] at hEr
    have hbx := hH7.bx
    have hbxl := hbx.lt
    have HSE := Lib.hid (fun w' (hw' : Below w10.heap.size w10 w') => show w'.cell? ⟨g, 0, none⟩ = some (.slice (some ⟨bs, off, none⟩) 60 sc7) ∧ w'.rangeAt bs (off + 390) (bl D) ∧ w'.rangeAt bs (off + 3250) (bl E) from
      ⟨(hw'.cell (p := ⟨g, 0, none⟩) hbxl).trans hbx.c0, fun j v hv => (World.cell?_of_block (hw'.block bs hbs)).trans (hDr j v hv), fun j v hv => (World.cell?_of_block (hw'.block bs hbs)).trans (hEr j v hv)⟩)
    have HGI : Hid (∀ u v, TwB w10 D E false false false false u v { w10 with drawn := w10.drawn + 1 }) := Lib.hid fun _ _ => ⟨⟨rfl, rfl, rfl, Nat.le_refl _, fun _ _ => rfl⟩, (fun h => by cases h), (fun h => by cases h), (fun h => by cases h), (fun h => by cases h), (fun h => by cases h)⟩
    have hbx1 := hbx.c1
    clear hT10 hx7 hS7 HH2 HK7 m0 m1 hH7 hrow hDr hEr hbx hbx1 hD3 hD25
    dsimp only
    go_wp2_with fail
    refine QuietTail2.regionInv (n := 14) (Inv := LoI _ _ _ _ _ _ _ _ _ _ _ _ _ _ _ _ _ _ _ _ _ _ _ _ _ _ _ _ _ _ _ _ _ _ _ _ _ _ _ _ _ _ _ _ _ _ _ _ _ _ _ _ _ _ _ _ _ _ _ _ _ _ _ _ _ _ _ _ _ _ _ _ _ _ _ _ _ _ _ _ _ _ _ _ _ _ _ _ _ _ _ _ _ _ _ _ _ _ _ _ _ _ _ _ _ _ _ _ _ _ _ _ _ _ _ _ _ _ _ _ _ _ _ w10 g bs off sc7 D E) (by kernel_rfl) (by decide) (by kernel_rfl) ⟨_, _, _, _, _, _, _, _, _, _, _, _, rfl, by simp, by simp, by simp, by simp, by simp, by simp, by simp, by simp, by simp, by simp, HGI.out _ _⟩ ?stepR ?finR
    case stepR =>
      rintro i o hi ho L a' w' ⟨u0, u1, u2, u3, u4, u5, u6, u7, u8, u9, u10, u11, rfl, i0, i1, i2, i3, i4, i5, i6, i7, i8, i9, iW⟩ hL hpre
      match i, hi with
      | 0, _ =>
        simp at ho
        subst ho
        go_simp
        exact ⟨_, u1, u2, u3, u4, u5, u6, u7, u8, u9, u10, u11, rfl, fun _ => rfl, LoI_kl i1 rfl, LoI_kl i2 rfl, LoI_kl i3 rfl, LoI_kl i4 rfl, LoI_kl i5 rfl, LoI_kl i6 rfl, LoI_kl i7 rfl, LoI_kl i8 rfl, LoI_kl i9 rfl, iW⟩
      | 1, _ =>
        simp at ho
        subst ho
        obtain rfl := i0 (hpre 0 (by kernel_rfl))
        have k0 := (HSE.out w' iW.be).1
        go_simp
        exact ⟨_, _, u2, u3, u4, u5, u6, u7, u8, u9, u10, u11, rfl, LoI_kl i0 rfl, fun _ => rfl, LoI_kl i2 rfl, LoI_kl i3 rfl, LoI_kl i4 rfl, LoI_kl i5 rfl, LoI_kl i6 rfl, LoI_kl i7 rfl, LoI_kl i8 rfl, LoI_kl i9 rfl, iW⟩
      | 2, _ =>
        simp at ho
        subst ho
        obtain rfl := i1 (hpre 1 (by kernel_rfl))
        go_simp
        exact ⟨u0, _, _, u3, u4, u5, u6, u7, u8, u9, u10, u11, rfl, LoI_kl i0 rfl, LoI_kl i1 rfl, fun _ => rfl, LoI_kl i3 rfl, LoI_kl i4 rfl, LoI_kl i5 rfl, LoI_kl i6 rfl, LoI_kl i7 rfl, LoI_kl i8 rfl, LoI_kl i9 rfl, iW⟩
      | 3, _ =>
        simp at ho
        subst ho
        obtain rfl := i2 (hpre 2 (by kernel_rfl))
        go_simp
        exact ⟨u0, u1, _, _, u4, u5, u6, u7, u8, u9, u10, u11, rfl, LoI_kl i0 rfl, LoI_kl i1 rfl, LoI_kl i2 rfl, fun _ => rfl, LoI_kl i4 rfl, LoI_kl i5 rfl, LoI_kl i6 rfl, LoI_kl i7 rfl, LoI_kl i8 rfl, LoI_kl i9 rfl, iW⟩
      | 4, _ =>
        simp at ho
        subst ho
        obtain rfl := i3 (hpre 3 (by kernel_rfl))
        refine wp_load_mid 22 (.tmp 61) rfl bs (off + 390) rfl (bl D) _ (HSE.out w' iW.be).2.1 undB rfl (size_bl D) ?_
        simp only [Act.put, List.setIfInBounds_toArray, List.set_cons_succ, List.set_cons_zero]
        exact ⟨u0, u1, u2, _, _, u5, u6, u7, u8, u9, u10, u11, rfl, LoI_kl i0 rfl, LoI_kl i1 rfl, LoI_kl i2 rfl, LoI_kl i3 rfl, fun _ => rfl, LoI_kl i5 rfl, LoI_kl i6 rfl, LoI_kl i7 rfl, LoI_kl i8 rfl, LoI_kl i9 rfl, iW⟩
      | 5, _ =>
        simp at ho
        subst ho
        go_simp
        exact ⟨u0, u1, u2, u3, u4, _, u6, u7, u8, u9, u10, u11, rfl, LoI_kl i0 rfl, LoI_kl i1 rfl, LoI_kl i2 rfl, LoI_kl i3 rfl, LoI_kl i4 rfl, fun _ => rfl, LoI_kl i6 rfl, LoI_kl i7 rfl, LoI_kl i8 rfl, LoI_kl i9 rfl, iW⟩
      | 6, _ =>
        simp at ho
        subst ho
        obtain rfl := i5 (hpre 5 (by kernel_rfl))
        have k0 := (HSE.out w' iW.be).1
        go_simp
        exact ⟨u0, u1, u2, u3, u4, _, _, u7, u8, u9, u10, u11, rfl, LoI_kl i0 rfl, LoI_kl i1 rfl, LoI_kl i2 rfl, LoI_kl i3 rfl, LoI_kl i4 rfl, LoI_kl i5 rfl, fun _ => rfl, LoI_kl i7 rfl, LoI_kl i8 rfl, LoI_kl i9 rfl, iW⟩
      | 7, _ =>
        simp at ho
        subst ho
        obtain rfl := i6 (hpre 6 (by kernel_rfl))
        go_simp
        exact ⟨u0, u1, u2, u3, u4, u5, _, _, u8, u9, u10, u11, rfl, LoI_kl i0 rfl, LoI_kl i1 rfl, LoI_kl i2 rfl, LoI_kl i3 rfl, LoI_kl i4 rfl, LoI_kl i5 rfl, LoI_kl i6 rfl, fun _ => rfl, LoI_kl i8 rfl, LoI_kl i9 rfl, iW⟩
      | 8, _ =>
        simp at ho
        subst ho
        obtain rfl := i7 (hpre 7 (by kernel_rfl))
        go_simp
        exact ⟨u0, u1, u2, u3, u4, u5, u6, _, _, u9, u10, u11, rfl, LoI_kl i0 rfl, LoI_kl i1 rfl, LoI_kl i2 rfl, LoI_kl i3 rfl, LoI_kl i4 rfl, LoI_kl i5 rfl, LoI_kl i6 rfl, LoI_kl i7 rfl, fun _ => rfl, LoI_kl i9 rfl, iW⟩
      | 9, _ =>
        simp at ho
        subst ho
        obtain rfl := i8 (hpre 8 (by kernel_rfl))
        refine wp_load_mid 22 (.tmp 66) rfl bs (off + 3250) rfl (bl E) _ (HSE.out w' iW.be).2.2 undB rfl (size_bl E) ?_
        simp only [Act.put, List.setIfInBounds_toArray, List.set_cons_succ, List.set_cons_zero]
        exact ⟨u0, u1, u2, u3, u4, u5, u6, u7, _, _, u10, u11, rfl, LoI_kl i0 rfl, LoI_kl i1 rfl, LoI_kl i2 rfl, LoI_kl i3 rfl, LoI_kl i4 rfl, LoI_kl i5 rfl, LoI_kl i6 rfl, LoI_kl i7 rfl, LoI_kl i8 rfl, fun _ => rfl, iW⟩
      | 10, _ =>
        simp at ho
        subst ho
        go_simp
        exact ⟨u0, u1, u2, u3, u4, u5, u6, u7, u8, u9, _, u11, rfl, LoI_kl i0 rfl, LoI_kl i1 rfl, LoI_kl i2 rfl, LoI_kl i3 rfl, LoI_kl i4 rfl, LoI_kl i5 rfl, LoI_kl i6 rfl, LoI_kl i7 rfl, LoI_kl i8 rfl, LoI_kl i9 rfl, iW.allocA hL⟩
      | 11, _ =>
        simp at ho
        subst ho
        go_simp
        exact ⟨u0, u1, u2, u3, u4, u5, u6, u7, u8, u9, u10, _, rfl, LoI_kl i0 rfl, LoI_kl i1 rfl, LoI_kl i2 rfl, LoI_kl i3 rfl, LoI_kl i4 rfl, LoI_kl i5 rfl, LoI_kl i6 rfl, LoI_kl i7 rfl, LoI_kl i8 rfl, LoI_kl i9 rfl, iW.allocB hL⟩
      | 12, _ =>
        simp at ho
        subst ho
        obtain rfl := i4 (hpre 4 (by kernel_rfl))
        obtain ⟨bk, e10, _, hbk⟩ := iW.a (hpre 10 (by kernel_rfl))
        subst e10
        refine wp_store_row 22 (.tmp 14) (.tmp 62) rfl bk (bl D).toArray rfl rfl 22 _ hbk (size_bl' _) rfl (bl_all _) ?_
        exact ⟨u0, u1, u2, u3, _, u5, u6, u7, u8, u9, _, u11, rfl, LoI_kl i0 rfl, LoI_kl i1 rfl, LoI_kl i2 rfl, LoI_kl i3 rfl, LoI_kl i4 rfl, LoI_kl i5 rfl, LoI_kl i6 rfl, LoI_kl i7 rfl, LoI_kl i8 rfl, LoI_kl i9 rfl, iW.putA (hpre 10 (by kernel_rfl)) hbk⟩
      | 13, _ =>
        simp at ho
        subst ho
        obtain rfl := i9 (hpre 9 (by kernel_rfl))
        obtain ⟨bk, e11, _, hbk⟩ := iW.b (hpre 11 (by kernel_rfl))
        subst e11
        refine wp_store_row 22 (.tmp 15) (.tmp 67) rfl bk (bl E).toArray rfl rfl 22 _ hbk (size_bl' _) rfl (bl_all _) ?_
        exact ⟨u0, u1, u2, u3, u4, u5, u6, u7, u8, _, u10, _, rfl, LoI_kl i0 rfl, LoI_kl i1 rfl, LoI_kl i2 rfl, LoI_kl i3 rfl, LoI_kl i4 rfl, LoI_kl i5 rfl, LoI_kl i6 rfl, LoI_kl i7 rfl, LoI_kl i8 rfl, LoI_kl i9 rfl, iW.putB (hpre 11 (by kernel_rfl)) hbk⟩
      | i + 14, h => omega
    rintro L a' w11 hall ⟨u0, u1, u2, u3, u4, u5, u6, u7, u8, u9, u10, u11, rfl, i0, i1, i2, i3, i4, i5, i6, i7, i8, i9, iW⟩
    obtain rfl := i0 (hall 0 (by omega))
    obtain rfl := i1 (hall 1 (by omega))
    obtain rfl := i2 (hall 2 (by omega))
    obtain rfl := i3 (hall 3 (by omega))
    obtain rfl := i4 (hall 4 (by omega))
    obtain rfl := i5 (hall 5 (by omega))
    obtain rfl := i6 (hall 6 (by omega))
    obtain rfl := i7 (hall 7 (by omega))
    obtain rfl := i8 (hall 8 (by omega))
    obtain rfl := i9 (hall 9 (by omega))
    obtain ⟨bd, be, rfl, rfl, hxd, hxe, hb11⟩ := iW.fin (hall 10 (by omega)) (hall 12 (by omega)) (hall 11 (by omega)) (hall 13 (by omega))
    clear iW
    clear i0 i1 i2 i3 i4 i5 i6 i7 i8 i9 hall
    simp only [List.drop_succ_cons, List.drop_zero]
    refine wpList_nil ?_
    have hS11 := hS10.below hb11
    have hx11 := below_at hb11 hx10
    have HK11 := Lib.hid (HK10.out.below hb11)
    have hs11 := hb11.size
    have hdl := (Array.getElem?_eq_some_iff.1 hxd.2).1
    have hel := (Array.getElem?_eq_some_iff.1 hxe.2).1
    clear HSE HGI hb11 hS10 hx10 HK10
    go_wp2_with fail
    refine (HSV.out w11 w.heap.size (Pt.row_of HK11.out.v) (by omega)).mono ?_
    rintro _ w12 ⟨rfl, hb12⟩
    obtain ⟨W13, hW13, hb13, hx13, hs13⟩ := new_obj w12 (.cells (Sha.arr 32 (Sha.vu8 q)) 63)
    have hS13 := (hS11.below hb12).below hb13
    have hp13 := below_at hb13 (below_at hb12 hx11)
    have HK13 := Lib.hid ((HK11.out.below hb12).below hb13)
    have hxd13 := below_at hb13 (below_at hb12 hxd.2)
    have hxe13 := below_at hb13 (below_at hb12 hxe.2)
    have hs12 := hb12.size
    clear hb12 hb13 hS11 hx11 HK11
    dsimp only
    go_upto_region 15 with (refine wpList_store_row rfl 63 (.tmp 16) (.tmp 69) rfl w12.heap.size (Sha.arr 32 (Sha.vu8 q)) rfl rfl 63 _ (heap_alloc_new _ _) Sha.info32 (by rw [Sha.arr_size]; rfl) (Sha.arr_one8 _ _) ?_; rw [World.setRow_alloc_new]; simp only [Act.put])
    rw [← hW13]
    clear hW13
    have hbq : g + 1 < w12.heap.size := by omega
    generalize w12.heap.size = bq at hx13 hs13 hbq ⊢
    have HX := Lib.hid (fun w' (hw' : Below W13.heap.size W13 w') => And.intro (below_at hw' HK13.out.v) (And.intro (below_at hw' hxd13) (And.intro (below_at hw' hxe13) (below_at hw' hx13))))
    have HS13 := Lib.hid hS13
    have hs130 : 0 < W13.heap.size := by omega
    have HX1 := Lib.hid (fun W => eq_bl D V W)
    have HX2 := Lib.hid (fun W => eq_sum qd q W)
    have HY1 := Lib.hid (fun W => eq_bl E V W)
    have HY2 := Lib.hid (fun W => eq_sum qe q W)
    generalize eqB 128 D V = x1 at HX1 HNU
    generalize eqB 32 qd q = x2 at HX2 HNU
    generalize eqB 128 E V = e1 at HY1 HNU
    generalize eqB 32 qe q = e2 at HY2 HNU
    obtain ⟨r, hr⟩ : ∃ r, r = (((!x1) && x2) || ((!e1) && e2)) := ⟨_, rfl⟩
    have HR := Lib.hid hr
    clear hr hS13 hxd13 hxe13 hx13
    go_cut [89] from 70 (fun v wc => v = .bool r ∧ Hid (Below W13.heap.size W13 wc))
    case first =>
      refine wp_region_quiet (C := fun w' => Below W13.heap.size W13 w') (by kernel_rfl) (by kernel_rfl) ⟨rfl, rfl, rfl, Nat.le_refl _, fun _ _ => rfl⟩ ?_
      cases x1 with
      | true =>
        cases e1 with
        | true =>
          refine q_loadB 22 (.tmp 14) rfl rfl bd 0 rfl (bl D) _ (fun w' hw' => row_all (HX.out w' hw').2.1) undB rfl (size_bl D) ?_
          simp only [Act.put, List.setIfInBounds_toArray, List.set_cons_succ, List.set_cons_zero]
          refine q_loadB 22 (.tmp 3) rfl rfl w.heap.size 0 rfl (bl V) _ (fun w' hw' => row_all (HX.out w' hw').1) undB rfl (size_bl V) ?_
          simp only [Act.put, List.setIfInBounds_toArray, List.set_cons_succ, List.set_cons_zero]
          refine q_neqV 22 _ (.tmp 70) (.tmp 71) rfl rfl ((bl D).toArray) ((bl V).toArray) rfl rfl (true) Pt.guardB (fun w' _ => HX1.out w') ?_
          simp only [Act.put, List.setIfInBounds_toArray, List.set_cons_succ, List.set_cons_zero]
          refine q_move _ rfl rfl ?_
          simp only [Act.put, List.setIfInBounds_toArray, List.set_cons_succ, List.set_cons_zero]
          refine BigFrame.wpQuiet_skip (by kernel_rfl) ?_
          simp only [Act.put, List.setIfInBounds_toArray, List.set_cons_succ, List.set_cons_zero]
          refine BigFrame.wpQuiet_skip (by kernel_rfl) ?_
          simp only [Act.put, List.setIfInBounds_toArray, List.set_cons_succ, List.set_cons_zero]
          refine BigFrame.wpQuiet_skip (by kernel_rfl) ?_
          simp only [Act.put, List.setIfInBounds_toArray, List.set_cons_succ, List.set_cons_zero]
          refine BigFrame.wpQuiet_skip (by kernel_rfl) ?_
          simp only [Act.put, List.setIfInBounds_toArray, List.set_cons_succ, List.set_cons_zero]
          refine q_val (.bool false) rfl (fun w' hw' => by go_simp) ?_
          simp only [Act.put, List.setIfInBounds_toArray, List.set_cons_succ, List.set_cons_zero]
          refine q_move _ rfl rfl ?_
          simp only [Act.put, List.setIfInBounds_toArray, List.set_cons_succ, List.set_cons_zero]
          refine q_loadB 22 (.tmp 15) rfl (by kernel_rfl) be 0 rfl (bl E) _ (fun w' hw' => row_all (HX.out w' hw').2.2.1) undB rfl (size_bl E) ?_
          simp only [Act.put, List.setIfInBounds_toArray, List.set_cons_succ, List.set_cons_zero]
          refine q_loadB 22 (.tmp 3) rfl (by kernel_rfl) w.heap.size 0 rfl (bl V) _ (fun w' hw' => row_all (HX.out w' hw').1) undB rfl (size_bl V) ?_
          simp only [Act.put, List.setIfInBounds_toArray, List.set_cons_succ, List.set_cons_zero]
          refine q_neqV 22 _ (.tmp 80) (.tmp 81) rfl (by kernel_rfl) ((bl E).toArray) ((bl V).toArray) rfl rfl (true) Pt.guardB (fun w' _ => HY1.out w') ?_
          simp only [Act.put, List.setIfInBounds_toArray, List.set_cons_succ, List.set_cons_zero]
          refine q_move _ rfl (by kernel_rfl) ?_
          simp only [Act.put, List.setIfInBounds_toArray, List.set_cons_succ, List.set_cons_zero]
          refine BigFrame.wpQuiet_skip (by kernel_rfl) ?_
          simp only [Act.put, List.setIfInBounds_toArray, List.set_cons_succ, List.set_cons_zero]
          refine BigFrame.wpQuiet_skip (by kernel_rfl) ?_
          simp only [Act.put, List.setIfInBounds_toArray, List.set_cons_succ, List.set_cons_zero]
          refine BigFrame.wpQuiet_skip (by kernel_rfl) ?_
          simp only [Act.put, List.setIfInBounds_toArray, List.set_cons_succ, List.set_cons_zero]
          refine BigFrame.wpQuiet_skip (by kernel_rfl) ?_
          simp only [Act.put, List.setIfInBounds_toArray, List.set_cons_succ, List.set_cons_zero]
          refine q_val (.bool false) (by kernel_rfl) (fun w' hw' => by go_simp) ?_
          simp only [Act.put, List.setIfInBounds_toArray, List.set_cons_succ, List.set_cons_zero]
          refine q_val (.bool false) rfl (fun w' hw' => by go_simp) ?_
          simp only [Act.put, List.setIfInBounds_toArray, List.set_cons_succ, List.set_cons_zero]
          refine wpQuiet_nil ?_
          intro w14 hw14
          go_wp2_with fail
          go_meet
          exact ⟨by rw [HR.out]; simp, Lib.hid hw14⟩
        | false =>
          cases e2 with
          | false =>
            refine q_loadB 22 (.tmp 14) rfl rfl bd 0 rfl (bl D) _ (fun w' hw' => row_all (HX.out w' hw').2.1) undB rfl (size_bl D) ?_
            simp only [Act.put, List.setIfInBounds_toArray, List.set_cons_succ, List.set_cons_zero]
            refine q_loadB 22 (.tmp 3) rfl rfl w.heap.size 0 rfl (bl V) _ (fun w' hw' => row_all (HX.out w' hw').1) undB rfl (size_bl V) ?_
            simp only [Act.put, List.setIfInBounds_toArray, List.set_cons_succ, List.set_cons_zero]
            refine q_neqV 22 _ (.tmp 70) (.tmp 71) rfl rfl ((bl D).toArray) ((bl V).toArray) rfl rfl (true) Pt.guardB (fun w' _ => HX1.out w') ?_
            simp only [Act.put, List.setIfInBounds_toArray, List.set_cons_succ, List.set_cons_zero]
            refine q_move _ rfl rfl ?_
            simp only [Act.put, List.setIfInBounds_toArray, List.set_cons_succ, List.set_cons_zero]
            refine BigFrame.wpQuiet_skip (by kernel_rfl) ?_
            simp only [Act.put, List.setIfInBounds_toArray, List.set_cons_succ, List.set_cons_zero]
            refine BigFrame.wpQuiet_skip (by kernel_rfl) ?_
            simp only [Act.put, List.setIfInBounds_toArray, List.set_cons_succ, List.set_cons_zero]
            refine BigFrame.wpQuiet_skip (by kernel_rfl) ?_
            simp only [Act.put, List.setIfInBounds_toArray, List.set_cons_succ, List.set_cons_zero]
            refine BigFrame.wpQuiet_skip (by kernel_rfl) ?_
            simp only [Act.put, List.setIfInBounds_toArray, List.set_cons_succ, List.set_cons_zero]
            refine q_val (.bool false) rfl (fun w' hw' => by go_simp) ?_
            simp only [Act.put, List.setIfInBounds_toArray, List.set_cons_succ, List.set_cons_zero]
            refine q_move _ rfl rfl ?_
            simp only [Act.put, List.setIfInBounds_toArray, List.set_cons_succ, List.set_cons_zero]
            refine q_loadB 22 (.tmp 15) rfl (by kernel_rfl) be 0 rfl (bl E) _ (fun w' hw' => row_all (HX.out w' hw').2.2.1) undB rfl (size_bl E) ?_
            simp only [Act.put, List.setIfInBounds_toArray, List.set_cons_succ, List.set_cons_zero]
            refine q_loadB 22 (.tmp 3) rfl (by kernel_rfl) w.heap.size 0 rfl (bl V) _ (fun w' hw' => row_all (HX.out w' hw').1) undB rfl (size_bl V) ?_
            simp only [Act.put, List.setIfInBounds_toArray, List.set_cons_succ, List.set_cons_zero]
            refine q_neqV 22 _ (.tmp 80) (.tmp 81) rfl (by kernel_rfl) ((bl E).toArray) ((bl V).toArray) rfl rfl (false) Pt.guardB (fun w' _ => HY1.out w') ?_
            simp only [Act.put, List.setIfInBounds_toArray, List.set_cons_succ, List.set_cons_zero]
            refine q_move _ rfl (by kernel_rfl) ?_
            simp only [Act.put, List.setIfInBounds_toArray, List.set_cons_succ, List.set_cons_zero]
            refine q_val (.slice (some ⟨be, 0, none⟩) 128 128) (by kernel_rfl) (fun w' hw' => by go_simp) ?_
            simp only [Act.put, List.setIfInBounds_toArray, List.set_cons_succ, List.set_cons_zero]
            refine q_call 41 _ (.agg (Sha.arr 32 (Sha.vu8 qe))) (by kernel_rfl) (fun w' => by go_simp) (fun w' hw' => (HSE'.out w' be (Pt.row_of (HX.out w' hw').2.2.1) (by have := hw'.size; omega)).mono fun e w'' ⟨he, hb⟩ => ⟨he, hw'.trans (hb.mono hw'.size)⟩) ?_
            simp only [Act.put, List.setIfInBounds_toArray, List.set_cons_succ, List.set_cons_zero]
            refine q_loadB 63 (.tmp 16) rfl (by kernel_rfl) bq 0 rfl ((Sha.arr 32 (Sha.vu8 q)).toList) _ (fun w' hw' => sum_all (HX.out w' hw').2.2.2) undS rfl (sizeS' q) ?_
            simp only [Act.put, List.setIfInBounds_toArray, List.set_cons_succ, List.set_cons_zero]
            refine q_eqlV 63 _ (.tmp 85) (.tmp 86) rfl (by kernel_rfl) (Sha.arr 32 (Sha.vu8 qe)) (Sha.arr 32 (Sha.vu8 q)) rfl (congrArg Value.agg Array.toArray_toList) false Pt.guardS (fun w' _ => HY2.out w') ?_
            simp only [Act.put, List.setIfInBounds_toArray, List.set_cons_succ, List.set_cons_zero]
            refine q_val (.bool false) (by kernel_rfl) (fun w' hw' => by go_simp) ?_
            simp only [Act.put, List.setIfInBounds_toArray, List.set_cons_succ, List.set_cons_zero]
            refine q_val (.bool false) rfl (fun w' hw' => by go_simp) ?_
            simp only [Act.put, List.setIfInBounds_toArray, List.set_cons_succ, List.set_cons_zero]
            refine wpQuiet_nil ?_
            intro w14 hw14
            go_wp2_with fail
            go_meet
            exact ⟨by rw [HR.out]; simp, Lib.hid hw14⟩
          | true =>
            refine q_loadB 22 (.tmp 14) rfl rfl bd 0 rfl (bl D) _ (fun w' hw' => row_all (HX.out w' hw').2.1) undB rfl (size_bl D) ?_
            simp only [Act.put, List.setIfInBounds_toArray, List.set_cons_succ, List.set_cons_zero]
            refine q_loadB 22 (.tmp 3) rfl rfl w.heap.size 0 rfl (bl V) _ (fun w' hw' => row_all (HX.out w' hw').1) undB rfl (size_bl V) ?_
            simp only [Act.put, List.setIfInBounds_toArray, List.set_cons_succ, List.set_cons_zero]
            refine q_neqV 22 _ (.tmp 70) (.tmp 71) rfl rfl ((bl D).toArray) ((bl V).toArray) rfl rfl (true) Pt.guardB (fun w' _ => HX1.out w') ?_
            simp only [Act.put, List.setIfInBounds_toArray, List.set_cons_succ, List.set_cons_zero]
            refine q_move _ rfl rfl ?_
            simp only [Act.put, List.setIfInBounds_toArray, List.set_cons_succ, List.set_cons_zero]
            refine BigFrame.wpQuiet_skip (by kernel_rfl) ?_
            simp only [Act.put, List.setIfInBounds_toArray, List.set_cons_succ, List.set_cons_zero]
            refine BigFrame.wpQuiet_skip (by kernel_rfl) ?_
            simp only [Act.put, List.setIfInBounds_toArray, List.set_cons_succ, List.set_cons_zero]
            refine BigFrame.wpQuiet_skip (by kernel_rfl) ?_
            simp only [Act.put, List.setIfInBounds_toArray, List.set_cons_succ, List.set_cons_zero]
            refine BigFrame.wpQuiet_skip (by kernel_rfl) ?_
            simp only [Act.put, List.setIfInBounds_toArray, List.set_cons_succ, List.set_cons_zero]
            refine q_val (.bool false) rfl (fun w' hw' => by go_simp) ?_
            simp only [Act.put, List.setIfInBounds_toArray, List.set_cons_succ, List.set_cons_zero]
            refine q_move _ rfl rfl ?_
            simp only [Act.put, List.setIfInBounds_toArray, List.set_cons_succ, List.set_cons_zero]
            refine q_loadB 22 (.tmp 15) rfl (by kernel_rfl) be 0 rfl (bl E) _ (fun w' hw' => row_all (HX.out w' hw').2.2.1) undB rfl (size_bl E) ?_
            simp only [Act.put, List.setIfInBounds_toArray, List.set_cons_succ, List.set_cons_zero]
            refine q_loadB 22 (.tmp 3) rfl (by kernel_rfl) w.heap.size 0 rfl (bl V) _ (fun w' hw' => row_all (HX.out w' hw').1) undB rfl (size_bl V) ?_
            simp only [Act.put, List.setIfInBounds_toArray, List.set_cons_succ, List.set_cons_zero]
            refine q_neqV 22 _ (.tmp 80) (.tmp 81) rfl (by kernel_rfl) ((bl E).toArray) ((bl V).toArray) rfl rfl (false) Pt.guardB (fun w' _ => HY1.out w') ?_
            simp only [Act.put, List.setIfInBounds_toArray, List.set_cons_succ, List.set_cons_zero]
            refine q_move _ rfl (by kernel_rfl) ?_
            simp only [Act.put, List.setIfInBounds_toArray, List.set_cons_succ, List.set_cons_zero]
            refine q_val (.slice (some ⟨be, 0, none⟩) 128 128) (by kernel_rfl) (fun w' hw' => by go_simp) ?_
            simp only [Act.put, List.setIfInBounds_toArray, List.set_cons_succ, List.set_cons_zero]
            refine q_call 41 _ (.agg (Sha.arr 32 (Sha.vu8 qe))) (by kernel_rfl) (fun w' => by go_simp) (fun w' hw' => (HSE'.out w' be (Pt.row_of (HX.out w' hw').2.2.1) (by have := hw'.size; omega)).mono fun e w'' ⟨he, hb⟩ => ⟨he, hw'.trans (hb.mono hw'.size)⟩) ?_
            simp only [Act.put, List.setIfInBounds_toArray, List.set_cons_succ, List.set_cons_zero]
            refine q_loadB 63 (.tmp 16) rfl (by kernel_rfl) bq 0 rfl ((Sha.arr 32 (Sha.vu8 q)).toList) _ (fun w' hw' => sum_all (HX.out w' hw').2.2.2) undS rfl (sizeS' q) ?_
            simp only [Act.put, List.setIfInBounds_toArray, List.set_cons_succ, List.set_cons_zero]
            refine q_eqlV 63 _ (.tmp 85) (.tmp 86) rfl (by kernel_rfl) (Sha.arr 32 (Sha.vu8 qe)) (Sha.arr 32 (Sha.vu8 q)) rfl (congrArg Value.agg Array.toArray_toList) true Pt.guardS (fun w' _ => HY2.out w') ?_
            simp only [Act.put, List.setIfInBounds_toArray, List.set_cons_succ, List.set_cons_zero]
            refine q_val (.bool true) (by kernel_rfl) (fun w' hw' => by go_simp) ?_
            simp only [Act.put, List.setIfInBounds_toArray, List.set_cons_succ, List.set_cons_zero]
            refine q_val (.bool true) rfl (fun w' hw' => by go_simp) ?_
            simp only [Act.put, List.setIfInBounds_toArray, List.set_cons_succ, List.set_cons_zero]
            refine wpQuiet_nil ?_
            intro w14 hw14
            go_wp2_with fail
            go_meet
            exact ⟨by rw [HR.out]; simp, Lib.hid hw14⟩
      | false =>
        cases x2 with
        | true =>
          refine q_loadB 22 (.tmp 14) rfl rfl bd 0 rfl (bl D) _ (fun w' hw' => row_all (HX.out w' hw').2.1) undB rfl (size_bl D) ?_
          simp only [Act.put, List.setIfInBounds_toArray, List.set_cons_succ, List.set_cons_zero]
          refine q_loadB 22 (.tmp 3) rfl rfl w.heap.size 0 rfl (bl V) _ (fun w' hw' => row_all (HX.out w' hw').1) undB rfl (size_bl V) ?_
          simp only [Act.put, List.setIfInBounds_toArray, List.set_cons_succ, List.set_cons_zero]
          refine q_neqV 22 _ (.tmp 70) (.tmp 71) rfl rfl ((bl D).toArray) ((bl V).toArray) rfl rfl (false) Pt.guardB (fun w' _ => HX1.out w') ?_
          simp only [Act.put, List.setIfInBounds_toArray, List.set_cons_succ, List.set_cons_zero]
          refine q_move _ rfl rfl ?_
          simp only [Act.put, List.setIfInBounds_toArray, List.set_cons_succ, List.set_cons_zero]
          refine q_val (.slice (some ⟨bd, 0, none⟩) 128 128) (by kernel_rfl) (fun w' hw' => by go_simp) ?_
          simp only [Act.put, List.setIfInBounds_toArray, List.set_cons_succ, List.set_cons_zero]
          refine q_call 41 _ (.agg (Sha.arr 32 (Sha.vu8 qd))) (by kernel_rfl) (fun w' => by go_simp) (fun w' hw' => (HSD.out w' bd (Pt.row_of (HX.out w' hw').2.1) (by have := hw'.size; omega)).mono fun e w'' ⟨he, hb⟩ => ⟨he, hw'.trans (hb.mono hw'.size)⟩) ?_
          simp only [Act.put, List.setIfInBounds_toArray, List.set_cons_succ, List.set_cons_zero]
          refine q_loadB 63 (.tmp 16) rfl (by kernel_rfl) bq 0 rfl ((Sha.arr 32 (Sha.vu8 q)).toList) _ (fun w' hw' => sum_all (HX.out w' hw').2.2.2) undS rfl (sizeS' q) ?_
          simp only [Act.put, List.setIfInBounds_toArray, List.set_cons_succ, List.set_cons_zero]
          refine q_eqlV 63 _ (.tmp 75) (.tmp 76) rfl (by kernel_rfl) (Sha.arr 32 (Sha.vu8 qd)) (Sha.arr 32 (Sha.vu8 q)) rfl (congrArg Value.agg Array.toArray_toList) true Pt.guardS (fun w' _ => HX2.out w') ?_
          simp only [Act.put, List.setIfInBounds_toArray, List.set_cons_succ, List.set_cons_zero]
          refine q_val (.bool true) rfl (fun w' hw' => by go_simp) ?_
          simp only [Act.put, List.setIfInBounds_toArray, List.set_cons_succ, List.set_cons_zero]
          refine q_move _ rfl rfl ?_
          simp only [Act.put, List.setIfInBounds_toArray, List.set_cons_succ, List.set_cons_zero]
          refine BigFrame.wpQuiet_skip (by kernel_rfl) ?_
          simp only [Act.put, List.setIfInBounds_toArray, List.set_cons_succ, List.set_cons_zero]
          refine BigFrame.wpQuiet_skip (by kernel_rfl) ?_
          simp only [Act.put, List.setIfInBounds_toArray, List.set_cons_succ, List.set_cons_zero]
          refine BigFrame.wpQuiet_skip (by kernel_rfl) ?_
          simp only [Act.put, List.setIfInBounds_toArray, List.set_cons_succ, List.set_cons_zero]
          refine BigFrame.wpQuiet_skip (by kernel_rfl) ?_
          simp only [Act.put, List.setIfInBounds_toArray, List.set_cons_succ, List.set_cons_zero]
          refine BigFrame.wpQuiet_skip (by kernel_rfl) ?_
          simp only [Act.put, List.setIfInBounds_toArray, List.set_cons_succ, List.set_cons_zero]
          refine BigFrame.wpQuiet_skip (by kernel_rfl) ?_
          simp only [Act.put, List.setIfInBounds_toArray, List.set_cons_succ, List.set_cons_zero]
          refine BigFrame.wpQuiet_skip (by kernel_rfl) ?_
          simp only [Act.put, List.setIfInBounds_toArray, List.set_cons_succ, List.set_cons_zero]
          refine BigFrame.wpQuiet_skip (by kernel_rfl) ?_
          simp only [Act.put, List.setIfInBounds_toArray, List.set_cons_succ, List.set_cons_zero]
          refine BigFrame.wpQuiet_skip (by kernel_rfl) ?_
          simp only [Act.put, List.setIfInBounds_toArray, List.set_cons_succ, List.set_cons_zero]
          refine q_val (.bool true) rfl (fun w' hw' => by go_simp) ?_
          simp only [Act.put, List.setIfInBounds_toArray, List.set_cons_succ, List.set_cons_zero]
          refine wpQuiet_nil ?_
          intro w14 hw14
          go_wp2_with fail
          go_meet
          exact ⟨by rw [HR.out]; simp, Lib.hid hw14⟩
        | false =>
          cases e1 with
          | true =>
            refine q_loadB 22 (.tmp 14) rfl rfl bd 0 rfl (bl D) _ (fun w' hw' => row_all (HX.out w' hw').2.1) undB rfl (size_bl D) ?_
            simp only [Act.put, List.setIfInBounds_toArray, List.set_cons_succ, List.set_cons_zero]
            refine q_loadB 22 (.tmp 3) rfl rfl w.heap.size 0 rfl (bl V) _ (fun w' hw' => row_all (HX.out w' hw').1) undB rfl (size_bl V) ?_
            simp only [Act.put, List.setIfInBounds_toArray, List.set_cons_succ, List.set_cons_zero]
            refine q_neqV 22 _ (.tmp 70) (.tmp 71) rfl rfl ((bl D).toArray) ((bl V).toArray) rfl rfl (false) Pt.guardB (fun w' _ => HX1.out w') ?_
            simp only [Act.put, List.setIfInBounds_toArray, List.set_cons_succ, List.set_cons_zero]
            refine q_move _ rfl rfl ?_
            simp only [Act.put, List.setIfInBounds_toArray, List.set_cons_succ, List.set_cons_zero]
            refine q_val (.slice (some ⟨bd, 0, none⟩) 128 128) (by kernel_rfl) (fun w' hw' => by go_simp) ?_
            simp only [Act.put, List.setIfInBounds_toArray, List.set_cons_succ, List.set_cons_zero]
            refine q_call 41 _ (.agg (Sha.arr 32 (Sha.vu8 qd))) (by kernel_rfl) (fun w' => by go_simp) (fun w' hw' => (HSD.out w' bd (Pt.row_of (HX.out w' hw').2.1) (by have := hw'.size; omega)).mono fun e w'' ⟨he, hb⟩ => ⟨he, hw'.trans (hb.mono hw'.size)⟩) ?_
            simp only [Act.put, List.setIfInBounds_toArray, List.set_cons_succ, List.set_cons_zero]
            refine q_loadB 63 (.tmp 16) rfl (by kernel_rfl) bq 0 rfl ((Sha.arr 32 (Sha.vu8 q)).toList) _ (fun w' hw' => sum_all (HX.out w' hw').2.2.2) undS rfl (sizeS' q) ?_
            simp only [Act.put, List.setIfInBounds_toArray, List.set_cons_succ, List.set_cons_zero]
            refine q_eqlV 63 _ (.tmp 75) (.tmp 76) rfl (by kernel_rfl) (Sha.arr 32 (Sha.vu8 qd)) (Sha.arr 32 (Sha.vu8 q)) rfl (congrArg Value.agg Array.toArray_toList) false Pt.guardS (fun w' _ => HX2.out w') ?_
            simp only [Act.put, List.setIfInBounds_toArray, List.set_cons_succ, List.set_cons_zero]
            refine q_val (.bool false) rfl (fun w' hw' => by go_simp) ?_
            simp only [Act.put, List.setIfInBounds_toArray, List.set_cons_succ, List.set_cons_zero]
            refine q_move _ rfl rfl ?_
            simp only [Act.put, List.setIfInBounds_toArray, List.set_cons_succ, List.set_cons_zero]
            refine q_loadB 22 (.tmp 15) rfl (by kernel_rfl) be 0 rfl (bl E) _ (fun w' hw' => row_all (HX.out w' hw').2.2.1) undB rfl (size_bl E) ?_
            simp only [Act.put, List.setIfInBounds_toArray, List.set_cons_succ, List.set_cons_zero]
            refine q_loadB 22 (.tmp 3) rfl (by kernel_rfl) w.heap.size 0 rfl (bl V) _ (fun w' hw' => row_all (HX.out w' hw').1) undB rfl (size_bl V) ?_
            simp only [Act.put, List.setIfInBounds_toArray, List.set_cons_succ, List.set_cons_zero]
            refine q_neqV 22 _ (.tmp 80) (.tmp 81) rfl (by kernel_rfl) ((bl E).toArray) ((bl V).toArray) rfl rfl (true) Pt.guardB (fun w' _ => HY1.out w') ?_
            simp only [Act.put, List.setIfInBounds_toArray, List.set_cons_succ, List.set_cons_zero]
            refine q_move _ rfl (by kernel_rfl) ?_
            simp only [Act.put, List.setIfInBounds_toArray, List.set_cons_succ, List.set_cons_zero]
            refine BigFrame.wpQuiet_skip (by kernel_rfl) ?_
            simp only [Act.put, List.setIfInBounds_toArray, List.set_cons_succ, List.set_cons_zero]
            refine BigFrame.wpQuiet_skip (by kernel_rfl) ?_
            simp only [Act.put, List.setIfInBounds_toArray, List.set_cons_succ, List.set_cons_zero]
            refine BigFrame.wpQuiet_skip (by kernel_rfl) ?_
            simp only [Act.put, List.setIfInBounds_toArray, List.set_cons_succ, List.set_cons_zero]
            refine BigFrame.wpQuiet_skip (by kernel_rfl) ?_
            simp only [Act.put, List.setIfInBounds_toArray, List.set_cons_succ, List.set_cons_zero]
            refine q_val (.bool false) (by kernel_rfl) (fun w' hw' => by go_simp) ?_
            simp only [Act.put, List.setIfInBounds_toArray, List.set_cons_succ, List.set_cons_zero]
            refine q_val (.bool false) rfl (fun w' hw' => by go_simp) ?_
            simp only [Act.put, List.setIfInBounds_toArray, List.set_cons_succ, List.set_cons_zero]
            refine wpQuiet_nil ?_
            intro w14 hw14
            go_wp2_with fail
            go_meet
            exact ⟨by rw [HR.out]; simp, Lib.hid hw14⟩
          | false =>
            cases e2 with
            | false =>
              refine q_loadB 22 (.tmp 14) rfl rfl bd 0 rfl (bl D) _ (fun w' hw' => row_all (HX.out w' hw').2.1) undB rfl (size_bl D) ?_
              simp only [Act.put, List.setIfInBounds_toArray, List.set_cons_succ, List.set_cons_zero]
              refine q_loadB 22 (.tmp 3) rfl rfl w.heap.size 0 rfl (bl V) _ (fun w' hw' => row_all (HX.out w' hw').1) undB rfl (size_bl V) ?_
              simp only [Act.put, List.setIfInBounds_toArray, List.set_cons_succ, List.set_cons_zero]
              refine q_neqV 22 _ (.tmp 70) (.tmp 71) rfl rfl ((bl D).toArray) ((bl V).toArray) rfl rfl (false) Pt.guardB (fun w' _ => HX1.out w') ?_
              simp only [Act.put, List.setIfInBounds_toArray, List.set_cons_succ, List.set_cons_zero]
              refine q_move _ rfl rfl ?_
              simp only [Act.put, List.setIfInBounds_toArray, List.set_cons_succ, List.set_cons_zero]
              refine q_val (.slice (some ⟨bd, 0, none⟩) 128 128) (by kernel_rfl) (fun w' hw' => by go_simp) ?_
              simp only [Act.put, List.setIfInBounds_toArray, List.set_cons_succ, List.set_cons_zero]
              refine q_call 41 _ (.agg (Sha.arr 32 (Sha.vu8 qd))) (by kernel_rfl) (fun w' => by go_simp) (fun w' hw' => (HSD.out w' bd (Pt.row_of (HX.out w' hw').2.1) (by have := hw'.size; omega)).mono fun e w'' ⟨he, hb⟩ => ⟨he, hw'.trans (hb.mono hw'.size)⟩) ?_
              simp only [Act.put, List.setIfInBounds_toArray, List.set_cons_succ, List.set_cons_zero]
              refine q_loadB 63 (.tmp 16) rfl (by kernel_rfl) bq 0 rfl ((Sha.arr 32 (Sha.vu8 q)).toList) _ (fun w' hw' => sum_all (HX.out w' hw').2.2.2) undS rfl (sizeS' q) ?_
              simp only [Act.put, List.setIfInBounds_toArray, List.set_cons_succ, List.set_cons_zero]
              refine q_eqlV 63 _ (.tmp 75) (.tmp 76) rfl (by kernel_rfl) (Sha.arr 32 (Sha.vu8 qd)) (Sha.arr 32 (Sha.vu8 q)) rfl (congrArg Value.agg Array.toArray_toList) false Pt.guardS (fun w' _ => HX2.out w') ?_
              simp only [Act.put, List.setIfInBounds_toArray, List.set_cons_succ, List.set_cons_zero]
              refine q_val (.bool false) rfl (fun w' hw' => by go_simp) ?_
              simp only [Act.put, List.setIfInBounds_toArray, List.set_cons_succ, List.set_cons_zero]
              refine q_move _ rfl rfl ?_
              simp only [Act.put, List.setIfInBounds_toArray, List.set_cons_succ, List.set_cons_zero]
              refine q_loadB 22 (.tmp 15) rfl (by kernel_rfl) be 0 rfl (bl E) _ (fun w' hw' => row_all (HX.out w' hw').2.2.1) undB rfl (size_bl E) ?_
              simp only [Act.put, List.setIfInBounds_toArray, List.set_cons_succ, List.set_cons_zero]
              refine q_loadB 22 (.tmp 3) rfl (by kernel_rfl) w.heap.size 0 rfl (bl V) _ (fun w' hw' => row_all (HX.out w' hw').1) undB rfl (size_bl V) ?_
              simp only [Act.put, List.setIfInBounds_toArray, List.set_cons_succ, List.set_cons_zero]
              refine q_neqV 22 _ (.tmp 80) (.tmp 81) rfl (by kernel_rfl) ((bl E).toArray) ((bl V).toArray) rfl rfl (false) Pt.guardB (fun w' _ => HY1.out w') ?_
              simp only [Act.put, List.setIfInBounds_toArray, List.set_cons_succ, List.set_cons_zero]
              refine q_move _ rfl (by kernel_rfl) ?_
              simp only [Act.put, List.setIfInBounds_toArray, List.set_cons_succ, List.set_cons_zero]
              refine q_val (.slice (some ⟨be, 0, none⟩) 128 128) (by kernel_rfl) (fun w' hw' => by go_simp) ?_
              simp only [Act.put, List.setIfInBounds_toArray, List.set_cons_succ, List.set_cons_zero]
              refine q_call 41 _ (.agg (Sha.arr 32 (Sha.vu8 qe))) (by kernel_rfl) (fun w' => by go_simp) (fun w' hw' => (HSE'.out w' be (Pt.row_of (HX.out w' hw').2.2.1) (by have := hw'.size; omega)).mono fun e w'' ⟨he, hb⟩ => ⟨he, hw'.trans (hb.mono hw'.size)⟩) ?_
              simp only [Act.put, List.setIfInBounds_toArray, List.set_cons_succ, List.set_cons_zero]
              refine q_loadB 63 (.tmp 16) rfl (by kernel_rfl) bq 0 rfl ((Sha.arr 32 (Sha.vu8 q)).toList) _ (fun w' hw' => sum_all (HX.out w' hw').2.2.2) undS rfl (sizeS' q) ?_
              simp only [Act.put, List.setIfInBounds_toArray, List.set_cons_succ, List.set_cons_zero]
              refine q_eqlV 63 _ (.tmp 85) (.tmp 86) rfl (by kernel_rfl) (Sha.arr 32 (Sha.vu8 qe)) (Sha.arr 32 (Sha.vu8 q)) rfl (congrArg Value.agg Array.toArray_toList) false Pt.guardS (fun w' _ => HY2.out w') ?_
              simp only [Act.put, List.setIfInBounds_toArray, List.set_cons_succ, List.set_cons_zero]
              refine q_val (.bool false) (by kernel_rfl) (fun w' hw' => by go_simp) ?_
              simp only [Act.put, List.setIfInBounds_toArray, List.set_cons_succ, List.set_cons_zero]
              refine q_val (.bool false) rfl (fun w' hw' => by go_simp) ?_
              simp only [Act.put, List.setIfInBounds_toArray, List.set_cons_succ, List.set_cons_zero]
              refine wpQuiet_nil ?_
              intro w14 hw14
              go_wp2_with fail
              go_meet
              exact ⟨by rw [HR.out]; simp, Lib.hid hw14⟩
            | true =>
              refine q_loadB 22 (.tmp 14) rfl rfl bd 0 rfl (bl D) _ (fun w' hw' => row_all (HX.out w' hw').2.1) undB rfl (size_bl D) ?_
              simp only [Act.put, List.setIfInBounds_toArray, List.set_cons_succ, List.set_cons_zero]
              refine q_loadB 22 (.tmp 3) rfl rfl w.heap.size 0 rfl (bl V) _ (fun w' hw' => row_all (HX.out w' hw').1) undB rfl (size_bl V) ?_
              simp only [Act.put, List.setIfInBounds_toArray, List.set_cons_succ, List.set_cons_zero]
              refine q_neqV 22 _ (.tmp 70) (.tmp 71) rfl rfl ((bl D).toArray) ((bl V).toArray) rfl rfl (false) Pt.guardB (fun w' _ => HX1.out w') ?_
              simp only [Act.put, List.setIfInBounds_toArray, List.set_cons_succ, List.set_cons_zero]
              refine q_move _ rfl rfl ?_
              simp only [Act.put, List.setIfInBounds_toArray, List.set_cons_succ, List.set_cons_zero]
              refine q_val (.slice (some ⟨bd, 0, none⟩) 128 128) (by kernel_rfl) (fun w' hw' => by go_simp) ?_
              simp only [Act.put, List.setIfInBounds_toArray, List.set_cons_succ, List.set_cons_zero]
              refine q_call 41 _ (.agg (Sha.arr 32 (Sha.vu8 qd))) (by kernel_rfl) (fun w' => by go_simp) (fun w' hw' => (HSD.out w' bd (Pt.row_of (HX.out w' hw').2.1) (by have := hw'.size; omega)).mono fun e w'' ⟨he, hb⟩ => ⟨he, hw'.trans (hb.mono hw'.size)⟩) ?_
              simp only [Act.put, List.setIfInBounds_toArray, List.set_cons_succ, List.set_cons_zero]
              refine q_loadB 63 (.tmp 16) rfl (by kernel_rfl) bq 0 rfl ((Sha.arr 32 (Sha.vu8 q)).toList) _ (fun w' hw' => sum_all (HX.out w' hw').2.2.2) undS rfl (sizeS' q) ?_
              simp only [Act.put, List.setIfInBounds_toArray, List.set_cons_succ, List.set_cons_zero]
              refine q_eqlV 63 _ (.tmp 75) (.tmp 76) rfl (by kernel_rfl) (Sha.arr 32 (Sha.vu8 qd)) (Sha.arr 32 (Sha.vu8 q)) rfl (congrArg Value.agg Array.toArray_toList) false Pt.guardS (fun w' _ => HX2.out w') ?_
              simp only [Act.put, List.setIfInBounds_toArray, List.set_cons_succ, List.set_cons_zero]
              refine q_val (.bool false) rfl (fun w' hw' => by go_simp) ?_
              simp only [Act.put, List.setIfInBounds_toArray, List.set_cons_succ, List.set_cons_zero]
              refine q_move _ rfl rfl ?_
              simp only [Act.put, List.setIfInBounds_toArray, List.set_cons_succ, List.set_cons_zero]
              refine q_loadB 22 (.tmp 15) rfl (by kernel_rfl) be 0 rfl (bl E) _ (fun w' hw' => row_all (HX.out w' hw').2.2.1) undB rfl (size_bl E) ?_
              simp only [Act.put, List.setIfInBounds_toArray, List.set_cons_succ, List.set_cons_zero]
              refine q_loadB 22 (.tmp 3) rfl (by kernel_rfl) w.heap.size 0 rfl (bl V) _ (fun w' hw' => row_all (HX.out w' hw').1) undB rfl (size_bl V) ?_
              simp only [Act.put, List.setIfInBounds_toArray, List.set_cons_succ, List.set_cons_zero]
              refine q_neqV 22 _ (.tmp 80) (.tmp 81) rfl (by kernel_rfl) ((bl E).toArray) ((bl V).toArray) rfl rfl (false) Pt.guardB (fun w' _ => HY1.out w') ?_
              simp only [Act.put, List.setIfInBounds_toArray, List.set_cons_succ, List.set_cons_zero]
              refine q_move _ rfl (by kernel_rfl) ?_
              simp only [Act.put, List.setIfInBounds_toArray, List.set_cons_succ, List.set_cons_zero]
              refine q_val (.slice (some ⟨be, 0, none⟩) 128 128) (by kernel_rfl) (fun w' hw' => by go_simp) ?_
              simp only [Act.put, List.setIfInBounds_toArray, List.set_cons_succ, List.set_cons_zero]
              refine q_call 41 _ (.agg (Sha.arr 32 (Sha.vu8 qe))) (by kernel_rfl) (fun w' => by go_simp) (fun w' hw' => (HSE'.out w' be (Pt.row_of (HX.out w' hw').2.2.1) (by have := hw'.size; omega)).mono fun e w'' ⟨he, hb⟩ => ⟨he, hw'.trans (hb.mono hw'.size)⟩) ?_
              simp only [Act.put, List.setIfInBounds_toArray, List.set_cons_succ, List.set_cons_zero]
              refine q_loadB 63 (.tmp 16) rfl (by kernel_rfl) bq 0 rfl ((Sha.arr 32 (Sha.vu8 q)).toList) _ (fun w' hw' => sum_all (HX.out w' hw').2.2.2) undS rfl (sizeS' q) ?_
              simp only [Act.put, List.setIfInBounds_toArray, List.set_cons_succ, List.set_cons_zero]
              refine q_eqlV 63 _ (.tmp 85) (.tmp 86) rfl (by kernel_rfl) (Sha.arr 32 (Sha.vu8 qe)) (Sha.arr 32 (Sha.vu8 q)) rfl (congrArg Value.agg Array.toArray_toList) true Pt.guardS (fun w' _ => HY2.out w') ?_
              simp only [Act.put, List.setIfInBounds_toArray, List.set_cons_succ, List.set_cons_zero]
              refine q_val (.bool true) (by kernel_rfl) (fun w' hw' => by go_simp) ?_
              simp only [Act.put, List.setIfInBounds_toArray, List.set_cons_succ, List.set_cons_zero]
              refine q_val (.bool true) rfl (fun w' hw' => by go_simp) ?_
              simp only [Act.put, List.setIfInBounds_toArray, List.set_cons_succ, List.set_cons_zero]
              refine wpQuiet_nil ?_
              intro w14 hw14
              go_wp2_with fail
              go_meet
              exact ⟨by rw [HR.out]; simp, Lib.hid hw14⟩
    case rest =>
      obtain ⟨rfl, hwc⟩ := hcut
      have hwc := hwc.out
      cases r with
      | true =>
        have hBE := HS13.out.be.trans (hwc.mono HS13.out.be.size)
        clear HR HNU HQV
        go_wp2_with fail
        go_ret
        exact ⟨rfl, hBE⟩
      | false =>
        have h3 : x1 = true ∨ x2 = false := by have := HR.out; cases x1 <;> cases x2 <;> simp at this ⊢
        have h25 : e1 = true ∨ e2 = false := by have := HR.out; cases e1 <;> cases e2 <;> simp at this ⊢
        obtain ⟨V', h', eG, X6, s1, s2, s3, eL, X7, hok⟩ := HNU.out h3 h25
        obtain ⟨cG, cL⟩ := HQV.out _ _ _ _ _ _ _ _ _ _ hok
        have HLK := Lib.hid hok.lost
        have HKP := Lib.hid hok.kept
        have CG := Lib.hid cG
        have CL := Lib.hid cL
        have hS14 := HS13.out.below hwc
        have hx14 := below_at hwc hp13
        have HK14 := Lib.hid (HK13.out.below hwc)
        have hs14 := hwc.size
        obtain ⟨l0, l1⟩ := two_cells HK14.out.l
        have r14 := Pt.row_pt hx14
        clear h3 h25 hok cG cL HR HNU HQV HS13 hp13 HK13 hwc HX HX1 HX2 HY1 HY2 HSD HSE' HSV hxd hxe
        by_cases ey : y = 0
        · have y' : (y != 0) = false := by simpa using ey
          have eb : lBad false y z = false := by unfold lBad; simp [ey]
          rw [eb] at HLK HKP
          obtain ⟨rG, rL, rV⟩ := HKP.out rfl
          clear eb HLK HKP
          clear ey
          go_wp2_with (refine @wpList_loadG _ _ _ _ _ _ _ (by kernel_rfl) 65 (.tmp 11) rfl bp 0 rfl (Pt.pV ⟨3, (-1), q⟩) _ r14 Pt.undP rfl (Pt.sizeP _) ?_; simp only [Act.put, List.setIfInBounds_toArray, List.set_cons_succ, List.set_cons_zero])
          refine (CG.out g (g + 1) wc hS14).mono ?_
          rintro _ w15 ⟨rfl, hT15, hS15⟩
          have hs15 := hT15.size
          obtain ⟨W16, hW16, hb16, hx16, hs16⟩ := new_obj w15 (.cells (bl V').toArray 22)
          have hS16 := hS15.below hb16
          have hp16 := below_at hb16 (two_at hT15 hx14 (by omega) (by omega))
          have HK16 := Lib.hid ((HK14.out.two hT15 hg (by omega)).below hb16)
          have r16 := Pt.row_pt hp16
          clear hT15 hS15 hb16 hS14 hx14 HK14 CG r14 l0 l1
          dsimp only
          subst hW16
          go_wp2_with (first
            | (refine @wpList_store_row _ _ _ _ _ _ _ rfl 22 (.tmp 18) (.tmp 105) rfl w15.heap.size (bl V').toArray rfl rfl 22 _ (heap_alloc_new w15 _) (size_bl' _) rfl (bl_all _) ?_; rw [World.setRow_alloc_new]; simp only [Act.put])
            | (refine @wpList_loadG _ _ _ _ _ _ _ (by kernel_rfl) 65 (.tmp 11) rfl bp 0 rfl (Pt.pV ⟨3, (-1), q⟩) _ r16 Pt.undP rfl (Pt.sizeP _) ?_; simp only [Act.put, List.setIfInBounds_toArray, List.set_cons_succ, List.set_cons_zero]))
          have hv16 : g + 1 < w15.heap.size := by omega
          generalize w15.alloc (.cells (bl V').toArray 22) = W16 at hx16 hs16 hS16 hp16 HK16 ⊢
          generalize w15.heap.size = bv at hx16 hs16 hv16 ⊢
          refine (CL.out g (g + 1) W16 hS16).mono ?_
          rintro _ w17 ⟨rfl, hT17, hS17⟩
          obtain ⟨W18, hW18, hb18, hx18, hs18⟩ := new_obj w17 (.cells #[.int .i64 s1, .int .i64 s2, .int .i64 s3, .slice none 0 0] 88)
          have hS18 := hS17.below hb18
          have hv18 := below_at hb18 (two_at hT17 hx16 (by omega) (by omega))
          have HK18 := Lib.hid ((HK16.out.two hT17 hg (by omega)).below hb18)
          have rv := row_all hv18
          have rV2 := row_all HK18.out.v
          have EQ1 := eq_bl V' V
          rw [rV] at EQ1
          have hBE := hS18.be
          clear hT17 hS17 hb18 hS16 hp16 hx16 HK16 CL r16 hS18 hv18 hx18
          dsimp only
          subst hW18 rG rL
          go_wp2_with (first
            | (refine @wpList_store_row _ _ _ _ _ _ _ rfl 88 (.tmp 21) (.tmp 111) rfl w17.heap.size #[.int .i64 s1, .int .i64 s2, .int .i64 s3, .slice none 0 0] rfl rfl 88 _ (heap_alloc_new w17 _) (by kernel_rfl) rfl (rb_one _ _ _) ?_; rw [World.setRow_alloc_new]; simp only [Act.put])
            | (refine @wpList_loadG _ _ _ _ _ _ _ (by kernel_rfl) 22 (.tmp 18) rfl bv 0 rfl (bl V') _ rv undB rfl (size_bl _) ?_; simp only [Act.put, List.setIfInBounds_toArray, List.set_cons_succ, List.set_cons_zero])
            | (refine @wpList_loadG _ _ _ _ _ _ _ (by kernel_rfl) 22 (.tmp 3) rfl w.heap.size 0 rfl (bl V) _ rV2 undB rfl (size_bl _) ?_; simp only [Act.put, List.setIfInBounds_toArray, List.set_cons_succ, List.set_cons_zero])
            | (refine @wpList_buildG _ _ _ _ _ _ _ (by kernel_rfl) 22 #[] rfl (bl fun _ => 0).toArray (by kernel_rfl) ?_; simp only [Act.put, List.setIfInBounds_toArray, List.set_cons_succ, List.set_cons_zero]))
          go_ret
          exact ⟨rfl, hBE⟩
        · have y' : (y != 0) = true := by simpa using ey
          have eb : lBad false y z = true := by unfold lBad; simp [ey]
          rw [eb] at HLK HKP
          obtain ⟨rG, rL, rV⟩ := HLK.out rfl
          clear eb HLK HKP
          clear ey
          go_wp2_with (refine @wpList_loadG _ _ _ _ _ _ _ (by kernel_rfl) 65 (.tmp 11) rfl bp 0 rfl (Pt.pV ⟨3, (-1), q⟩) _ r14 Pt.undP rfl (Pt.sizeP _) ?_; simp only [Act.put, List.setIfInBounds_toArray, List.set_cons_succ, List.set_cons_zero])
          refine (CG.out g (g + 1) wc hS14).mono ?_
          rintro _ w15 ⟨rfl, hT15, hS15⟩
          have hs15 := hT15.size
          obtain ⟨W16, hW16, hb16, hx16, hs16⟩ := new_obj w15 (.cells (bl V').toArray 22)
          have hS16 := hS15.below hb16
          have hp16 := below_at hb16 (two_at hT15 hx14 (by omega) (by omega))
          have HK16 := Lib.hid ((HK14.out.two hT15 hg (by omega)).below hb16)
          have r16 := Pt.row_pt hp16
          clear hT15 hS15 hb16 hS14 hx14 HK14 CG r14 l0 l1
          dsimp only
          subst hW16
          go_wp2_with (first
            | (refine @wpList_store_row _ _ _ _ _ _ _ rfl 22 (.tmp 18) (.tmp 105) rfl w15.heap.size (bl V').toArray rfl rfl 22 _ (heap_alloc_new w15 _) (size_bl' _) rfl (bl_all _) ?_; rw [World.setRow_alloc_new]; simp only [Act.put])
            | (refine @wpList_loadG _ _ _ _ _ _ _ (by kernel_rfl) 65 (.tmp 11) rfl bp 0 rfl (Pt.pV ⟨3, (-1), q⟩) _ r16 Pt.undP rfl (Pt.sizeP _) ?_; simp only [Act.put, List.setIfInBounds_toArray, List.set_cons_succ, List.set_cons_zero]))
          have hv16 : g + 1 < w15.heap.size := by omega
          generalize w15.alloc (.cells (bl V').toArray 22) = W16 at hx16 hs16 hS16 hp16 HK16 ⊢
          generalize w15.heap.size = bv at hx16 hs16 hv16 ⊢
          refine (CL.out g (g + 1) W16 hS16).mono ?_
          rintro _ w17 ⟨rfl, hT17, hS17⟩
          obtain ⟨W18, hW18, hb18, hx18, hs18⟩ := new_obj w17 (.cells #[.int .i64 s1, .int .i64 s2, .int .i64 s3, .slice none 0 0] 88)
          have hS18 := hS17.below hb18
          have hv18 := below_at hb18 (two_at hT17 hx16 (by omega) (by omega))
          have HK18 := Lib.hid ((HK16.out.two hT17 hg (by omega)).below hb18)
          have rv := row_all hv18
          have rV2 := row_all HK18.out.v
          have EQ1 := eq_bl V' (fun _ => 0)
          rw [rV] at EQ1
          have hBE := hS18.be
          clear hT17 hS17 hb18 hS16 hp16 hx16 HK16 CL r16 hS18 hv18 hx18
          dsimp only
          subst hW18 rG rL
          go_wp2_with (first
            | (refine @wpList_store_row _ _ _ _ _ _ _ rfl 88 (.tmp 21) (.tmp 111) rfl w17.heap.size #[.int .i64 s1, .int .i64 s2, .int .i64 s3, .slice none 0 0] rfl rfl 88 _ (heap_alloc_new w17 _) (by kernel_rfl) rfl (rb_one _ _ _) ?_; rw [World.setRow_alloc_new]; simp only [Act.put])
            | (refine @wpList_loadG _ _ _ _ _ _ _ (by kernel_rfl) 22 (.tmp 18) rfl bv 0 rfl (bl V') _ rv undB rfl (size_bl _) ?_; simp only [Act.put, List.setIfInBounds_toArray, List.set_cons_succ, List.set_cons_zero])
            | (refine @wpList_loadG _ _ _ _ _ _ _ (by kernel_rfl) 22 (.tmp 3) rfl w.heap.size 0 rfl (bl V) _ rV2 undB rfl (size_bl _) ?_; simp only [Act.put, List.setIfInBounds_toArray, List.set_cons_succ, List.set_cons_zero])
            | (refine @wpList_buildG _ _ _ _ _ _ _ (by kernel_rfl) 22 #[] rfl (bl fun _ => 0).toArray (by kernel_rfl) ?_; simp only [Act.put, List.setIfInBounds_toArray, List.set_cons_succ, List.set_cons_zero]))
          go_ret
          exact ⟨rfl, hBE⟩
  | true =>
    subst htw
    have hc : lC true = 25 := rfl
    rw [hc] at HPUT HQV
    clear hc
    go_enter Tryd.func10, Tryd.ntmps10
    go_wp2_with fail
    rw [← hW]
    clear hW
    refine (alive6_any W (HK.out W hB0)).mono ?_
    rintro _ w1 ⟨rfl, hb1⟩
    have hB1 := hB0.trans (hb1.mono hB0.size)
    have HK1 := Lib.hid (HKE.out.below hb1)
    have hs1 := hb1.size
    clear hb1 HKE hB0
    dsimp only
    go_wp2_with fail
    refine (fresh_any w1 (HK.out w1 hB1)).mono ?_
    rintro _ w2 ⟨hb2, sa, sc, ca, cc, rfl, hs, hc⟩
    have hB2 := hB1.trans (hb2.mono hB1.size)
    obtain ⟨a0, a1, W3, hW3, hb3, hS3, hs3⟩ := law_start hB2 HK0.out hs hc
    have HK3 := Lib.hid ((HK1.out.below hb2).below hb3)
    have hg : w.heap.size + 1 < w2.heap.size := by have := hb2.size; omega
    have r3 := row_all HK3.out.v
    clear hs hc hb2 hB1 hB2 HK1
    dsimp only
    subst hW3
    go_wp2_with (first
      | (refine @wpList_store_row _ _ _ _ _ _ _ rfl 35 (.tmp 7) (.tmp 27) rfl w2.heap.size #[.slice sa 60 sc, .slice ca 0 cc, .int .i64 (-1), .bool false] rfl rfl 35 _ a0 (by kernel_rfl) rfl (disk_one _ _ _ _ _ _ _ _) ?_; simp only [Act.put])
      | (refine @wpList_store_row _ _ _ _ _ _ _ rfl 26 (.tmp 8) (.tmp 28) rfl (w2.heap.size + 1) zM rfl rfl 26 _ a1 (by kernel_rfl) rfl rm_one ?_; simp only [Act.put])
      | (refine @wpList_loadG _ _ _ _ _ _ _ (by kernel_rfl) 22 (.tmp 3) rfl w.heap.size 0 rfl (bl V) _ r3 undB rfl (size_bl _) ?_; simp only [Act.put, List.setIfInBounds_toArray, List.set_cons_succ, List.set_cons_zero]))
    generalize ((((w2.alloc (.cells zD 35)).alloc (.cells zM 26)).setRow w2.heap.size #[.slice sa 60 sc, .slice ca 0 cc, .int .i64 (-1), .bool false]).setRow (w2.heap.size + 1) zM) = W3 at hS3 hs3 HK3 ⊢
    clear a0 a1 hb3 r3
    generalize w2.heap.size = g at hS3 hs3 hg ⊢
    refine (HPUT.out g (g + 1) W3 hS3).mono ?_
    rintro _ w4 ⟨rfl, hT4, hS4⟩
    have hs4 := hT4.size
    obtain ⟨W5, hW5, hb5, hx5, hs5⟩ := new_obj w4 (.cells (Pt.pV ⟨3, 25, q⟩).toArray 65)
    have HK5 := Lib.hid ((HK3.out.two hT4 hg (by omega)).below hb5)
    have hS5 := hS4.below hb5
    clear hT4 hS4 hb5 HPUT hS3 HK3
    dsimp only
    go_wp2_with (refine @wpList_store_row _ _ _ _ _ _ _ rfl 65 (.tmp 11) (.tmp 35) rfl w4.heap.size (Pt.pV ⟨3, 25, q⟩).toArray rfl rfl 65 _ (heap_alloc_new w4 _) (Pt.sizeP' _) rfl (Pt.pV_all _) ?_; rw [World.setRow_alloc_new]; simp only [Act.put])
    rw [← hW5]
    clear hW5
    have hpg : g + 1 < w4.heap.size := by omega
    generalize w4.heap.size = bp at hx5 hs5 hpg ⊢
    refine (HFL.out g (g + 1) W5 hS5).mono ?_
    rintro _ w6 ⟨rfl, hT6, hS6⟩
    have hx6 := two_at hT6 hx5 (by omega) (by omega)
    have HK6 := Lib.hid (HK5.out.two hT6 hg (by omega))
    have hs6 := hT6.size
    obtain ⟨l0, l1⟩ := two_cells HK6.out.l
    clear hT6 hx5 hS5 HFL HK5
    dsimp only
    go_wp2_with fail
    refine (HH1.out g (g + 1) w6 hS6).mono ?_
    rintro _ w7 ⟨rfl, hT7, hS7⟩
    have hx7 := two_at hT7 hx6 (by omega) (by omega)
    have HK7 := Lib.hid (HK6.out.two hT7 hg (by omega))
    have hs7 := hT7.size
    obtain ⟨m0, m1⟩ := two_cells HK7.out.l
    clear hT7 hx6 hS6 HH1 HK6 l0 l1
    dsimp only
    go_wp2_with fail
    refine (HH2.out g (g + 1) w7 hS7).mono ?_
    rintro _ w10 ⟨rfl, hT10, hS10⟩
    have hx10 := two_at hT10 hx7 (by omega) (by omega)
    have HK10 := Lib.hid (HK7.out.two hT10 hg (by omega))
    have hs10 := hT10.size
    obtain ⟨sa7, sc7, ca7, cc7, hH7⟩ := hS10.d
    obtain ⟨bs, off, rfl, hbs, hbg, hrow⟩ := hH7.ss.rows.resolve_left (by omega)
    have hDr := sec_data (hrow 3 (by omega))
    have hEr := sec_data (hrow 25 (by omega))
    rw [hD3] at hDr
    rw [hD25] at hEr
    have hbx := hH7.bx
    have hbxl := hbx.lt
    have HSE := Lib.hid (fun w' (hw' : Below w10.heap.size w10 w') => show w'.cell? ⟨g, 0, none⟩ = some (.slice (some ⟨bs, off, none⟩) 60 sc7) ∧ w'.rangeAt bs (off + 390) (bl D) ∧ w'.rangeAt bs (off + 3250) (bl E) from
      ⟨(hw'.cell (p := ⟨g, 0, none⟩) hbxl).trans hbx.c0, fun j v hv => (World.cell?_of_block (hw'.block bs hbs)).trans (hDr j v hv), fun j v hv => (World.cell?_of_block (hw'.block bs hbs)).trans (hEr j v hv)⟩)
    have HGI : Hid (∀ u v, TwB w10 D E false false false false u v { w10 with drawn := w10.drawn + 1 }) := Lib.hid fun _ _ => ⟨⟨rfl, rfl, rfl, Nat.le_refl _, fun _ _ => rfl⟩, (fun h => by cases h), (fun h => by cases h), (fun h => by cases h), (fun h => by cases h), (fun h => by cases h)⟩
    have hbx1 := hbx.c1
    clear hT10 hx7 hS7 HH2 HK7 m0 m1 hH7 hrow hDr hEr hbx hbx1 hD3 hD25
    dsimp only
    go_wp2_with fail
    refine QuietTail2.regionInv (n := 14) (Inv := LoI _ _ _ _ _ _ _ _ _ _ _ _ _ _ _ _ _ _ _ _ _ _ _ _ _ _ _ _ _ _ _ _ _ _ _ _ _ _ _ _ _ _ _ _ _ _ _ _ _ _ _ _ _ _ _ _ _ _ _ _ _ _ _ _ _ _ _ _ _ _ _ _ _ _ _ _ _ _ _ _ _ _ _ _ _ _ _ _ _ _ _ _ _ _ _ _ _ _ _ _ _ _ _ _ _ _ _ _ _ _ _ _ _ _ _ _ _ _ _ _ _ _ _ w10 g bs off sc7 D E) (by kernel_rfl) (by decide) (by kernel_rfl) ⟨_, _, _, _, _, _, _, _, _, _, _, _, rfl, by simp, by simp, by simp, by simp, by simp, by simp, by simp, by simp, by simp, by simp, HGI.out _ _⟩ ?stepT ?finT
    case stepT =>
      rintro i o hi ho L a' w' ⟨u0, u1, u2, u3, u4, u5, u6, u7, u8, u9, u10, u11, rfl, i0, i1, i2, i3, i4, i5, i6, i7, i8, i9, iW⟩ hL hpre
      match i, hi with
      | 0, _ =>
        simp at ho
        subst ho
        go_simp
        exact ⟨_, u1, u2, u3, u4, u5, u6, u7, u8, u9, u10, u11, rfl, fun _ => rfl, LoI_kl i1 rfl, LoI_kl i2 rfl, LoI_kl i3 rfl, LoI_kl i4 rfl, LoI_kl i5 rfl, LoI_kl i6 rfl, LoI_kl i7 rfl, LoI_kl i8 rfl, LoI_kl i9 rfl, iW⟩
      | 1, _ =>
        simp at ho
        subst ho
        obtain rfl := i0 (hpre 0 (by kernel_rfl))
        have k0 := (HSE.out w' iW.be).1
        go_simp
        exact ⟨_, _, u2, u3, u4, u5, u6, u7, u8, u9, u10, u11, rfl, LoI_kl i0 rfl, fun _ => rfl, LoI_kl i2 rfl, LoI_kl i3 rfl, LoI_kl i4 rfl, LoI_kl i5 rfl, LoI_kl i6 rfl, LoI_kl i7 rfl, LoI_kl i8 rfl, LoI_kl i9 rfl, iW⟩
      | 2, _ =>
        simp at ho
        subst ho
        obtain rfl := i1 (hpre 1 (by kernel_rfl))
        go_simp
        exact ⟨u0, _, _, u3, u4, u5, u6, u7, u8, u9, u10, u11, rfl, LoI_kl i0 rfl, LoI_kl i1 rfl, fun _ => rfl, LoI_kl i3 rfl, LoI_kl i4 rfl, LoI_kl i5 rfl, LoI_kl i6 rfl, LoI_kl i7 rfl, LoI_kl i8 rfl, LoI_kl i9 rfl, iW⟩
      | 3, _ =>
        simp at ho
        subst ho
        obtain rfl := i2 (hpre 2 (by kernel_rfl))
        go_simp
        exact ⟨u0, u1, _, _, u4, u5, u6, u7, u8, u9, u10, u11, rfl, LoI_kl i0 rfl, LoI_kl i1 rfl, LoI_kl i2 rfl, fun _ => rfl, LoI_kl i4 rfl, LoI_kl i5 rfl, LoI_kl i6 rfl, LoI_kl i7 rfl, LoI_kl i8 rfl, LoI_kl i9 rfl, iW⟩
      | 4, _ =>
        simp at ho
        subst ho
        obtain rfl := i3 (hpre 3 (by kernel_rfl))
        refine wp_load_mid 22 (.tmp 61) rfl bs (off + 390) rfl (bl D) _ (HSE.out w' iW.be).2.1 undB rfl (size_bl D) ?_
        simp only [Act.put, List.setIfInBounds_toArray, List.set_cons_succ, List.set_cons_zero]
        exact ⟨u0, u1, u2, _, _, u5, u6, u7, u8, u9, u10, u11, rfl, LoI_kl i0 rfl, LoI_kl i1 rfl, LoI_kl i2 rfl, LoI_kl i3 rfl, fun _ => rfl, LoI_kl i5 rfl, LoI_kl i6 rfl, LoI_kl i7 rfl, LoI_kl i8 rfl, LoI_kl i9 rfl, iW⟩
      | 5, _ =>
        simp at ho
        subst ho
        go_simp
        exact ⟨u0, u1, u2, u3, u4, _, u6, u7, u8, u9, u10, u11, rfl, LoI_kl i0 rfl, LoI_kl i1 rfl, LoI_kl i2 rfl, LoI_kl i3 rfl, LoI_kl i4 rfl, fun _ => rfl, LoI_kl i6 rfl, LoI_kl i7 rfl, LoI_kl i8 rfl, LoI_kl i9 rfl, iW⟩
      | 6, _ =>
        simp at ho
        subst ho
        obtain rfl := i5 (hpre 5 (by kernel_rfl))
        have k0 := (HSE.out w' iW.be).1
        go_simp
        exact ⟨u0, u1, u2, u3, u4, _, _, u7, u8, u9, u10, u11, rfl, LoI_kl i0 rfl, LoI_kl i1 rfl, LoI_kl i2 rfl, LoI_kl i3 rfl, LoI_kl i4 rfl, LoI_kl i5 rfl, fun _ => rfl, LoI_kl i7 rfl, LoI_kl i8 rfl, LoI_kl i9 rfl, iW⟩
      | 7, _ =>
        simp at ho
        subst ho
        obtain rfl := i6 (hpre 6 (by kernel_rfl))
        go_simp
        exact ⟨u0, u1, u2, u3, u4, u5, _, _, u8, u9, u10, u11, rfl, LoI_kl i0 rfl, LoI_kl i1 rfl, LoI_kl i2 rfl, LoI_kl i3 rfl, LoI_kl i4 rfl, LoI_kl i5 rfl, LoI_kl i6 rfl, fun _ => rfl, LoI_kl i8 rfl, LoI_kl i9 rfl, iW⟩
      | 8, _ =>
        simp at ho
        subst ho
        obtain rfl := i7 (hpre 7 (by kernel_rfl))
        go_simp
        exact ⟨u0, u1, u2, u3, u4, u5, u6, _, _, u9, u10, u11, rfl, LoI_kl i0 rfl, LoI_kl i1 rfl, LoI_kl i2 rfl, LoI_kl i3 rfl, LoI_kl i4 rfl, LoI_kl i5 rfl, LoI_kl i6 rfl, LoI_kl i7 rfl, fun _ => rfl, LoI_kl i9 rfl, iW⟩
      | 9, _ =>
        simp at ho
        subst ho
        obtain rfl := i8 (hpre 8 (by kernel_rfl))
        refine wp_load_mid 22 (.tmp 66) rfl bs (off + 3250) rfl (bl E) _ (HSE.out w' iW.be).2.2 undB rfl (size_bl E) ?_
        simp only [Act.put, List.setIfInBounds_toArray, List.set_cons_succ, List.set_cons_zero]
        exact ⟨u0, u1, u2, u3, u4, u5, u6, u7, _, _, u10, u11, rfl, LoI_kl i0 rfl, LoI_kl i1 rfl, LoI_kl i2 rfl, LoI_kl i3 rfl, LoI_kl i4 rfl, LoI_kl i5 rfl, LoI_kl i6 rfl, LoI_kl i7 rfl, LoI_kl i8 rfl, fun _ => rfl, iW⟩
      | 10, _ =>
        simp at ho
        subst ho
        go_simp
        exact ⟨u0, u1, u2, u3, u4, u5, u6, u7, u8, u9, _, u11, rfl, LoI_kl i0 rfl, LoI_kl i1 rfl, LoI_kl i2 rfl, LoI_kl i3 rfl, LoI_kl i4 rfl, LoI_kl i5 rfl, LoI_kl i6 rfl, LoI_kl i7 rfl, LoI_kl i8 rfl, LoI_kl i9 rfl, iW.allocA hL⟩
      | 11, _ =>
        simp at ho
        subst ho
        go_simp
        exact ⟨u0, u1, u2, u3, u4, u5, u6, u7, u8, u9, u10, _, rfl, LoI_kl i0 rfl, LoI_kl i1 rfl, LoI_kl i2 rfl, LoI_kl i3 rfl, LoI_kl i4 rfl, LoI_kl i5 rfl, LoI_kl i6 rfl, LoI_kl i7 rfl, LoI_kl i8 rfl, LoI_kl i9 rfl, iW.allocB hL⟩
      | 12, _ =>
        simp at ho
        subst ho
        obtain rfl := i4 (hpre 4 (by kernel_rfl))
        obtain ⟨bk, e10, _, hbk⟩ := iW.a (hpre 10 (by kernel_rfl))
        subst e10
        refine wp_store_row 22 (.tmp 14) (.tmp 62) rfl bk (bl D).toArray rfl rfl 22 _ hbk (size_bl' _) rfl (bl_all _) ?_
        exact ⟨u0, u1, u2, u3, _, u5, u6, u7, u8, u9, _, u11, rfl, LoI_kl i0 rfl, LoI_kl i1 rfl, LoI_kl i2 rfl, LoI_kl i3 rfl, LoI_kl i4 rfl, LoI_kl i5 rfl, LoI_kl i6 rfl, LoI_kl i7 rfl, LoI_kl i8 rfl, LoI_kl i9 rfl, iW.putA (hpre 10 (by kernel_rfl)) hbk⟩
      | 13, _ =>
        simp at ho
        subst ho
        obtain rfl := i9 (hpre 9 (by kernel_rfl))
        obtain ⟨bk, e11, _, hbk⟩ := iW.b (hpre 11 (by kernel_rfl))
        subst e11
        refine wp_store_row 22 (.tmp 15) (.tmp 67) rfl bk (bl E).toArray rfl rfl 22 _ hbk (size_bl' _) rfl (bl_all _) ?_
        exact ⟨u0, u1, u2, u3, u4, u5, u6, u7, u8, _, u10, _, rfl, LoI_kl i0 rfl, LoI_kl i1 rfl, LoI_kl i2 rfl, LoI_kl i3 rfl, LoI_kl i4 rfl, LoI_kl i5 rfl, LoI_kl i6 rfl, LoI_kl i7 rfl, LoI_kl i8 rfl, LoI_kl i9 rfl, iW.putB (hpre 11 (by kernel_rfl)) hbk⟩
      | i + 14, h => omega
    rintro L a' w11 hall ⟨u0, u1, u2, u3, u4, u5, u6, u7, u8, u9, u10, u11, rfl, i0, i1, i2, i3, i4, i5, i6, i7, i8, i9, iW⟩
    obtain rfl := i0 (hall 0 (by omega))
    obtain rfl := i1 (hall 1 (by omega))
    obtain rfl := i2 (hall 2 (by omega))
    obtain rfl := i3 (hall 3 (by omega))
    obtain rfl := i4 (hall 4 (by omega))
    obtain rfl := i5 (hall 5 (by omega))
    obtain rfl := i6 (hall 6 (by omega))
    obtain rfl := i7 (hall 7 (by omega))
    obtain rfl := i8 (hall 8 (by omega))
    obtain rfl := i9 (hall 9 (by omega))
    obtain ⟨bd, be, rfl, rfl, hxd, hxe, hb11⟩ := iW.fin (hall 10 (by omega)) (hall 12 (by omega)) (hall 11 (by omega)) (hall 13 (by omega))
    clear iW
    clear i0 i1 i2 i3 i4 i5 i6 i7 i8 i9 hall
    simp only [List.drop_succ_cons, List.drop_zero]
    refine wpList_nil ?_
    have hS11 := hS10.below hb11
    have hx11 := below_at hb11 hx10
    have HK11 := Lib.hid (HK10.out.below hb11)
    have hs11 := hb11.size
    have hdl := (Array.getElem?_eq_some_iff.1 hxd.2).1
    have hel := (Array.getElem?_eq_some_iff.1 hxe.2).1
    clear HSE HGI hb11 hS10 hx10 HK10
    go_wp2_with fail
    refine (HSV.out w11 w.heap.size (Pt.row_of HK11.out.v) (by omega)).mono ?_
    rintro _ w12 ⟨rfl, hb12⟩
    obtain ⟨W13, hW13, hb13, hx13, hs13⟩ := new_obj w12 (.cells (Sha.arr 32 (Sha.vu8 q)) 63)
    have hS13 := (hS11.below hb12).below hb13
    have hp13 := below_at hb13 (below_at hb12 hx11)
    have HK13 := Lib.hid ((HK11.out.below hb12).below hb13)
    have hxd13 := below_at hb13 (below_at hb12 hxd.2)
    have hxe13 := below_at hb13 (below_at hb12 hxe.2)
    have hs12 := hb12.size
    clear hb12 hb13 hS11 hx11 HK11
    dsimp only
    go_upto_region 15 with (refine wpList_store_row rfl 63 (.tmp 16) (.tmp 69) rfl w12.heap.size (Sha.arr 32 (Sha.vu8 q)) rfl rfl 63 _ (heap_alloc_new _ _) Sha.info32 (by rw [Sha.arr_size]; rfl) (Sha.arr_one8 _ _) ?_; rw [World.setRow_alloc_new]; simp only [Act.put])
    rw [← hW13]
    clear hW13
    have hbq : g + 1 < w12.heap.size := by omega
    generalize w12.heap.size = bq at hx13 hs13 hbq ⊢
    have HX := Lib.hid (fun w' (hw' : Below W13.heap.size W13 w') => And.intro (below_at hw' HK13.out.v) (And.intro (below_at hw' hxd13) (And.intro (below_at hw' hxe13) (below_at hw' hx13))))
    have HS13 := Lib.hid hS13
    have hs130 : 0 < W13.heap.size := by omega
    have HX1 := Lib.hid (fun W => eq_bl D V W)
    have HX2 := Lib.hid (fun W => eq_sum qd q W)
    have HY1 := Lib.hid (fun W => eq_bl E V W)
    have HY2 := Lib.hid (fun W => eq_sum qe q W)
    generalize eqB 128 D V = x1 at HX1 HNU
    generalize eqB 32 qd q = x2 at HX2 HNU
    generalize eqB 128 E V = e1 at HY1 HNU
    generalize eqB 32 qe q = e2 at HY2 HNU
    obtain ⟨r, hr⟩ : ∃ r, r = (((!x1) && x2) || ((!e1) && e2)) := ⟨_, rfl⟩
    have HR := Lib.hid hr
    clear hr hS13 hxd13 hxe13 hx13
    go_cut [89] from 70 (fun v wc => v = .bool r ∧ Hid (Below W13.heap.size W13 wc))
    case first =>
      refine wp_region_quiet (C := fun w' => Below W13.heap.size W13 w') (by kernel_rfl) (by kernel_rfl) ⟨rfl, rfl, rfl, Nat.le_refl _, fun _ _ => rfl⟩ ?_
      cases x1 with
      | true =>
        cases e1 with
        | true =>
          refine q_loadB 22 (.tmp 14) rfl rfl bd 0 rfl (bl D) _ (fun w' hw' => row_all (HX.out w' hw').2.1) undB rfl (size_bl D) ?_
          simp only [Act.put, List.setIfInBounds_toArray, List.set_cons_succ, List.set_cons_zero]
          refine q_loadB 22 (.tmp 3) rfl rfl w.heap.size 0 rfl (bl V) _ (fun w' hw' => row_all (HX.out w' hw').1) undB rfl (size_bl V) ?_
          simp only [Act.put, List.setIfInBounds_toArray, List.set_cons_succ, List.set_cons_zero]
          refine q_neqV 22 _ (.tmp 70) (.tmp 71) rfl rfl ((bl D).toArray) ((bl V).toArray) rfl rfl (true) Pt.guardB (fun w' _ => HX1.out w') ?_
          simp only [Act.put, List.setIfInBounds_toArray, List.set_cons_succ, List.set_cons_zero]
          refine q_move _ rfl rfl ?_
          simp only [Act.put, List.setIfInBounds_toArray, List.set_cons_succ, List.set_cons_zero]
          refine BigFrame.wpQuiet_skip (by kernel_rfl) ?_
          simp only [Act.put, List.setIfInBounds_toArray, List.set_cons_succ, List.set_cons_zero]
          refine BigFrame.wpQuiet_skip (by kernel_rfl) ?_
          simp only [Act.put, List.setIfInBounds_toArray, List.set_cons_succ, List.set_cons_zero]
          refine BigFrame.wpQuiet_skip (by kernel_rfl) ?_
          simp only [Act.put, List.setIfInBounds_toArray, List.set_cons_succ, List.set_cons_zero]
          refine BigFrame.wpQuiet_skip (by kernel_rfl) ?_
          simp only [Act.put, List.setIfInBounds_toArray, List.set_cons_succ, List.set_cons_zero]
          refine q_val (.bool false) rfl (fun w' hw' => by go_simp) ?_
          simp only [Act.put, List.setIfInBounds_toArray, List.set_cons_succ, List.set_cons_zero]
          refine q_move _ rfl rfl ?_
          simp only [Act.put, List.setIfInBounds_toArray, List.set_cons_succ, List.set_cons_zero]
          refine q_loadB 22 (.tmp 15) rfl (by kernel_rfl) be 0 rfl (bl E) _ (fun w' hw' => row_all (HX.out w' hw').2.2.1) undB rfl (size_bl E) ?_
          simp only [Act.put, List.setIfInBounds_toArray, List.set_cons_succ, List.set_cons_zero]
          refine q_loadB 22 (.tmp 3) rfl (by kernel_rfl) w.heap.size 0 rfl (bl V) _ (fun w' hw' => row_all (HX.out w' hw').1) undB rfl (size_bl V) ?_
          simp only [Act.put, List.setIfInBounds_toArray, List.set_cons_succ, List.set_cons_zero]
          refine q_neqV 22 _ (.tmp 80) (.tmp 81) rfl (by kernel_rfl) ((bl E).toArray) ((bl V).toArray) rfl rfl (true) Pt.guardB (fun w' _ => HY1.out w') ?_
          simp only [Act.put, List.setIfInBounds_toArray, List.set_cons_succ, List.set_cons_zero]
          refine q_move _ rfl (by kernel_rfl) ?_
          simp only [Act.put, List.setIfInBounds_toArray, List.set_cons_succ, List.set_cons_zero]
          refine BigFrame.wpQuiet_skip (by kernel_rfl) ?_
          simp only [Act.put, List.setIfInBounds_toArray, List.set_cons_succ, List.set_cons_zero]
          refine BigFrame.wpQuiet_skip (by kernel_rfl) ?_
          simp only [Act.put, List.setIfInBounds_toArray, List.set_cons_succ, List.set_cons_zero]
          refine BigFrame.wpQuiet_skip (by kernel_rfl) ?_
          simp only [Act.put, List.setIfInBounds_toArray, List.set_cons_succ, List.set_cons_zero]
          refine BigFrame.wpQuiet_skip (by kernel_rfl) ?_
          simp only [Act.put, List.setIfInBounds_toArray, List.set_cons_succ, List.set_cons_zero]
          refine q_val (.bool false) (by kernel_rfl) (fun w' hw' => by go_simp) ?_
          simp only [Act.put, List.setIfInBounds_toArray, List.set_cons_succ, List.set_cons_zero]
          refine q_val (.bool false) rfl (fun w' hw' => by go_simp) ?_
          simp only [Act.put, List.setIfInBounds_toArray, List.set_cons_succ, List.set_cons_zero]
          refine wpQuiet_nil ?_
          intro w14 hw14
          go_wp2_with fail
          go_meet
          exact ⟨by rw [HR.out]; simp, Lib.hid hw14⟩
        | false =>
          cases e2 with
          | false =>
            refine q_loadB 22 (.tmp 14) rfl rfl bd 0 rfl (bl D) _ (fun w' hw' => row_all (HX.out w' hw').2.1) undB rfl (size_bl D) ?_
            simp only [Act.put, List.setIfInBounds_toArray, List.set_cons_succ, List.set_cons_zero]
            refine q_loadB 22 (.tmp 3) rfl rfl w.heap.size 0 rfl (bl V) _ (fun w' hw' => row_all (HX.out w' hw').1) undB rfl (size_bl V) ?_
            simp only [Act.put, List.setIfInBounds_toArray, List.set_cons_succ, List.set_cons_zero]
            refine q_neqV 22 _ (.tmp 70) (.tmp 71) rfl rfl ((bl D).toArray) ((bl V).toArray) rfl rfl (true) Pt.guardB (fun w' _ => HX1.out w') ?_
            simp only [Act.put, List.setIfInBounds_toArray, List.set_cons_succ, List.set_cons_zero]
            refine q_move _ rfl rfl ?_
            simp only [Act.put, List.setIfInBounds_toArray, List.set_cons_succ, List.set_cons_zero]
            refine BigFrame.wpQuiet_skip (by kernel_rfl) ?_
            simp only [Act.put, List.setIfInBounds_toArray, List.set_cons_succ, List.set_cons_zero]
            refine BigFrame.wpQuiet_skip (by kernel_rfl) ?_
            simp only [Act.put, List.setIfInBounds_toArray, List.set_cons_succ, List.set_cons_zero]
            refine BigFrame.wpQuiet_skip (by kernel_rfl) ?_
            simp only [Act.put, List.setIfInBounds_toArray, List.set_cons_succ, List.set_cons_zero]
            refine BigFrame.wpQuiet_skip (by kernel_rfl) ?_
            simp only [Act.put, List.setIfInBounds_toArray, List.set_cons_succ, List.set_cons_zero]
            refine q_val (.bool false) rfl (fun w' hw' => by go_simp) ?_
            simp only [Act.put, List.setIfInBounds_toArray, List.set_cons_succ, List.set_cons_zero]
            refine q_move _ rfl rfl ?_
            simp only [Act.put, List.setIfInBounds_toArray, List.set_cons_succ, List.set_cons_zero]
            refine q_loadB 22 (.tmp 15) rfl (by kernel_rfl) be 0 rfl (bl E) _ (fun w' hw' => row_all (HX.out w' hw').2.2.1) undB rfl (size_bl E) ?_
            simp only [Act.put, List.setIfInBounds_toArray, List.set_cons_succ, List.set_cons_zero]
            refine q_loadB 22 (.tmp 3) rfl (by kernel_rfl) w.heap.size 0 rfl (bl V) _ (fun w' hw' => row_all (HX.out w' hw').1) undB rfl (size_bl V) ?_
            simp only [Act.put, List.setIfInBounds_toArray, List.set_cons_succ, List.set_cons_zero]
            refine q_neqV 22 _ (.tmp 80) (.tmp 81) rfl (by kernel_rfl) ((bl E).toArray) ((bl V).toArray) rfl rfl (false) Pt.guardB (fun w' _ => HY1.out w') ?_
            simp only [Act.put, List.setIfInBounds_toArray, List.set_cons_succ, List.set_cons_zero]
            refine q_move _ rfl (by kernel_rfl) ?_
            simp only [Act.put, List.setIfInBounds_toArray, List.set_cons_succ, List.set_cons_zero]
            refine q_val (.slice (some ⟨be, 0, none⟩) 128 128) (by kernel_rfl) (fun w' hw' => by go_simp) ?_
            simp only [Act.put, List.setIfInBounds_toArray, List.set_cons_succ, List.set_cons_zero]
            refine q_call 41 _ (.agg (Sha.arr 32 (Sha.vu8 qe))) (by kernel_rfl) (fun w' => by go_simp) (fun w' hw' => (HSE'.out w' be (Pt.row_of (HX.out w' hw').2.2.1) (by have := hw'.size; omega)).mono fun e w'' ⟨he, hb⟩ => ⟨he, hw'.trans (hb.mono hw'.size)⟩) ?_
            simp only [Act.put, List.setIfInBounds_toArray, List.set_cons_succ, List.set_cons_zero]
            refine q_loadB 63 (.tmp 16) rfl (by kernel_rfl) bq 0 rfl ((Sha.arr 32 (Sha.vu8 q)).toList) _ (fun w' hw' => sum_all (HX.out w' hw').2.2.2) undS rfl (sizeS' q) ?_
            simp only [Act.put, List.setIfInBounds_toArray, List.set_cons_succ, List.set_cons_zero]
            refine q_eqlV 63 _ (.tmp 85) (.tmp 86) rfl (by kernel_rfl) (Sha.arr 32 (Sha.vu8 qe)) (Sha.arr 32 (Sha.vu8 q)) rfl (congrArg Value.agg Array.toArray_toList) false Pt.guardS (fun w' _ => HY2.out w') ?_
            simp only [Act.put, List.setIfInBounds_toArray, List.set_cons_succ, List.set_cons_zero]
            refine q_val (.bool false) (by kernel_rfl) (fun w' hw' => by go_simp) ?_
            simp only [Act.put, List.setIfInBounds_toArray, List.set_cons_succ, List.set_cons_zero]
            refine q_val (.bool false) rfl (fun w' hw' => by go_simp) ?_
            simp only [Act.put, List.setIfInBounds_toArray, List.set_cons_succ, List.set_cons_zero]
            refine wpQuiet_nil ?_
            intro w14 hw14
            go_wp2_with fail
            go_meet
            exact ⟨by rw [HR.out]; simp, Lib.hid hw14⟩
          | true =>
            refine q_loadB 22 (.tmp 14) rfl rfl bd 0 rfl (bl D) _ (fun w' hw' => row_all (HX.out w' hw').2.1) undB rfl (size_bl D) ?_
            simp only [Act.put, List.setIfInBounds_toArray, List.set_cons_succ, List.set_cons_zero]
            refine q_loadB 22 (.tmp 3) rfl rfl w.heap.size 0 rfl (bl V) _ (fun w' hw' => row_all (HX.out w' hw').1) undB rfl (size_bl V) ?_
            simp only [Act.put, List.setIfInBounds_toArray, List.set_cons_succ, List.set_cons_zero]
            refine q_neqV 22 _ (.tmp 70) (.tmp 71) rfl rfl ((bl D).toArray) ((bl V).toArray) rfl rfl (true) Pt.guardB (fun w' _ => HX1.out w') ?_
            simp only [Act.put, List.setIfInBounds_toArray, List.set_cons_succ, List.set_cons_zero]
            refine q_move _ rfl rfl ?_
            simp only [Act.put, List.setIfInBounds_toArray, List.set_cons_succ, List.set_cons_zero]
            refine BigFrame.wpQuiet_skip (by kernel_rfl) ?_
            simp only [Act.put, List.setIfInBounds_toArray, List.set_cons_succ, List.set_cons_zero]
            refine BigFrame.wpQuiet_skip (by kernel_rfl) ?_
            simp only [Act.put, List.setIfInBounds_toArray, List.set_cons_succ, List.set_cons_zero]
            refine BigFrame.wpQuiet_skip (by kernel_rfl) ?_
            simp only [Act.put, List.setIfInBounds_toArray, List.set_cons_succ, List.set_cons_zero]
            refine BigFrame.wpQuiet_skip (by kernel_rfl) ?_
            simp only [Act.put, List.setIfInBounds_toArray, List.set_cons_succ, List.set_cons_zero]
            refine q_val (.bool false) rfl (fun w' hw' => by go_simp) ?_
            simp only [Act.put, List.setIfInBounds_toArray, List.set_cons_succ, List.set_cons_zero]
            refine q_move _ rfl rfl ?_
            simp only [Act.put, List.setIfInBounds_toArray, List.set_cons_succ, List.set_cons_zero]
            refine q_loadB 22 (.tmp 15) rfl (by kernel_rfl) be 0 rfl (bl E) _ (fun w' hw' => row_all (HX.out w' hw').2.2.1) undB rfl (size_bl E) ?_
            simp only [Act.put, List.setIfInBounds_toArray, List.set_cons_succ, List.set_cons_zero]
            refine q_loadB 22 (.tmp 3) rfl (by kernel_rfl) w.heap.size 0 rfl (bl V) _ (fun w' hw' => row_all (HX.out w' hw').1) undB rfl (size_bl V) ?_
            simp only [Act.put, List.setIfInBounds_toArray, List.set_cons_succ, List.set_cons_zero]
            refine q_neqV 22 _ (.tmp 80) (.tmp 81) rfl (by kernel_rfl) ((bl E).toArray) ((bl V).toArray) rfl rfl (false) Pt.guardB (fun w' _ => HY1.out w') ?_
            simp only [Act.put, List.setIfInBounds_toArray, List.set_cons_succ, List.set_cons_zero]
            refine q_move _ rfl (by kernel_rfl) ?_
            simp only [Act.put, List.setIfInBounds_toArray, List.set_cons_succ, List.set_cons_zero]
            refine q_val (.slice (some ⟨be, 0, none⟩) 128 128) (by kernel_rfl) (fun w' hw' => by go_simp) ?_
            simp only [Act.put, List.setIfInBounds_toArray, List.set_cons_succ, List.set_cons_zero]
            refine q_call 41 _ (.agg (Sha.arr 32 (Sha.vu8 qe))) (by kernel_rfl) (fun w' => by go_simp) (fun w' hw' => (HSE'.out w' be (Pt.row_of (HX.out w' hw').2.2.1) (by have := hw'.size; omega)).mono fun e w'' ⟨he, hb⟩ => ⟨he, hw'.trans (hb.mono hw'.size)⟩) ?_
            simp only [Act.put, List.setIfInBounds_toArray, List.set_cons_succ, List.set_cons_zero]
            refine q_loadB 63 (.tmp 16) rfl (by kernel_rfl) bq 0 rfl ((Sha.arr 32 (Sha.vu8 q)).toList) _ (fun w' hw' => sum_all (HX.out w' hw').2.2.2) undS rfl (sizeS' q) ?_
            simp only [Act.put, List.setIfInBounds_toArray, List.set_cons_succ, List.set_cons_zero]
            refine q_eqlV 63 _ (.tmp 85) (.tmp 86) rfl (by kernel_rfl) (Sha.arr 32 (Sha.vu8 qe)) (Sha.arr 32 (Sha.vu8 q)) rfl (congrArg Value.agg Array.toArray_toList) true Pt.guardS (fun w' _ => HY2.out w') ?_
            simp only [Act.put, List.setIfInBounds_toArray, List.set_cons_succ, List.set_cons_zero]
            refine q_val (.bool true) (by kernel_rfl) (fun w' hw' => by go_simp) ?_
            simp only [Act.put, List.setIfInBounds_toArray, List.set_cons_succ, List.set_cons_zero]
            refine q_val (.bool true) rfl (fun w' hw' => by go_simp) ?_
            simp only [Act.put, List.setIfInBounds_toArray, List.set_cons_succ, List.set_cons_zero]
            refine wpQuiet_nil ?_
            intro w14 hw14
            go_wp2_with fail
            go_meet
            exact ⟨by rw [HR.out]; simp, Lib.hid hw14⟩
      | false =>
        cases x2 with
        | true =>
          refine q_loadB 22 (.tmp 14) rfl rfl bd 0 rfl (bl D) _ (fun w' hw' => row_all (HX.out w' hw').2.1) undB rfl (size_bl D) ?_
          simp only [Act.put, List.setIfInBounds_toArray, List.set_cons_succ, List.set_cons_zero]
          refine q_loadB 22 (.tmp 3) rfl rfl w.heap.size 0 rfl (bl V) _ (fun w' hw' => row_all (HX.out w' hw').1) undB rfl (size_bl V) ?_
          simp only [Act.put, List.setIfInBounds_toArray, List.set_cons_succ, List.set_cons_zero]
          refine q_neqV 22 _ (.tmp 70) (.tmp 71) rfl rfl ((bl D).toArray) ((bl V).toArray) rfl rfl (false) Pt.guardB (fun w' _ => HX1.out w') ?_
          simp only [Act.put, List.setIfInBounds_toArray, List.set_cons_succ, List.set_cons_zero]
          refine q_move _ rfl rfl ?_
          simp only [Act.put, List.setIfInBounds_toArray, List.set_cons_succ, List.set_cons_zero]
          refine q_val (.slice (some ⟨bd, 0, none⟩) 128 128) (by kernel_rfl) (fun w' hw' => by go_simp) ?_
          simp only [Act.put, List.setIfInBounds_toArray, List.set_cons_succ, List.set_cons_zero]
          refine q_call 41 _ (.agg (Sha.arr 32 (Sha.vu8 qd))) (by kernel_rfl) (fun w' => by go_simp) (fun w' hw' => (HSD.out w' bd (Pt.row_of (HX.out w' hw').2.1) (by have := hw'.size; omega)).mono fun e w'' ⟨he, hb⟩ => ⟨he, hw'.trans (hb.mono hw'.size)⟩) ?_
          simp only [Act.put, List.setIfInBounds_toArray, List.set_cons_succ, List.set_cons_zero]
          refine q_loadB 63 (.tmp 16) rfl (by kernel_rfl) bq 0 rfl ((Sha.arr 32 (Sha.vu8 q)).toList) _ (fun w' hw' => sum_all (HX.out w' hw').2.2.2) undS rfl (sizeS' q) ?_
          simp only [Act.put, List.setIfInBounds_toArray, List.set_cons_succ, List.set_cons_zero]
          refine q_eqlV 63 _ (.tmp 75) (.tmp 76) rfl (by kernel_rfl) (Sha.arr 32 (Sha.vu8 qd)) (Sha.arr 32 (Sha.vu8 q)) rfl (congrArg Value.agg Array.toArray_toList) true Pt.guardS (fun w' _ => HX2.out w') ?_
          simp only [Act.put, List.setIfInBounds_toArray, List.set_cons_succ, List.set_cons_zero]
          refine q_val (.bool true) rfl (fun w' hw' => by go_simp) ?_
          simp only [Act.put, List.setIfInBounds_toArray, List.set_cons_succ, List.set_cons_zero]
          refine q_move _ rfl rfl ?_
          simp only [Act.put, List.setIfInBounds_toArray, List.set_cons_succ, List.set_cons_zero]
          refine BigFrame.wpQuiet_skip (by kernel_rfl) ?_
          simp only [Act.put, List.setIfInBounds_toArray, List.set_cons_succ, List.set_cons_zero]
          refine BigFrame.wpQuiet_skip (by kernel_rfl) ?_
          simp only [Act.put, List.setIfInBounds_toArray, List.set_cons_succ, List.set_cons_zero]
          refine BigFrame.wpQuiet_skip (by kernel_rfl) ?_
          simp only [Act.put, List.setIfInBounds_toArray, List.set_cons_succ, List.set_cons_zero]
          refine BigFrame.wpQuiet_skip (by kernel_rfl) ?_
          simp only [Act.put, List.setIfInBounds_toArray, List.set_cons_succ, List.set_cons_zero]
          refine BigFrame.wpQuiet_skip (by kernel_rfl) ?_
          simp only [Act.put, List.setIfInBounds_toArray, List.set_cons_succ, List.set_cons_zero]
          refine BigFrame.wpQuiet_skip (by kernel_rfl) ?_
          simp only [Act.put, List.setIfInBounds_toArray, List.set_cons_succ, List.set_cons_zero]
          refine BigFrame.wpQuiet_skip (by kernel_rfl) ?_
          simp only [Act.put, List.setIfInBounds_toArray, List.set_cons_succ, List.set_cons_zero]
          refine BigFrame.wpQuiet_skip (by kernel_rfl) ?_
          simp only [Act.put, List.setIfInBounds_toArray, List.set_cons_succ, List.set_cons_zero]
          refine BigFrame.wpQuiet_skip (by kernel_rfl) ?_
          simp only [Act.put, List.setIfInBounds_toArray, List.set_cons_succ, List.set_cons_zero]
          refine q_val (.bool true) rfl (fun w' hw' => by go_simp) ?_
          simp only [Act.put, List.setIfInBounds_toArray, List.set_cons_succ, List.set_cons_zero]
          refine wpQuiet_nil ?_
          intro w14 hw14
          go_wp2_with fail
          go_meet
          exact ⟨by rw [HR.out]; simp, Lib.hid hw14⟩
        | false =>
          cases e1 with
          | true =>
            refine q_loadB 22 (.tmp 14) rfl rfl bd 0 rfl (bl D) _ (fun w' hw' => row_all (HX.out w' hw').2.1) undB rfl (size_bl D) ?_
            simp only [Act.put, List.setIfInBounds_toArray, List.set_cons_succ, List.set_cons_zero]
            refine q_loadB 22 (.tmp 3) rfl rfl w.heap.size 0 rfl (bl V) _ (fun w' hw' => row_all (HX.out w' hw').1) undB rfl (size_bl V) ?_
            simp only [Act.put, List.setIfInBounds_toArray, List.set_cons_succ, List.set_cons_zero]
            refine q_neqV 22 _ (.tmp 70) (.tmp 71) rfl rfl ((bl D).toArray) ((bl V).toArray) rfl rfl (false) Pt.guardB (fun w' _ => HX1.out w') ?_
            simp only [Act.put, List.setIfInBounds_toArray, List.set_cons_succ, List.set_cons_zero]
            refine q_move _ rfl rfl ?_
            simp only [Act.put, List.setIfInBounds_toArray, List.set_cons_succ, List.set_cons_zero]
            refine q_val (.slice (some ⟨bd, 0, none⟩) 128 128) (by kernel_rfl) (fun w' hw' => by go_simp) ?_
            simp only [Act.put, List.setIfInBounds_toArray, List.set_cons_succ, List.set_cons_zero]
            refine q_call 41 _ (.agg (Sha.arr 32 (Sha.vu8 qd))) (by kernel_rfl) (fun w' => by go_simp) (fun w' hw' => (HSD.out w' bd (Pt.row_of (HX.out w' hw').2.1) (by have := hw'.size; omega)).mono fun e w'' ⟨he, hb⟩ => ⟨he, hw'.trans (hb.mono hw'.size)⟩) ?_
            simp only [Act.put, List.setIfInBounds_toArray, List.set_cons_succ, List.set_cons_zero]
            refine q_loadB 63 (.tmp 16) rfl (by kernel_rfl) bq 0 rfl ((Sha.arr 32 (Sha.vu8 q)).toList) _ (fun w' hw' => sum_all (HX.out w' hw').2.2.2) undS rfl (sizeS' q) ?_
            simp only [Act.put, List.setIfInBounds_toArray, List.set_cons_succ, List.set_cons_zero]
            refine q_eqlV 63 _ (.tmp 75) (.tmp 76) rfl (by kernel_rfl) (Sha.arr 32 (Sha.vu8 qd)) (Sha.arr 32 (Sha.vu8 q)) rfl (congrArg Value.agg Array.toArray_toList) false Pt.guardS (fun w' _ => HX2.out w') ?_
            simp only [Act.put, List.setIfInBounds_toArray, List.set_cons_succ, List.set_cons_zero]
            refine q_val (.bool false) rfl (fun w' hw' => by go_simp) ?_
            simp only [Act.put, List.setIfInBounds_toArray, List.set_cons_succ, List.set_cons_zero]
            refine q_move _ rfl rfl ?_
            simp only [Act.put, List.setIfInBounds_toArray, List.set_cons_succ, List.set_cons_zero]
            refine q_loadB 22 (.tmp 15) rfl (by kernel_rfl) be 0 rfl (bl E) _ (fun w' hw' => row_all (HX.out w' hw').2.2.1) undB rfl (size_bl E) ?_
            simp only [Act.put, List.setIfInBounds_toArray, List.set_cons_succ, List.set_cons_zero]
            refine q_loadB 22 (.tmp 3) rfl (by kernel_rfl) w.heap.size 0 rfl (bl V) _ (fun w' hw' => row_all (HX.out w' hw').1) undB rfl (size_bl V) ?_
            simp only [Act.put, List.setIfInBounds_toArray, List.set_cons_succ, List.set_cons_zero]
            refine q_neqV 22 _ (.tmp 80) (.tmp 81) rfl (by kernel_rfl) ((bl E).toArray) ((bl V).toArray) rfl rfl (true) Pt.guardB (fun w' _ => HY1.out w') ?_
            simp only [Act.put, List.setIfInBounds_toArray, List.set_cons_succ, List.set_cons_zero]
            refine q_move _ rfl (by kernel_rfl) ?_
            simp only [Act.put, List.setIfInBounds_toArray, List.set_cons_succ, List.set_cons_zero]
            refine BigFrame.wpQuiet_skip (by kernel_rfl) ?_
            simp only [Act.put, List.setIfInBounds_toArray, List.set_cons_succ, List.set_cons_zero]
            refine BigFrame.wpQuiet_skip (by kernel_rfl) ?_
            simp only [Act.put, List.setIfInBounds_toArray, List.set_cons_succ, List.set_cons_zero]
            refine BigFrame.wpQuiet_skip (by kernel_rfl) ?_
            simp only [Act.put, List.setIfInBounds_toArray, List.set_cons_succ, List.set_cons_zero]
            refine BigFrame.wpQuiet_skip (by kernel_rfl) ?_
            simp only [Act.put, List.setIfInBounds_toArray, List.set_cons_succ, List.set_cons_zero]
            refine q_val (.bool false) (by kernel_rfl) (fun w' hw' => by go_simp) ?_
            simp only [Act.put, List.setIfInBounds_toArray, List.set_cons_succ, List.set_cons_zero]
            refine q_val (.bool false) rfl (fun w' hw' => by go_simp) ?_
            simp only [Act.put, List.setIfInBounds_toArray, List.set_cons_succ, List.set_cons_zero]
            refine wpQuiet_nil ?_
            intro w14 hw14
            go_wp2_with fail
            go_meet
            exact ⟨by rw [HR.out]; simp, Lib.hid hw14⟩
          | false =>
            cases e2 with
            | false =>
              refine q_loadB 22 (.tmp 14) rfl rfl bd 0 rfl (bl D) _ (fun w' hw' => row_all (HX.out w' hw').2.1) undB rfl (size_bl D) ?_
              simp only [Act.put, List.setIfInBounds_toArray, List.set_cons_succ, List.set_cons_zero]
              refine q_loadB 22 (.tmp 3) rfl rfl w.heap.size 0 rfl (bl V) _ (fun w' hw' => row_all (HX.out w' hw').1) undB rfl (size_bl V) ?_
              simp only [Act.put, List.setIfInBounds_toArray, List.set_cons_succ, List.set_cons_zero]
              refine q_neqV 22 _ (.tmp 70) (.tmp 71) rfl rfl ((bl D).toArray) ((bl V).toArray) rfl rfl (false) Pt.guardB (fun w' _ => HX1.out w') ?_
              simp only [Act.put, List.setIfInBounds_toArray, List.set_cons_succ, List.set_cons_zero]
              refine q_move _ rfl rfl ?_
              simp only [Act.put, List.setIfInBounds_toArray, List.set_cons_succ, List.set_cons_zero]
              refine q_val (.slice (some ⟨bd, 0, none⟩) 128 128) (by kernel_rfl) (fun w' hw' => by go_simp) ?_
              simp only [Act.put, List.setIfInBounds_toArray, List.set_cons_succ, List.set_cons_zero]
              refine q_call 41 _ (.agg (Sha.arr 32 (Sha.vu8 qd))) (by kernel_rfl) (fun w' => by go_simp) (fun w' hw' => (HSD.out w' bd (Pt.row_of (HX.out w' hw').2.1) (by have := hw'.size; omega)).mono fun e w'' ⟨he, hb⟩ => ⟨he, hw'.trans (hb.mono hw'.size)⟩) ?_
              simp only [Act.put, List.setIfInBounds_toArray, List.set_cons_succ, List.set_cons_zero]
              refine q_loadB 63 (.tmp 16) rfl (by kernel_rfl) bq 0 rfl ((Sha.arr 32 (Sha.vu8 q)).toList) _ (fun w' hw' => sum_all (HX.out w' hw').2.2.2) undS rfl (sizeS' q) ?_
              simp only [Act.put, List.setIfInBounds_toArray, List.set_cons_succ, List.set_cons_zero]
              refine q_eqlV 63 _ (.tmp 75) (.tmp 76) rfl (by kernel_rfl) (Sha.arr 32 (Sha.vu8 qd)) (Sha.arr 32 (Sha.vu8 q)) rfl (congrArg Value.agg Array.toArray_toList) false Pt.guardS (fun w' _ => HX2.out w') ?_
              simp only [Act.put, List.setIfInBounds_toArray, List.set_cons_succ, List.set_cons_zero]
              refine q_val (.bool false) rfl (fun w' hw' => by go_simp) ?_
              simp only [Act.put, List.setIfInBounds_toArray, List.set_cons_succ, List.set_cons_zero]
              refine q_move _ rfl rfl ?_
              simp only [Act.put, List.setIfInBounds_toArray, List.set_cons_succ, List.set_cons_zero]
              refine q_loadB 22 (.tmp 15) rfl (by kernel_rfl) be 0 rfl (bl E) _ (fun w' hw' => row_all (HX.out w' hw').2.2.1) undB rfl (size_bl E) ?_
              simp only [Act.put, List.setIfInBounds_toArray, List.set_cons_succ, List.set_cons_zero]
              refine q_loadB 22 (.tmp 3) rfl (by kernel_rfl) w.heap.size 0 rfl (bl V) _ (fun w' hw' => row_all (HX.out w' hw').1) undB rfl (size_bl V) ?_
              simp only [Act.put, List.setIfInBounds_toArray, List.set_cons_succ, List.set_cons_zero]
              refine q_neqV 22 _ (.tmp 80) (.tmp 81) rfl (by kernel_rfl) ((bl E).toArray) ((bl V).toArray) rfl rfl (false) Pt.guardB (fun w' _ => HY1.out w') ?_
              simp only [Act.put, List.setIfInBounds_toArray, List.set_cons_succ, List.set_cons_zero]
              refine q_move _ rfl (by kernel_rfl) ?_
              simp only [Act.put, List.setIfInBounds_toArray, List.set_cons_succ, List.set_cons_zero]
              refine q_val (.slice (some ⟨be, 0, none⟩) 128 128) (by kernel_rfl) (fun w' hw' => by go_simp) ?_
              simp only [Act.put, List.setIfInBounds_toArray, List.set_cons_succ, List.set_cons_zero]
              refine q_call 41 _ (.agg (Sha.arr 32 (Sha.vu8 qe))) (by kernel_rfl) (fun w' => by go_simp) (fun w' hw' => (HSE'.out w' be (Pt.row_of (HX.out w' hw').2.2.1) (by have := hw'.size; omega)).mono fun e w'' ⟨he, hb⟩ => ⟨he, hw'.trans (hb.mono hw'.size)⟩) ?_
              simp only [Act.put, List.setIfInBounds_toArray, List.set_cons_succ, List.set_cons_zero]
              refine q_loadB 63 (.tmp 16) rfl (by kernel_rfl) bq 0 rfl ((Sha.arr 32 (Sha.vu8 q)).toList) _ (fun w' hw' => sum_all (HX.out w' hw').2.2.2) undS rfl (sizeS' q) ?_
              simp only [Act.put, List.setIfInBounds_toArray, List.set_cons_succ, List.set_cons_zero]
              refine q_eqlV 63 _ (.tmp 85) (.tmp 86) rfl (by kernel_rfl) (Sha.arr 32 (Sha.vu8 qe)) (Sha.arr 32 (Sha.vu8 q)) rfl (congrArg Value.agg Array.toArray_toList) false Pt.guardS (fun w' _ => HY2.out w') ?_
              simp only [Act.put, List.setIfInBounds_toArray, List.set_cons_succ, List.set_cons_zero]
              refine q_val (.bool false) (by kernel_rfl) (fun w' hw' => by go_simp) ?_
              simp only [Act.put, List.setIfInBounds_toArray, List.set_cons_succ, List.set_cons_zero]
              refine q_val (.bool false) rfl (fun w' hw' => by go_simp) ?_
              simp only [Act.put, List.setIfInBounds_toArray, List.set_cons_succ, List.set_cons_zero]
              refine wpQuiet_nil ?_
              intro w14 hw14
              go_wp2_with fail
              go_meet
              exact ⟨by rw [HR.out]; simp, Lib.hid hw14⟩
            | true =>
              refine q_loadB 22 (.tmp 14) rfl rfl bd 0 rfl (bl D) _ (fun w' hw' => row_all (HX.out w' hw').2.1) undB rfl (size_bl D) ?_
              simp only [Act.put, List.setIfInBounds_toArray, List.set_cons_succ, List.set_cons_zero]
              refine q_loadB 22 (.tmp 3) rfl rfl w.heap.size 0 rfl (bl V) _ (fun w' hw' => row_all (HX.out w' hw').1) undB rfl (size_bl V) ?_
              simp only [Act.put, List.setIfInBounds_toArray, List.set_cons_succ, List.set_cons_zero]
              refine q_neqV 22 _ (.tmp 70) (.tmp 71) rfl rfl ((bl D).toArray) ((bl V).toArray) rfl rfl (false) Pt.guardB (fun w' _ => HX1.out w') ?_
              simp only [Act.put, List.setIfInBounds_toArray, List.set_cons_succ, List.set_cons_zero]
              refine q_move _ rfl rfl ?_
              simp only [Act.put, List.setIfInBounds_toArray, List.set_cons_succ, List.set_cons_zero]
              refine q_val (.slice (some ⟨bd, 0, none⟩) 128 128) (by kernel_rfl) (fun w' hw' => by go_simp) ?_
              simp only [Act.put, List.setIfInBounds_toArray, List.set_cons_succ, List.set_cons_zero]
              refine q_call 41 _ (.agg (Sha.arr 32 (Sha.vu8 qd))) (by kernel_rfl) (fun w' => by go_simp) (fun w' hw' => (HSD.out w' bd (Pt.row_of (HX.out w' hw').2.1) (by have := hw'.size; omega)).mono fun e w'' ⟨he, hb⟩ => ⟨he, hw'.trans (hb.mono hw'.size)⟩) ?_
              simp only [Act.put, List.setIfInBounds_toArray, List.set_cons_succ, List.set_cons_zero]
              refine q_loadB 63 (.tmp 16) rfl (by kernel_rfl) bq 0 rfl ((Sha.arr 32 (Sha.vu8 q)).toList) _ (fun w' hw' => sum_all (HX.out w' hw').2.2.2) undS rfl (sizeS' q) ?_
              simp only [Act.put, List.setIfInBounds_toArray, List.set_cons_succ, List.set_cons_zero]
              refine q_eqlV 63 _ (.tmp 75) (.tmp 76) rfl (by kernel_rfl) (Sha.arr 32 (Sha.vu8 qd)) (Sha.arr 32 (Sha.vu8 q)) rfl (congrArg Value.agg Array.toArray_toList) false Pt.guardS (fun w' _ => HX2.out w') ?_
              simp only [Act.put, List.setIfInBounds_toArray, List.set_cons_succ, List.set_cons_zero]
              refine q_val (.bool false) rfl (fun w' hw' => by go_simp) ?_
              simp only [Act.put, List.setIfInBounds_toArray, List.set_cons_succ, List.set_cons_zero]
              refine q_move _ rfl rfl ?_
              simp only [Act.put, List.setIfInBounds_toArray, List.set_cons_succ, List.set_cons_zero]
              refine q_loadB 22 (.tmp 15) rfl (by kernel_rfl) be 0 rfl (bl E) _ (fun w' hw' => row_all (HX.out w' hw').2.2.1) undB rfl (size_bl E) ?_
              simp only [Act.put, List.setIfInBounds_toArray, List.set_cons_succ, List.set_cons_zero]
              refine q_loadB 22 (.tmp 3) rfl (by kernel_rfl) w.heap.size 0 rfl (bl V) _ (fun w' hw' => row_all (HX.out w' hw').1) undB rfl (size_bl V) ?_
              simp only [Act.put, List.setIfInBounds_toArray, List.set_cons_succ, List.set_cons_zero]
              refine q_neqV 22 _ (.tmp 80) (.tmp 81) rfl (by kernel_rfl) ((bl E).toArray) ((bl V).toArray) rfl rfl (false) Pt.guardB (fun w' _ => HY1.out w') ?_
              simp only [Act.put, List.setIfInBounds_toArray, List.set_cons_succ, List.set_cons_zero]
              refine q_move _ rfl (by kernel_rfl) ?_
              simp only [Act.put, List.setIfInBounds_toArray, List.set_cons_succ, List.set_cons_zero]
              refine q_val (.slice (some ⟨be, 0, none⟩) 128 128) (by kernel_rfl) (fun w' hw' => by go_simp) ?_
              simp only [Act.put, List.setIfInBounds_toArray, List.set_cons_succ, List.set_cons_zero]
              refine q_call 41 _ (.agg (Sha.arr 32 (Sha.vu8 qe))) (by kernel_rfl) (fun w' => by go_simp) (fun w' hw' => (HSE'.out w' be (Pt.row_of (HX.out w' hw').2.2.1) (by have := hw'.size; omega)).mono fun e w'' ⟨he, hb⟩ => ⟨he, hw'.trans (hb.mono hw'.size)⟩) ?_
              simp only [Act.put, List.setIfInBounds_toArray, List.set_cons_succ, List.set_cons_zero]
              refine q_loadB 63 (.tmp 16) rfl (by kernel_rfl) bq 0 rfl ((Sha.arr 32 (Sha.vu8 q)).toList) _ (fun w' hw' => sum_all (HX.out w' hw').2.2.2) undS rfl (sizeS' q) ?_
              simp only [Act.put, List.setIfInBounds_toArray, List.set_cons_succ, List.set_cons_zero]
              refine q_eqlV 63 _ (.tmp 85) (.tmp 86) rfl (by kernel_rfl) (Sha.arr 32 (Sha.vu8 qe)) (Sha.arr 32 (Sha.vu8 q)) rfl (congrArg Value.agg Array.toArray_toList) true Pt.guardS (fun w' _ => HY2.out w') ?_
              simp only [Act.put, List.setIfInBounds_toArray, List.set_cons_succ, List.set_cons_zero]
              refine q_val (.bool true) (by kernel_rfl) (fun w' hw' => by go_simp) ?_
              simp only [Act.put, List.setIfInBounds_toArray, List.set_cons_succ, List.set_cons_zero]
              refine q_val (.bool true) rfl (fun w' hw' => by go_simp) ?_
              simp only [Act.put, List.setIfInBounds_toArray, List.set_cons_succ, List.set_cons_zero]
              refine wpQuiet_nil ?_
              intro w14 hw14
              go_wp2_with fail
              go_meet
              exact ⟨by rw [HR.out]; simp, Lib.hid hw14⟩
    case rest =>
      obtain ⟨rfl, hwc⟩ := hcut
      have hwc := hwc.out
      cases r with
      | true =>
        have hBE := HS13.out.be.trans (hwc.mono HS13.out.be.size)
        clear HR HNU HQV
        go_wp2_with fail
        go_ret
        exact ⟨rfl, hBE⟩
      | false =>
        have h3 : x1 = true ∨ x2 = false := by have := HR.out; cases x1 <;> cases x2 <;> simp at this ⊢
        have h25 : e1 = true ∨ e2 = false := by have := HR.out; cases e1 <;> cases e2 <;> simp at this ⊢
        obtain ⟨V', h', eG, X6, s1, s2, s3, eL, X7, hok⟩ := HNU.out h3 h25
        obtain ⟨cG, cL⟩ := HQV.out _ _ _ _ _ _ _ _ _ _ hok
        have HLK := Lib.hid hok.lost
        have HKP := Lib.hid hok.kept
        have CG := Lib.hid cG
        have CL := Lib.hid cL
        have hS14 := HS13.out.below hwc
        have hx14 := below_at hwc hp13
        have HK14 := Lib.hid (HK13.out.below hwc)
        have hs14 := hwc.size
        obtain ⟨l0, l1⟩ := two_cells HK14.out.l
        have r14 := Pt.row_pt hx14
        clear h3 h25 hok cG cL HR HNU HQV HS13 hp13 HK13 hwc HX HX1 HX2 HY1 HY2 HSD HSE' HSV hxd hxe
        by_cases ey : y = 0
        · have y' : (y != 0) = false := by simpa using ey
          have eb : lBad true y z = false := by unfold lBad; simp [ey]
          rw [eb] at HLK HKP
          obtain ⟨rG, rL, rV⟩ := HKP.out rfl
          clear eb HLK HKP
          clear ey
          go_wp2_with (refine @wpList_loadG _ _ _ _ _ _ _ (by kernel_rfl) 65 (.tmp 11) rfl bp 0 rfl (Pt.pV ⟨3, 25, q⟩) _ r14 Pt.undP rfl (Pt.sizeP _) ?_; simp only [Act.put, List.setIfInBounds_toArray, List.set_cons_succ, List.set_cons_zero])
          refine (CG.out g (g + 1) wc hS14).mono ?_
          rintro _ w15 ⟨rfl, hT15, hS15⟩
          have hs15 := hT15.size
          obtain ⟨W16, hW16, hb16, hx16, hs16⟩ := new_obj w15 (.cells (bl V').toArray 22)
          have hS16 := hS15.below hb16
          have hp16 := below_at hb16 (two_at hT15 hx14 (by omega) (by omega))
          have HK16 := Lib.hid ((HK14.out.two hT15 hg (by omega)).below hb16)
          have r16 := Pt.row_pt hp16
          clear hT15 hS15 hb16 hS14 hx14 HK14 CG r14 l0 l1
          dsimp only
          subst hW16
          go_wp2_with (first
            | (refine @wpList_store_row _ _ _ _ _ _ _ rfl 22 (.tmp 18) (.tmp 105) rfl w15.heap.size (bl V').toArray rfl rfl 22 _ (heap_alloc_new w15 _) (size_bl' _) rfl (bl_all _) ?_; rw [World.setRow_alloc_new]; simp only [Act.put])
            | (refine @wpList_loadG _ _ _ _ _ _ _ (by kernel_rfl) 65 (.tmp 11) rfl bp 0 rfl (Pt.pV ⟨3, 25, q⟩) _ r16 Pt.undP rfl (Pt.sizeP _) ?_; simp only [Act.put, List.setIfInBounds_toArray, List.set_cons_succ, List.set_cons_zero]))
          have hv16 : g + 1 < w15.heap.size := by omega
          generalize w15.alloc (.cells (bl V').toArray 22) = W16 at hx16 hs16 hS16 hp16 HK16 ⊢
          generalize w15.heap.size = bv at hx16 hs16 hv16 ⊢
          refine (CL.out g (g + 1) W16 hS16).mono ?_
          rintro _ w17 ⟨rfl, hT17, hS17⟩
          obtain ⟨W18, hW18, hb18, hx18, hs18⟩ := new_obj w17 (.cells #[.int .i64 s1, .int .i64 s2, .int .i64 s3, .slice none 0 0] 88)
          have hS18 := hS17.below hb18
          have hv18 := below_at hb18 (two_at hT17 hx16 (by omega) (by omega))
          have HK18 := Lib.hid ((HK16.out.two hT17 hg (by omega)).below hb18)
          have rv := row_all hv18
          have rV2 := row_all HK18.out.v
          have EQ1 := eq_bl V' V
          rw [rV] at EQ1
          have hBE := hS18.be
          clear hT17 hS17 hb18 hS16 hp16 hx16 HK16 CL r16 hS18 hv18 hx18
          dsimp only
          subst hW18 rG rL
          go_wp2_with (first
            | (refine @wpList_store_row _ _ _ _ _ _ _ rfl 88 (.tmp 21) (.tmp 111) rfl w17.heap.size #[.int .i64 s1, .int .i64 s2, .int .i64 s3, .slice none 0 0] rfl rfl 88 _ (heap_alloc_new w17 _) (by kernel_rfl) rfl (rb_one _ _ _) ?_; rw [World.setRow_alloc_new]; simp only [Act.put])
            | (refine @wpList_loadG _ _ _ _ _ _ _ (by kernel_rfl) 22 (.tmp 18) rfl bv 0 rfl (bl V') _ rv undB rfl (size_bl _) ?_; simp only [Act.put, List.setIfInBounds_toArray, List.set_cons_succ, List.set_cons_zero])
            | (refine @wpList_loadG _ _ _ _ _ _ _ (by kernel_rfl) 22 (.tmp 3) rfl w.heap.size 0 rfl (bl V) _ rV2 undB rfl (size_bl _) ?_; simp only [Act.put, List.setIfInBounds_toArray, List.set_cons_succ, List.set_cons_zero])
            | (refine @wpList_buildG _ _ _ _ _ _ _ (by kernel_rfl) 22 #[] rfl (bl fun _ => 0).toArray (by kernel_rfl) ?_; simp only [Act.put, List.setIfInBounds_toArray, List.set_cons_succ, List.set_cons_zero]))
          go_ret
          exact ⟨rfl, hBE⟩
        · have y' : (y != 0) = true := by simpa using ey
          by_cases ez : z = 0
          · have z' : (z != 0) = false := by simpa using ez
            have eb : lBad true y z = false := by unfold lBad; simp [ez]
            rw [eb] at HLK HKP
            obtain ⟨rG, rL, rV⟩ := HKP.out rfl
            clear eb HLK HKP
            clear ey ez
            go_wp2_with (refine @wpList_loadG _ _ _ _ _ _ _ (by kernel_rfl) 65 (.tmp 11) rfl bp 0 rfl (Pt.pV ⟨3, 25, q⟩) _ r14 Pt.undP rfl (Pt.sizeP _) ?_; simp only [Act.put, List.setIfInBounds_toArray, List.set_cons_succ, List.set_cons_zero])
            refine (CG.out g (g + 1) wc hS14).mono ?_
            rintro _ w15 ⟨rfl, hT15, hS15⟩
            have hs15 := hT15.size
            obtain ⟨W16, hW16, hb16, hx16, hs16⟩ := new_obj w15 (.cells (bl V').toArray 22)
            have hS16 := hS15.below hb16
            have hp16 := below_at hb16 (two_at hT15 hx14 (by omega) (by omega))
            have HK16 := Lib.hid ((HK14.out.two hT15 hg (by omega)).below hb16)
            have r16 := Pt.row_pt hp16
            clear hT15 hS15 hb16 hS14 hx14 HK14 CG r14 l0 l1
            dsimp only
            subst hW16
            go_wp2_with (first
              | (refine @wpList_store_row _ _ _ _ _ _ _ rfl 22 (.tmp 18) (.tmp 105) rfl w15.heap.size (bl V').toArray rfl rfl 22 _ (heap_alloc_new w15 _) (size_bl' _) rfl (bl_all _) ?_; rw [World.setRow_alloc_new]; simp only [Act.put])
              | (refine @wpList_loadG _ _ _ _ _ _ _ (by kernel_rfl) 65 (.tmp 11) rfl bp 0 rfl (Pt.pV ⟨3, 25, q⟩) _ r16 Pt.undP rfl (Pt.sizeP _) ?_; simp only [Act.put, List.setIfInBounds_toArray, List.set_cons_succ, List.set_cons_zero]))
            have hv16 : g + 1 < w15.heap.size := by omega
            generalize w15.alloc (.cells (bl V').toArray 22) = W16 at hx16 hs16 hS16 hp16 HK16 ⊢
            generalize w15.heap.size = bv at hx16 hs16 hv16 ⊢
            refine (CL.out g (g + 1) W16 hS16).mono ?_
            rintro _ w17 ⟨rfl, hT17, hS17⟩
            obtain ⟨W18, hW18, hb18, hx18, hs18⟩ := new_obj w17 (.cells #[.int .i64 s1, .int .i64 s2, .int .i64 s3, .slice none 0 0] 88)
            have hS18 := hS17.below hb18
            have hv18 := below_at hb18 (two_at hT17 hx16 (by omega) (by omega))
            have HK18 := Lib.hid ((HK16.out.two hT17 hg (by omega)).below hb18)
            have rv := row_all hv18
            have rV2 := row_all HK18.out.v
            have EQ1 := eq_bl V' V
            rw [rV] at EQ1
            have hBE := hS18.be
            clear hT17 hS17 hb18 hS16 hp16 hx16 HK16 CL r16 hS18 hv18 hx18
            dsimp only
            subst hW18 rG rL
            go_wp2_with (first
              | (refine @wpList_store_row _ _ _ _ _ _ _ rfl 88 (.tmp 21) (.tmp 111) rfl w17.heap.size #[.int .i64 s1, .int .i64 s2, .int .i64 s3, .slice none 0 0] rfl rfl 88 _ (heap_alloc_new w17 _) (by kernel_rfl) rfl (rb_one _ _ _) ?_; rw [World.setRow_alloc_new]; simp only [Act.put])
              | (refine @wpList_loadG _ _ _ _ _ _ _ (by kernel_rfl) 22 (.tmp 18) rfl bv 0 rfl (bl V') _ rv undB rfl (size_bl _) ?_; simp only [Act.put, List.setIfInBounds_toArray, List.set_cons_succ, List.set_cons_zero])
              | (refine @wpList_loadG _ _ _ _ _ _ _ (by kernel_rfl) 22 (.tmp 3) rfl w.heap.size 0 rfl (bl V) _ rV2 undB rfl (size_bl _) ?_; simp only [Act.put, List.setIfInBounds_toArray, List.set_cons_succ, List.set_cons_zero])
              | (refine @wpList_buildG _ _ _ _ _ _ _ (by kernel_rfl) 22 #[] rfl (bl fun _ => 0).toArray (by kernel_rfl) ?_; simp only [Act.put, List.setIfInBounds_toArray, List.set_cons_succ, List.set_cons_zero]))
            go_ret
            exact ⟨rfl, hBE⟩
          · have z' : (z != 0) = true := by simpa using ez
            have eb : lBad true y z = true := by unfold lBad; simp [ey, ez]
            rw [eb] at HLK HKP
            obtain ⟨rG, rL, rV⟩ := HLK.out rfl
            clear eb HLK HKP
            clear ey ez
            go_wp2_with (refine @wpList_loadG _ _ _ _ _ _ _ (by kernel_rfl) 65 (.tmp 11) rfl bp 0 rfl (Pt.pV ⟨3, 25, q⟩) _ r14 Pt.undP rfl (Pt.sizeP _) ?_; simp only [Act.put, List.setIfInBounds_toArray, List.set_cons_succ, List.set_cons_zero])
            refine (CG.out g (g + 1) wc hS14).mono ?_
            rintro _ w15 ⟨rfl, hT15, hS15⟩
            have hs15 := hT15.size
            obtain ⟨W16, hW16, hb16, hx16, hs16⟩ := new_obj w15 (.cells (bl V').toArray 22)
            have hS16 := hS15.below hb16
            have hp16 := below_at hb16 (two_at hT15 hx14 (by omega) (by omega))
            have HK16 := Lib.hid ((HK14.out.two hT15 hg (by omega)).below hb16)
            have r16 := Pt.row_pt hp16
            clear hT15 hS15 hb16 hS14 hx14 HK14 CG r14 l0 l1
            dsimp only
            subst hW16
            go_wp2_with (first
              | (refine @wpList_store_row _ _ _ _ _ _ _ rfl 22 (.tmp 18) (.tmp 105) rfl w15.heap.size (bl V').toArray rfl rfl 22 _ (heap_alloc_new w15 _) (size_bl' _) rfl (bl_all _) ?_; rw [World.setRow_alloc_new]; simp only [Act.put])
              | (refine @wpList_loadG _ _ _ _ _ _ _ (by kernel_rfl) 65 (.tmp 11) rfl bp 0 rfl (Pt.pV ⟨3, 25, q⟩) _ r16 Pt.undP rfl (Pt.sizeP _) ?_; simp only [Act.put, List.setIfInBounds_toArray, List.set_cons_succ, List.set_cons_zero]))
            have hv16 : g + 1 < w15.heap.size := by omega
            generalize w15.alloc (.cells (bl V').toArray 22) = W16 at hx16 hs16 hS16 hp16 HK16 ⊢
            generalize w15.heap.size = bv at hx16 hs16 hv16 ⊢
            refine (CL.out g (g + 1) W16 hS16).mono ?_
            rintro _ w17 ⟨rfl, hT17, hS17⟩
            obtain ⟨W18, hW18, hb18, hx18, hs18⟩ := new_obj w17 (.cells #[.int .i64 s1, .int .i64 s2, .int .i64 s3, .slice none 0 0] 88)
            have hS18 := hS17.below hb18
            have hv18 := below_at hb18 (two_at hT17 hx16 (by omega) (by omega))
            have HK18 := Lib.hid ((HK16.out.two hT17 hg (by omega)).below hb18)
            have rv := row_all hv18
            have rV2 := row_all HK18.out.v
            have EQ1 := eq_bl V' (fun _ => 0)
            rw [rV] at EQ1
            have hBE := hS18.be
            clear hT17 hS17 hb18 hS16 hp16 hx16 HK16 CL r16 hS18 hv18 hx18
            dsimp only
            subst hW18 rG rL
            go_wp2_with (first
              | (refine @wpList_store_row _ _ _ _ _ _ _ rfl 88 (.tmp 21) (.tmp 111) rfl w17.heap.size #[.int .i64 s1, .int .i64 s2, .int .i64 s3, .slice none 0 0] rfl rfl 88 _ (heap_alloc_new w17 _) (by kernel_rfl) rfl (rb_one _ _ _) ?_; rw [World.setRow_alloc_new]; simp only [Act.put])
              | (refine @wpList_loadG _ _ _ _ _ _ _ (by kernel_rfl) 22 (.tmp 18) rfl bv 0 rfl (bl V') _ rv undB rfl (size_bl _) ?_; simp only [Act.put, List.setIfInBounds_toArray, List.set_cons_succ, List.set_cons_zero])
              | (refine @wpList_loadG _ _ _ _ _ _ _ (by kernel_rfl) 22 (.tmp 3) rfl w.heap.size 0 rfl (bl V) _ rV2 undB rfl (size_bl _) ?_; simp only [Act.put, List.setIfInBounds_toArray, List.set_cons_succ, List.set_cons_zero])
              | (refine @wpList_buildG _ _ _ _ _ _ _ (by kernel_rfl) 22 #[] rfl (bl fun _ => 0).toArray (by kernel_rfl) ?_; simp only [Act.put, List.setIfInBounds_toArray, List.set_cons_succ, List.set_cons_zero]))
            go_ret
            exact ⟨rfl, hBE⟩
end Di
end Go.Proofs.YtllejfnmbpjhaaaDoor
