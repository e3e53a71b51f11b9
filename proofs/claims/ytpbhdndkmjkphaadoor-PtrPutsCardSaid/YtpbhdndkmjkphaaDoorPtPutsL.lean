/- PtrPuts: the law's walk (made by tools/gen_pputs.py). -/
import Derived.Test.YtpbhdndkmjkphaaDoorPtMakes
import Derived.Test.YtpbhdndkmjkphaaDoorPtRefTake
namespace Go.Proofs.YtpbhdndkmjkphaaDoor
set_option maxRecDepth 20000
namespace Pt
open Go.RowKit Dk Eqb Byt

/-- two rows of bytes, a pointer, two pointers that were taken -/
structure PuS (ax : Option Addr) (cx : Nat) (ay : Option Addr) (cy n : Nat) (p V : Pn) (b0 b1 b2 Kx Ky : Nat) (F G : Nat → Int) (w0 w' : World) : Prop where
  x : Wd.Own w' Kx ax n cx F
  y : Wd.Own w' Ky ay n cy G
  p : w'.heap[b0]? = some (.cells (pV p).toArray 26 (0, 0))
  q : w'.heap[b1]? = some (.cells (pV V).toArray 26 (0, 0))
  r : w'.heap[b2]? = some (.cells (pV V).toArray 26 (0, 0))
  b : Below w0.heap.size w0 w'
structure PuW (ax : Option Addr) (cx : Nat) (ay : Option Addr) (cy n : Nat) (p V : Pn) (b0 b1 b2 Kx Ky : Nat) (f F : Nat → Int) (w0 : World) (c d : Bool) (w' : World) : Prop where
  ord : d = true → c = true
  ptr : w'.heap[b0]? = some (.cells (pV p).toArray 26 (0, 0))
  s0 : c = false → PuS ax cx ay cy n p V b0 b1 b2 Kx Ky f f w0 w'
  s1 : c = true → d = false → PuS ax cx ay cy n p V b0 b1 b2 Kx Ky F f w0 w'
  s2 : d = true → PuS ax cx ay cy n p V b0 b1 b2 Kx Ky F F w0 w'
/-- no block of the others is ax's or ay's -/
structure Apart (ax ay : Option Addr) (b0 b1 b2 Kx Ky : Nat) (w0 : World) : Prop where
  xy : ax.map (·.block) = none ∨ ax.map (·.block) ≠ ay.map (·.block)
  yx : ay.map (·.block) = none ∨ ay.map (·.block) ≠ ax.map (·.block)
  x0 : some b0 ≠ ax.map (·.block)
  x1 : some b1 ≠ ax.map (·.block)
  x2 : some b2 ≠ ax.map (·.block)
  y0 : some b0 ≠ ay.map (·.block)
  y1 : some b1 ≠ ay.map (·.block)
  y2 : some b2 ≠ ay.map (·.block)
  bx : w0.heap.size ≤ Kx
  by' : w0.heap.size ≤ Ky
section
variable {ax ay : Option Addr} {cx cy n : Nat} {p V : Pn} {b0 b1 b2 Kx Ky : Nat} {f F : Nat → Int} {w0 w' w'' : World}
theorem blk_of {w : World} {k : Nat} {o : Obj} (h : w.heap[k]? = some o) : k < w.heap.size := (Array.getElem?_eq_some_iff.1 h).1
theorem PuW.x0 (h : PuW ax cx ay cy n p V b0 b1 b2 Kx Ky f F w0 false false w') : Wd.Own w' Kx ax n cx f := (h.s0 rfl).x
theorem PuW.y1 (h : PuW ax cx ay cy n p V b0 b1 b2 Kx Ky f F w0 true false w') : Wd.Own w' Ky ay n cy f := (h.s1 rfl rfl).y
theorem PuW.one (A : Apart ax ay b0 b1 b2 Kx Ky w0) (h : PuW ax cx ay cy n p V b0 b1 b2 Kx Ky f F w0 false false w') (hG : Wd.Only w' w'' ax) (hO : Wd.Own w'' Kx ax n cx F) : PuW ax cx ay cy n p V b0 b1 b2 Kx Ky f F w0 true false w'' := by
  have s := h.s0 rfl
  have hp := (hG.block b0 (blk_of s.p) A.x0).trans s.p
  exact ⟨fun e => (by cases e), hp, fun e => (by cases e), fun _ _ => ⟨hO, s.y.other s.x hG A.yx, hp, (hG.block b1 (blk_of s.q) A.x1).trans s.q, (hG.block b2 (blk_of s.r) A.x2).trans s.r, (s.x.mono A.bx).under s.b hG s.b.size⟩, fun e => (by cases e)⟩
theorem PuW.two (A : Apart ax ay b0 b1 b2 Kx Ky w0) (h : PuW ax cx ay cy n p V b0 b1 b2 Kx Ky f F w0 true false w') (hG : Wd.Only w' w'' ay) (hO : Wd.Own w'' Ky ay n cy F) : PuW ax cx ay cy n p V b0 b1 b2 Kx Ky f F w0 true true w'' := by
  have s := h.s1 rfl rfl
  have hp := (hG.block b0 (blk_of s.p) A.y0).trans s.p
  exact ⟨fun _ => rfl, hp, fun e => (by cases e), fun _ e => (by cases e), fun _ => ⟨s.x.other s.y hG A.xy, hO, hp, (hG.block b1 (blk_of s.q) A.y1).trans s.q, (hG.block b2 (blk_of s.r) A.y2).trans s.r, (s.y.mono A.by').under s.b hG s.b.size⟩⟩
end
def PuInv (x0 x2 x3 x4 x6 x9 x10 x11 x12 x14 x15 x16 x17 x18 x19 x20 x21 x22 x23 x24 x25 x26 x27 x28 x29 x30 x31 x32 x41 x42 x43 x44 x45 x46 x47 x48 x49 x50 x51 x52 x53 x54 x55 x56 x57 x58 : Value) (ax : Option Addr) (cx : Nat) (ay : Option Addr) (cy n : Nat) (a : Int) (p V : Pn) (E : Int) (b0 b1 b2 Kx Ky : Nat) (f F : Nat → Int) (w0 : World) (L : Nat → Bool) (a' : Act) (w' : World) : Prop :=
  ∃ u0 u1 u2 u3 u4 u5 u6 u7 u8, a' = { tmps := #[x0, .int .i64 a, x2, x3, x4, .pointer (some ⟨b0, 0, none⟩), x6, .slice ax n cx, .slice ay n cy, x9, x10, x11, x12, u8, x14, x15, x16, x17, x18, x19, x20, x21, x22, x23, x24, x25, x26, x27, x28, x29, x30, x31, x32, u0, u1, u2, u3, u4, u5, u6, u7, x41, x42, x43, x44, x45, x46, x47, x48, x49, x50, x51, x52, x53, x54, x55, x56, x57, x58], defers := [] } ∧ (L 0 = true → u0 = .slice ax n cx) ∧ (L 1 = true → u1 = .int .i64 a) ∧ (L 2 = true → u2 = .agg (pV p).toArray) ∧ (L 3 = true → u3 = .int .i64 E) ∧ (L 4 = true → u4 = .slice ay n cy) ∧ (L 5 = true → u5 = .int .i64 a) ∧ (L 6 = true → u6 = .agg (pV p).toArray) ∧ (L 7 = true → u7 = .int .i64 E) ∧ (L 8 = true → u8 = .int .i64 E) ∧ PuW ax cx ay cy n p V b0 b1 b2 Kx Ky f F w0 (L 3) (L 7) w'
theorem PuInv_kl {L : Nat → Bool} {i k : Nat} {Q : Prop} (h : L k = true → Q) (h1 : (k == i) = false) : (k == i || L k) = true → Q := by
  rw [h1, Bool.false_or]
  exact h

theorem ppF_bytes {n : Nat} {a : Int} {p : Pn} {f : Nat → Int} (hf : ∀ i, i < n → 0 ≤ f i ∧ f i < 256) (hp : ∀ j, j < 32 → 0 ≤ p.S j ∧ p.S j < 256) : ∀ i, i < n → 0 ≤ ppF n a p f i ∧ ppF n a p f i < 256 := by
  have hput : ∀ (x k z : Int) (h : Nat → Int), (∀ i, i < n → 0 ≤ h i ∧ h i < 256) → ∀ i, i < n → 0 ≤ Wd.putF n x k z h i ∧ Wd.putF n x k z h i < 256 := by
    intro x k z h hh
    unfold Wd.putF
    split
    · exact fun i hi => mix_byte hh (fun i _ => Wd.byteAt_bd z i) i hi
    · exact hh
  unfold ppF
  split
  · exact fun i hi => mix_byte (hput _ _ _ _ (hput _ _ _ _ hf)) hp i hi
  · exact hf

attribute [local go_sem] zvP
set_option maxRecDepth 100000 in
set_option maxHeartbeats 2000000 in
theorem putsl_any (n : Nat) (ao : Option Addr) (cap : Nat) (xs : List Int) (a : Int) (p : Pn) (w : World) (hn : n = xs.length) (hl : Lies w w.heap.size ao cap xs) (hx : Byte xs) (hlen : n ≤ 140737488351232) (ha0 : -9223372036854775808 ≤ a) (ha1 : a ≤ 9223372036854775807) (hp : ∀ j, j < 32 → 0 ≤ p.S j ∧ p.S j < 256) (hk : Kp w) :
    Calls Tryd.prog 5 #[.slice ao n cap, .int .i64 a, .agg (pV p).toArray] w fun e w' => e = .returned (.bool true) ∧ Below w.heap.size w w' := by
  have HK := Lib.hid (fun W (hb : Below w.heap.size w W) => hk.below hb)
  have HL := Lib.hid hl
  have HN := Lib.hid hn
  have hff : ∀ i, i < n → 0 ≤ xs.getD i 0 ∧ xs.getD i 0 < 256 := fun i _ => byte_at hx i
  have hFb := ppF_bytes (a := a) hff hp
  have HT1 := Lib.hid (fun W B ax cx h => take_any W B ax n cx (fun i => xs.getD i 0) a h hff (by omega))
  have HT2 := Lib.hid (fun W B ax cx h => reftake_any W B ax n cx (fun i => xs.getD i 0) a h hff (by omega) ha0 ha1)
  have HQ1 := Lib.hid (fun W B ax cx h => put_any W B ax n cx (fun i => xs.getD i 0) a p h (by omega))
  have HQ2 := Lib.hid (fun W B ax cx h => refput_any W B ax n cx (fun i => xs.getD i 0) a p h (by omega) ha0 ha1)
  have HBY : Hid (Byte (tab n (ppF n a p fun i => xs.getD i 0))) := Lib.hid (byte_tab hFb)
  unfold PpPost at HQ1 HQ2
  generalize hfe : (fun i => xs.getD i 0) = f at *
  have HFE := Lib.hid hfe
  clear hfe
  generalize tkV n a f = V at *
  generalize tkE n a f = TE at *
  generalize ppF n a p f = F at *
  generalize ppE n a p = E at *
  clear hl hn hff hFb hk hx hp
  obtain ⟨W, hW, hB0, hx0, hs0⟩ := new_pt w p
  go_enter Tryd.func5, Tryd.ntmps5
  go_wp2_with fail
  rw [← hW]
  clear hW
  refine (alive5_any W (HK.out W hB0)).mono ?_
  rintro _ w1 ⟨rfl, hb1⟩
  have hs1 := hb1.size
  have hB1 := hB0.trans (hb1.mono (by omega))
  have hx1 := (hb1.block w.heap.size (by omega)).trans hx0
  clear hx0 hb1
  dsimp only
  go_wp2_with fail
  refine (Wd.copy_n n ao cap xs w1 HN.out ((HL.out.below hB1).more hB1.size) (by omega)).mono ?_
  rintro _ w2 ⟨ax, cx, rfl, hx2, hb2⟩
  have hs2 := hb2.size
  have hB2 := hB1.trans (hb2.mono (by omega))
  dsimp only
  go_wp2_with fail
  refine (Wd.copy_n n ao cap xs w2 HN.out ((HL.out.below hB2).more hB2.size) (by omega)).mono ?_
  rintro _ w3 ⟨ay, cy, rfl, hy3, hb3⟩
  have hs3 := hb3.size
  have hB3 := hB2.trans (hb3.mono (by omega))
  rw [HFE.out] at hx2 hy3
  have hx3 := hx2.below hb3
  have hne : ax.map (·.block) = none ∨ ax.map (·.block) ≠ ay.map (·.block) := by
    cases e : ax.map (·.block) with
    | none => exact .inl rfl
    | some k =>
      refine .inr fun h => ?_
      have h1 := (hx2.lt k e).2
      have h2 := (hy3.lt k h.symm).1
      omega
  have hne' : ay.map (·.block) = none ∨ ay.map (·.block) ≠ ax.map (·.block) := by
    rcases hne with h | h
    · cases e : ay.map (·.block) with
      | none => exact .inl rfl
      | some k => rw [h]; exact .inr (by simp)
    · exact .inr (Ne.symm h)
  have hxl : ∀ k, some k = ax.map (·.block) → w1.heap.size ≤ k ∧ k < w2.heap.size := fun k e => hx2.lt k e.symm
  have hyl : ∀ k, some k = ay.map (·.block) → w2.heap.size ≤ k ∧ k < w3.heap.size := fun k e => hy3.lt k e.symm
  have HLT := Lib.hid (And.intro hxl hyl)
  have HNN := Lib.hid (And.intro hne hne')
  have hp3 := (hb3.block w.heap.size (by omega)).trans ((hb2.block w.heap.size (by omega)).trans hx1)
  have HX3 := Lib.hid hx3
  have HY3 := Lib.hid hy3
  clear hx2 hy3 hx3 hb2 hb3 hne hne' hx1 hxl hyl
  dsimp only
  go_wp2_with fail
  refine (HT1.out w3 _ ax cx HX3.out).mono ?_
  rintro _ w4 ⟨rfl, hb4⟩
  have hs4 := hb4.size
  have hB4 := hB3.trans (hb4.mono (by omega))
  have hY4 := HY3.out.below hb4
  have hX4 := HX3.out.below hb4
  have hp4 := (hb4.block w.heap.size (by omega)).trans hp3
  obtain ⟨W5, hW5, hb5, hq5, hs5⟩ := new_pt w4 V
  have hB5 := hB4.trans (hb5.mono (by omega))
  have HY5 := Lib.hid (hY4.below hb5)
  have HX5 := Lib.hid (hX4.below hb5)
  have hp5 := (hb5.block w.heap.size (by omega)).trans hp4
  clear hb4 hY4 hX4 hp3 hp4 hb5 HX3 HY3
  dsimp only
  subst hW5
  go_wp2_with (refine @wpList_store_row _ _ _ _ _ _ _ rfl 26 (.tmp 9) (.tmp 25) rfl w4.heap.size (pV V).toArray rfl rfl 26 _ (heap_alloc_new w4 _) (sizeP' _) rfl (pV_all _) ?_; rw [World.setRow_alloc_new]; simp only [Act.put])
  generalize w4.alloc (.cells (pV V).toArray 26) = W5 at hq5 hs5 hB5 HY5 HX5 hp5 ⊢
  refine (HT2.out W5 _ ay cy HY5.out).mono ?_
  rintro _ w6 ⟨rfl, hb6⟩
  have hs6 := hb6.size
  have hB6 := hB5.trans (hb6.mono (by omega))
  obtain ⟨W7, hW7, hb7, hr7, hs7⟩ := new_pt w6 V
  have hB7 := hB6.trans (hb7.mono (by omega))
  have HY7 := Lib.hid ((HY5.out.below hb6).below hb7)
  have HX7 := Lib.hid ((HX5.out.below hb6).below hb7)
  have hp7 := (hb7.block w.heap.size (by omega)).trans ((hb6.block w.heap.size (by omega)).trans hp5)
  have hq7 := (hb7.block w4.heap.size (by omega)).trans ((hb6.block w4.heap.size (by omega)).trans hq5)
  clear hb6 hb7 hp5 hq5 HX5 HY5 HT1 HT2
  dsimp only
  subst hW7
  go_wp2_with (refine @wpList_store_row _ _ _ _ _ _ _ rfl 26 (.tmp 11) (.tmp 31) rfl w6.heap.size (pV V).toArray rfl rfl 26 _ (heap_alloc_new w6 _) (sizeP' _) rfl (pV_all _) ?_; rw [World.setRow_alloc_new]; simp only [Act.put])
  generalize w6.alloc (.cells (pV V).toArray 26) = W7 at hq7 hs7 hB7 HY7 HX7 hp7 hr7 ⊢
  have HNE : Hid (Apart ax ay w.heap.size w4.heap.size w6.heap.size w1.heap.size w2.heap.size w) := Lib.hid ⟨HNN.out.1, HNN.out.2, fun e => by have := HLT.out.1 _ e; omega, fun e => by have := HLT.out.1 _ e; omega, fun e => by have := HLT.out.1 _ e; omega, fun e => by have := HLT.out.2 _ e; omega, fun e => by have := HLT.out.2 _ e; omega, fun e => by have := HLT.out.2 _ e; omega, by omega, by omega⟩
  have HP1 := Lib.hid (fun w' h => HQ1.out w' w1.heap.size ax cx h)
  have HP2 := Lib.hid (fun w' h => HQ2.out w' w2.heap.size ay cy h)
  have hS0 : PuS ax cx ay cy n p V w.heap.size w4.heap.size w6.heap.size w1.heap.size w2.heap.size f f w { W7 with drawn := W7.drawn + 1 } := ⟨HX7.out.same rfl, HY7.out.same rfl, hp7, hq7, hr7, hB7.trans ⟨rfl, rfl, rfl, Nat.le_refl _, fun _ _ => rfl⟩⟩
  have HS0 : Hid (PuW ax cx ay cy n p V w.heap.size w4.heap.size w6.heap.size w1.heap.size w2.heap.size f F w false false { W7 with drawn := W7.drawn + 1 }) := Lib.hid ⟨fun e => (by cases e), hp7, fun _ => hS0, fun e => (by cases e), fun e => (by cases e)⟩
  clear hS0 hp7 hq7 hr7 HX7 HY7 HQ1 HQ2 HNN HLT
  refine QuietTail2.regionInv (n := 9) (Inv := PuInv _ _ _ _ _ _ _ _ _ _ _ _ _ _ _ _ _ _ _ _ _ _ _ _ _ _ _ _ _ _ _ _ _ _ _ _ _ _ _ _ _ _ _ _ _ _ ax cx ay cy n a p V E w.heap.size w4.heap.size w6.heap.size w1.heap.size w2.heap.size f F w) (by kernel_rfl) (by decide) (by kernel_rfl) ⟨_, _, _, _, _, _, _, _, _, rfl, by simp, by simp, by simp, by simp, by simp, by simp, by simp, by simp, by simp, HS0.out⟩ ?step ?fin
  case step =>
    rintro i o hi ho L a' w' ⟨u0, u1, u2, u3, u4, u5, u6, u7, u8, rfl, i0, i1, i2, i3, i4, i5, i6, i7, i8, iW⟩ hL hpre
    match i, hi with
    | 0, _ =>
      simp at ho
      subst ho
      go_simp
      exact ⟨_, u1, u2, u3, u4, u5, u6, u7, u8, rfl, fun _ => rfl, PuInv_kl i1 rfl, PuInv_kl i2 rfl, PuInv_kl i3 rfl, PuInv_kl i4 rfl, PuInv_kl i5 rfl, PuInv_kl i6 rfl, PuInv_kl i7 rfl, PuInv_kl i8 rfl, iW⟩
    | 1, _ =>
      simp at ho
      subst ho
      go_simp
      exact ⟨u0, _, u2, u3, u4, u5, u6, u7, u8, rfl, PuInv_kl i0 rfl, fun _ => rfl, PuInv_kl i2 rfl, PuInv_kl i3 rfl, PuInv_kl i4 rfl, PuInv_kl i5 rfl, PuInv_kl i6 rfl, PuInv_kl i7 rfl, PuInv_kl i8 rfl, iW⟩
    | 2, _ =>
      simp at ho
      subst ho
      refine wp_load_mid 26 (.tmp 5) rfl w.heap.size 0 rfl (pV p) _ (row_pt iW.ptr) undP rfl (sizeP p) ?_
      simp only [Act.put, List.setIfInBounds_toArray, List.set_cons_succ, List.set_cons_zero]
      exact ⟨u0, u1, _, u3, u4, u5, u6, u7, u8, rfl, PuInv_kl i0 rfl, PuInv_kl i1 rfl, fun _ => rfl, PuInv_kl i3 rfl, PuInv_kl i4 rfl, PuInv_kl i5 rfl, PuInv_kl i6 rfl, PuInv_kl i7 rfl, PuInv_kl i8 rfl, iW⟩
    | 3, _ =>
      simp at ho
      subst ho
      obtain rfl := i0 (hpre 0 (by kernel_rfl))
      obtain rfl := i1 (hpre 1 (by kernel_rfl))
      obtain rfl := i2 (hpre 2 (by kernel_rfl))
      have h7 : L 7 = false := by
        cases e : L 7 with
        | false => rfl
        | true => have := iW.ord e; rw [hL] at this; cases this
      rw [hL, h7] at iW
      go_simp
      refine (HP1.out w' iW.x0).mono ?_
      rintro _ w'' ⟨rfl, hG, hO⟩
      have hN := PuW.one (HNE.out) iW hG hO
      rw [← h7] at hN
      exact ⟨_, _, _, _, u4, u5, u6, u7, u8, rfl, PuInv_kl i0 rfl, PuInv_kl i1 rfl, PuInv_kl i2 rfl, fun _ => rfl, PuInv_kl i4 rfl, PuInv_kl i5 rfl, PuInv_kl i6 rfl, PuInv_kl i7 rfl, PuInv_kl i8 rfl, hN⟩
    | 4, _ =>
      simp at ho
      subst ho
      go_simp
      exact ⟨u0, u1, u2, u3, _, u5, u6, u7, u8, rfl, PuInv_kl i0 rfl, PuInv_kl i1 rfl, PuInv_kl i2 rfl, PuInv_kl i3 rfl, fun _ => rfl, PuInv_kl i5 rfl, PuInv_kl i6 rfl, PuInv_kl i7 rfl, PuInv_kl i8 rfl, iW⟩
    | 5, _ =>
      simp at ho
      subst ho
      go_simp
      exact ⟨u0, u1, u2, u3, u4, _, u6, u7, u8, rfl, PuInv_kl i0 rfl, PuInv_kl i1 rfl, PuInv_kl i2 rfl, PuInv_kl i3 rfl, PuInv_kl i4 rfl, fun _ => rfl, PuInv_kl i6 rfl, PuInv_kl i7 rfl, PuInv_kl i8 rfl, iW⟩
    | 6, _ =>
      simp at ho
      subst ho
      refine wp_load_mid 26 (.tmp 5) rfl w.heap.size 0 rfl (pV p) _ (row_pt iW.ptr) undP rfl (sizeP p) ?_
      simp only [Act.put, List.setIfInBounds_toArray, List.set_cons_succ, List.set_cons_zero]
      exact ⟨u0, u1, u2, u3, u4, u5, _, u7, u8, rfl, PuInv_kl i0 rfl, PuInv_kl i1 rfl, PuInv_kl i2 rfl, PuInv_kl i3 rfl, PuInv_kl i4 rfl, PuInv_kl i5 rfl, fun _ => rfl, PuInv_kl i7 rfl, PuInv_kl i8 rfl, iW⟩
    | 7, _ =>
      simp at ho
      subst ho
      obtain rfl := i4 (hpre 4 (by kernel_rfl))
      obtain rfl := i5 (hpre 5 (by kernel_rfl))
      obtain rfl := i6 (hpre 6 (by kernel_rfl))
      obtain rfl := i3 (hpre 3 (by kernel_rfl))
      have h3 : L 3 = true := hpre 3 (by kernel_rfl)
      rw [hL, h3] at iW
      go_simp
      refine (HP2.out w' iW.y1).mono ?_
      rintro _ w'' ⟨rfl, hG, hO⟩
      have hN := PuW.two (HNE.out) iW hG hO
      exact ⟨u0, u1, u2, _, _, _, _, _, u8, rfl, PuInv_kl i0 rfl, PuInv_kl i1 rfl, PuInv_kl i2 rfl, PuInv_kl i3 rfl, PuInv_kl i4 rfl, PuInv_kl i5 rfl, PuInv_kl i6 rfl, fun _ => rfl, PuInv_kl i8 rfl, (by show PuW _ _ _ _ _ _ _ _ _ _ _ _ _ _ _ (L 3) true _; rw [h3]; exact hN)⟩
    | 8, _ =>
      simp at ho
      subst ho
      obtain rfl := i3 (hpre 3 (by kernel_rfl))
      go_simp
      exact ⟨u0, u1, u2, _, u4, u5, u6, u7, _, rfl, PuInv_kl i0 rfl, PuInv_kl i1 rfl, PuInv_kl i2 rfl, PuInv_kl i3 rfl, PuInv_kl i4 rfl, PuInv_kl i5 rfl, PuInv_kl i6 rfl, PuInv_kl i7 rfl, fun _ => rfl, iW⟩
    | i + 9, h => omega
  case fin =>
    rintro L a' w5 hall ⟨u0, u1, u2, u3, u4, u5, u6, u7, u8, rfl, i0, i1, i2, i3, i4, i5, i6, i7, i8, iW⟩
    obtain rfl := i0 (hall 0 (by omega))
    obtain rfl := i1 (hall 1 (by omega))
    obtain rfl := i2 (hall 2 (by omega))
    obtain rfl := i3 (hall 3 (by omega))
    obtain rfl := i4 (hall 4 (by omega))
    obtain rfl := i5 (hall 5 (by omega))
    obtain rfl := i6 (hall 6 (by omega))
    obtain rfl := i7 (hall 7 (by omega))
    obtain rfl := i8 (hall 8 (by omega))
    have hW5 := iW
    rw [hall 3 (by omega), hall 7 (by omega)] at hW5
    clear iW
    clear i0 i1 i2 i3 i4 i5 i6 i7 i8 hall
    simp only [List.drop_succ_cons, List.drop_zero]
    have s := hW5.s2 rfl
    clear hW5
    have hq := s.q
    have hr := s.r
    have HS2 := Lib.hid s
    clear s HS0 HP1 HP2
    have HSM := Lib.hid (same_any ax ay cx cy w5.heap.size w5.heap.size n n (tab n F) (tab n F) w5 (tab_length n F).symm (tab_length n F).symm HS2.out.x.lies HS2.out.y.lies HBY.out HBY.out)
    rw [decide_eq_true rfl] at HSM
    go_wp2_with (first
      | (refine @wpList_loadG _ _ _ _ _ _ _ (by kernel_rfl) 26 (.tmp 9) rfl w4.heap.size 0 rfl (pV V) _ (row_pt hq) undP rfl (sizeP _) ?_; simp only [Act.put, List.setIfInBounds_toArray, List.set_cons_succ, List.set_cons_zero])
      | (refine @wpList_loadG _ _ _ _ _ _ _ (by kernel_rfl) 26 (.tmp 11) rfl w6.heap.size 0 rfl (pV V) _ (row_pt hr) undP rfl (sizeP _) ?_; simp only [Act.put, List.setIfInBounds_toArray, List.set_cons_succ, List.set_cons_zero])
      | (refine @wpList_eqlV _ _ _ _ _ _ _ 26 _ (.tmp 41) (.tmp 42) rfl (by kernel_rfl) (pV V).toArray (pV V).toArray rfl rfl true guardP (eq_pt_same V _) ?_; simp only [Act.put, List.setIfInBounds_toArray, List.set_cons_succ, List.set_cons_zero]))
    refine HSM.out.mono ?_
    rintro _ w8 ⟨rfl, rfl⟩
    dsimp only
    go_wp2_with fail
    go_ret
    exact ⟨rfl, HS2.out.b⟩
end Pt
end Go.Proofs.YtpbhdndkmjkphaaDoor
