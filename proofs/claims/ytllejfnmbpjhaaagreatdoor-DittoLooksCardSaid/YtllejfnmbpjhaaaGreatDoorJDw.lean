import Derived.Test.YtllejfnmbpjhaaaGreatDoorJDl
/- disk: the reference's Write, where it refuses or fails (its last statement is still to be walked). -/
namespace Go.Proofs.YtllejfnmbpjhaaaGreatDoor
set_option maxRecDepth 20000
namespace Dk
open Go.RowKit

set_option maxRecDepth 100000 in
set_option maxHeartbeats 1000000 in
theorem refwrite_no (g : Nat) (sa ca : Option Addr) (n sc m cc : Nat) (S : Nat → Sec) (C : Nat → Wr) (f : Int) (d : Bool) (a : Int) (D : Nat → Int) (w : World) (h : Has w g sa ca n sc m cc S C f d) (hf : -9223372036854775808 ≤ f ∧ f ≤ 9223372036854775807) (hno : wrE n m S C f d a ≠ 0) :
    Calls Tryz.prog 78 #[.pointer (some ⟨g, 0, none⟩), .int .i64 a, .agg (bl D).toArray] w (Writes w g n m S C f d a D) := by
  have HH := Lib.hid h
  have nb := h.nb
  have mb := h.mb
  clear h
  have hb0 : Below w.heap.size w (w.alloc (.cells (bl D).toArray 36)) := (Below.refl _ _).alloc (Nat.le_refl _) _
  have hs0 : (w.alloc (.cells (bl D).toArray 36)).heap.size = w.heap.size + 1 := by simp
  have h47 := HH.out.n47
  have hgw := HH.out.bx.lt
  have hl1 := bl_one D
  have hl2 := size_bl D
  have hl3 := bl_length D
  generalize hL : bl D = L at hb0 hs0 hl1 hl2 hl3 ⊢
  have hH0 := HH.out.below hb0
  have d0 := hH0.bx.c0
  have d1 := hH0.bx.c1
  have d2 := hH0.bx.c2
  have d3 := hH0.bx.c3
  have hF := hH0.refFormed
  have e0 := HH.out.bx.c0
  have e1 := HH.out.bx.c1
  have e2 := HH.out.bx.c2
  have e3 := HH.out.bx.c3
  clear hH0 hL
  go_enter Tryz.func78, Tryz.ntmps78
  go_wp2_with fail
  generalize w.alloc (.cells L.toArray 36) = W at hb0 hs0 hF d0 d1 d2 d3 ⊢
  refine hF.mono ?_
  rintro _ w1 ⟨rfl, hb⟩
  have hb1 : Below w.heap.size w w1 := hb0.trans (hb.mono (by omega))
  have hH1 := HH.out.below hb1
  clear d0 d1 d2 d3 e0 e1 e2 e3 hF
  cases hfm : formedB n m C with
  | false =>
    have hok : wrOk n m C a = false := by unfold wrOk; rw [hfm]; rfl
    dsimp only
    go_wp2_with fail
    go_ret
    exact writes_no hok ⟨rfl, only_below hb1, sa, sc, ca, cc, hH1⟩
  | true =>
    have d0 := hH1.bx.c0
    have d1 := hH1.bx.c1
    have d2 := hH1.bx.c2
    have d3 := hH1.bx.c3
    dsimp only
    go_wp2_with fail
    refine (there_any sa ca n sc m cc f a d w1 h47.1).mono ?_
    rintro _ w2 ⟨rfl, hb2⟩
    have hb3 : Below w.heap.size w w2 := hb1.trans (hb2.mono hb1.size)
    have hH2 := HH.out.below hb3
    clear d0 d1 d2 d3 hH1 hb2
    cases hha : hasB n a with
    | false =>
      have hok : wrOk n m C a = false := by unfold wrOk; rw [hfm, hha]; rfl
      dsimp only
      go_wp2_with fail
      go_ret
      exact writes_no hok ⟨rfl, only_below hb3, sa, sc, ca, cc, hH2⟩
    | true =>
      have hok : wrOk n m C a = true := by unfold wrOk; rw [hfm, hha]; rfl
      obtain ⟨hn, _⟩ := formed_n hfm
      obtain ⟨ha0, ha1⟩ := hasB_nat hha
      obtain ⟨p, rfl⟩ : ∃ p : Nat, a = p := ⟨a.toNat, by omega⟩
      have hpn : p < n := by omega
      dsimp only
      go_wp2_with fail
      refine (refact_any g (.slice sa n sc) (.slice ca m cc) f d w2 hH2.bx hf).mono ?_
      rintro _ w3 ⟨rfl, hg3, hx3⟩
      have hH3 := hH2.turn hg3 hx3
      have hO := only_trans (only_below hb3) hg3
      have hEnd1 := Lib.hid (fun (e : Ending) (w' : World) (ha : actE f d = 3) (h : Turns w g 3 n m S C (actF f d) (actD f d) e w') => writes_down (D := D) hok ha h)
      have hEnd2 := Lib.hid (fun (e : Ending) (w' : World) (ha : actE f d = 0) (hs : (S ((p : Int)).toNat).noWrite = true) (h : Turns w g 2 n m S C (actF f d) (actD f d) e w') => writes_io (D := D) hok ha hs h)
      have hnw : actE f d = 0 → (S p).noWrite = true := fun h0 => by
        cases hs : (S p).noWrite with
        | true => rfl
        | false => exact absurd (by unfold wrE; rw [hok, h0, Int.toNat_natCast, hs]; rfl) hno
      have hc := actE_cases f d
      clear hb3 hH2 hg3 hx3 hno hok
      generalize actF f d = fa at hH3 hEnd1 hEnd2
      generalize actD f d = da at hH3 hEnd1 hEnd2
      generalize actE f d = ea at hEnd1 hEnd2 hc hnw ⊢
      rcases hc with rfl | rfl
      · have hs := hnw rfl
        obtain ⟨b, off, rfl, hbl, _, hrow⟩ := hH3.ss.rows.resolve_left (by omega)
        have c0 := hH3.bx.c0
        have cN : w3.cell? ⟨b, off + p * 130 + 129, none⟩ = some (.bool true) := hs ▸ hrow p hpn 129 _ (secV_write _)
        have hp1 : (p : Int) < (n : Int) := by omega
        have hn47 : n ≤ 140737488355328 := by omega
        clear hrow
        dsimp only
        go_wp2_with fail
        go_ret
        exact hEnd2.out _ _ trivial (by rw [Int.toNat_natCast]; exact hs) ⟨rfl, hO, _, _, _, _, hH3⟩
      · dsimp only
        go_wp2_with fail
        go_ret
        exact hEnd1.out _ _ trivial ⟨rfl, hO, _, _, _, _, hH3⟩
end Dk
end Go.Proofs.YtllejfnmbpjhaaaGreatDoor
/- disk: the reference's Write, where it lays the write. -/
namespace Go.Proofs.YtllejfnmbpjhaaaGreatDoor
set_option maxRecDepth 20000
namespace Dk
open Go.RowKit

/-- append(v, x...) as one operation: v the call's own, x whatever -/
theorem wp_append_lay {w : World} {o : Oper} {a : Act} {K : Act → World → Prop} {Q : Exit → Act → World → Prop} (s x : Operand) (t e : TypeId) (i : TypeInfo) (z : Value) (k bytes : Nat)
    (ho : o.op = .call { callee := .builtin .append, args := #[s, x], argTypes := #[t, t] }) (ht : Tryz.prog.underlying t = some (.slice e)) (hi : Tryz.prog.info? e = some i) (hz : i.zero = some z) (hs1 : i.size = k) (hs2 : i.bytes = bytes) (hzs : z.cells.size = k) (hk0 : 0 < k)
    (base : Nat) (v : Value) (ys : List Value) (m : Nat) (hs : a.eval s = v) (hown : w.ownsRow base e k v m ys)
    (B g : Nat) (ao : Option Addr) (n cap : Nat) (T : Nat → List Value) (hx : a.eval x = .slice ao n cap) (hl : Lay w B g ao n cap k T) (hk : ∀ i, i < n → (T i).length = k) (h1 : ∀ i, i < n → ∀ u ∈ T i, u.oneCell' = true)
    (hm : m + n ≤ maxLen) (hby : (m + n) * bytes ≤ 140737488355328) (hbase : base ≤ w.heap.size)
    (h : ∀ v' w', w'.ownsRow base e k v' (m + n) (ys ++ flat T n) → w.grownBy w' v.ownBlock → K (a.put o.dst v') w') : o.wp Tryz.prog a w K Q := by
  cases ao with
  | none =>
    have hc := hl.nil rfl
    have hn : n = 0 := by have := hl.room; omega
    subst hn hc
    have hrun := run_append_owned_none (P := Tryz.prog) (w := w) base t o.type e i k ht hi v m ys hown
    have := h v w (by simpa [flat] using hown) (World.grownBy.refl _ _)
    unfold Oper.wp
    simp [execOp, ho, resolve, invoke, builtin, hs, hx, hrun, Result.andThen]
    exact this
  | some ad =>
    refine wp_append_own w s x t ho base e i z k bytes ht hi hz hs1 hs2 hzs hk0 v m ys hs hown ad n cap (flat T n) hx (flat_length hk) ?_ (flat_one h1) hm hby hbase ?_
    · intro j u hu
      obtain ⟨i, r, hi, hr, rfl, hv⟩ := flat_inv hk hu
      obtain ⟨b, off, e1, _, _, hrow⟩ := hl.rows.resolve_left (by omega)
      injection e1 with e1
      subst e1
      rw [Addr.add_mid, ← Nat.add_assoc]
      exact hrow i hi r u hv
    · intro v' w' h1 h2 _
      exact h v' w' h1 h2

/-- while the last statement is carried out, in whatever order -/
def RInv (x2 x3 x4 x6 x7 x8 x9 x10 x11 x12 x13 x14 x15 x16 x17 x18 x19 x20 x21 x22 x23 x24 x25 x26 x27 x28 x29 x30 x31 x32 x33 y0 y1 : Value) (g xb p : Nat) (D : Nat → Int) (ca : Option Addr) (m cc B : Nat) (F : List Value) (W : World) (L : Nat → Bool) (a : Act) (w' : World) : Prop :=
  ∃ u0 u1 u2 u3 u4 u5 u6 u7 u8 u9 u10 u11, a = { tmps := #[.pointer (some ⟨g, 0, none⟩), .int .i64 p, x2, x3, x4, .pointer (some ⟨xb, 0, none⟩), x6, x7, x8, x9, x10, x11, x12, x13, x14, x15, x16, x17, x18, x19, x20, x21, x22, x23, x24, x25, x26, x27, x28, x29, x30, x31, x32, x33, u0, u1, u2, u3, u4, u5, u6, u7, u8, u9, u10, u11, y0, y1], defers := [] } ∧ (L 0 = true → u0 = .pointer (some ⟨g, 0, none⟩)) ∧ (L 1 = true → ∃ eb, u1 = .slice (some ⟨eb, 0, none⟩) 0 0 ∧ eb < w'.heap.size ∧ (L 6 = false → w'.ownsRow B 70 129 (.slice (some ⟨eb, 0, none⟩) 0 0) 0 [])) ∧ (L 2 = true → u2 = .pointer (some ⟨g, 0, none⟩)) ∧ (L 3 = true → u3 = .pointer (some ⟨g, 0, none⟩)) ∧ (L 4 = true → u4 = .pointer (some ⟨g, 1, none⟩)) ∧ (L 5 = true → u5 = .slice ca m cc) ∧ (L 6 = true → L 11 = false → w'.ownsRow B 70 129 u6 m F) ∧ (L 7 = true → u7 = .int .i64 p) ∧ (L 8 = true → u8 = .agg (bl D).toArray) ∧ (L 9 = true → u9 = .agg (bw p D).toArray) ∧ (L 10 = true → ∃ gb, u10 = .slice (some ⟨gb, 0, none⟩) 1 1 ∧ gb < w'.heap.size ∧ (L 11 = false → w'.heap[gb]? = some (.cells (bw p D).toArray 70 (0, 0)))) ∧ (L 11 = true → L 6 = true ∧ ∃ b5 c5, u11 = .slice (some ⟨b5, 0, none⟩) (m + 1) c5 ∧ w'.ownsRow B 70 129 (.slice (some ⟨b5, 0, none⟩) (m + 1) c5) (m + 1) (F ++ bw p D)) ∧
    Below B W w' ∧ B ≤ w'.heap.size ∧ (L 1 = true → L 10 = true → L 6 = false → ∀ eb gb, u1 = .slice (some ⟨eb, 0, none⟩) 0 0 → u10 = .slice (some ⟨gb, 0, none⟩) 1 1 → eb ≠ gb)

set_option maxRecDepth 100000 in
set_option maxHeartbeats 1000000 in
theorem refwrite_yes (g : Nat) (sa ca : Option Addr) (n sc m cc : Nat) (S : Nat → Sec) (C : Nat → Wr) (f : Int) (d : Bool) (a : Int) (D : Nat → Int) (w : World) (h : Has w g sa ca n sc m cc S C f d) (hf : -9223372036854775808 ≤ f ∧ f ≤ 9223372036854775807) (hm1 : (m + 1) * 136 ≤ 140737488355328) (hyes : wrE n m S C f d a = 0) :
    Calls Tryz.prog 78 #[.pointer (some ⟨g, 0, none⟩), .int .i64 a, .agg (bl D).toArray] w (Writes w g n m S C f d a D) := by
  have HH := Lib.hid h
  have nb := h.nb
  have mb := h.mb
  clear h
  have hb0 : Below w.heap.size w (w.alloc (.cells (bl D).toArray 36)) := (Below.refl _ _).alloc (Nat.le_refl _) _
  have hs0 : (w.alloc (.cells (bl D).toArray 36)).heap.size = w.heap.size + 1 := by simp
  have h47 := HH.out.n47
  have hgw := HH.out.bx.lt
  have hx0 : (w.alloc (.cells (bl D).toArray 36)).heap[w.heap.size]? = some (.cells (bl D).toArray 36 (0, 0)) := heap_alloc_new _ _
  have hl1 := bl_one D
  have hl2 := size_bl D
  have hl3 := bl_length D
  generalize hL : bl D = L at hb0 hs0 hx0 hl1 hl2 hl3 ⊢
  have hH0 := HH.out.below hb0
  have d0 := hH0.bx.c0
  have d1 := hH0.bx.c1
  have d2 := hH0.bx.c2
  have d3 := hH0.bx.c3
  have hF := hH0.refFormed
  have e0 := HH.out.bx.c0
  have e1 := HH.out.bx.c1
  have e2 := HH.out.bx.c2
  have e3 := HH.out.bx.c3
  have HL := Lib.hid hL
  clear hH0 hL
  go_enter Tryz.func78, Tryz.ntmps78
  go_wp2_with fail
  generalize w.alloc (.cells L.toArray 36) = W at hb0 hs0 hx0 hF d0 d1 d2 d3 ⊢
  refine hF.mono ?_
  rintro _ w1 ⟨rfl, hb⟩
  have hb1 : Below w.heap.size w w1 := hb0.trans (hb.mono (by omega))
  have hH1 := HH.out.below hb1
  have hx1 := (hb.block w.heap.size (by omega)).trans hx0
  clear d0 d1 d2 d3 e0 e1 e2 e3 hF
  cases hfm : formedB n m C with
  | false =>
    exact absurd hyes (by unfold wrE wrOk; rw [hfm]; simp)
  | true =>
    have d0 := hH1.bx.c0
    have d1 := hH1.bx.c1
    have d2 := hH1.bx.c2
    have d3 := hH1.bx.c3
    dsimp only
    go_wp2_with fail
    refine (there_any sa ca n sc m cc f a d w1 h47.1).mono ?_
    rintro _ w2 ⟨rfl, hb2⟩
    have hb3 : Below w.heap.size w w2 := hb1.trans (hb2.mono hb1.size)
    have hH2 := HH.out.below hb3
    have hx2 := (hb2.block w.heap.size (Array.getElem?_eq_some_iff.1 hx1).1).trans hx1
    clear d0 d1 d2 d3 hH1 hb2
    cases hha : hasB n a with
    | false =>
      exact absurd hyes (by unfold wrE wrOk; rw [hfm, hha]; simp)
    | true =>
      have hok : wrOk n m C a = true := by unfold wrOk; rw [hfm, hha]; rfl
      obtain ⟨hn, _⟩ := formed_n hfm
      obtain ⟨ha0, ha1⟩ := hasB_nat hha
      obtain ⟨p, rfl⟩ : ∃ p : Nat, a = p := ⟨a.toNat, by omega⟩
      have hpn : p < n := by omega
      dsimp only
      go_wp2_with fail
      refine (refact_any g (.slice sa n sc) (.slice ca m cc) f d w2 hH2.bx hf).mono ?_
      rintro _ w3 ⟨rfl, hg3, hbx3⟩
      have hH3 := hH2.turn hg3 hbx3
      have hO := only_trans (only_below hb3) hg3
      have hend : actE f d = 0 → (S p).noWrite = false → ∀ (e : Ending) (w' : World), Turns w g 0 n (m + 1) S (updC C m ⟨p, D⟩) (actF f d) (actD f d) e w' → Writes w g n m S C f d (p : Int) D e w' := fun h0 hs e w' h => writes_ok hok h0 (by rw [Int.toNat_natCast]; exact hs) h
      have hgood : actE f d = 0 ∧ (S p).noWrite = false := by
        unfold wrE at hyes
        rw [hok, Int.toNat_natCast] at hyes
        simp only [if_true] at hyes
        split at hyes
        · rename_i h0
          refine ⟨h0, ?_⟩
          cases hs : (S p).noWrite with
          | false => rfl
          | true => rw [hs] at hyes; simp at hyes
        · omega
      have HE := Lib.hid (hend hgood.1 hgood.2)
      have hnw := hgood.2
      have he0 := hgood.1
      have hx3 := (hg3.block w.heap.size (Array.getElem?_eq_some_iff.1 hx2).1 (by simp; omega)).trans hx2
      clear hb3 hH2 hg3 hbx3 hyes hok hend hgood hx1 hx2 hx0
      generalize actF f d = fa at hH3 HE
      generalize actD f d = da at hH3 HE
      rw [he0]
      clear he0
      obtain ⟨b, off, rfl, hbl, _, hrow⟩ := hH3.ss.rows.resolve_left (by omega)
      have c0 := hH3.bx.c0
      have k1 := hH3.bx.c1
      have kf1 := hH3.bx.fr 1
      have hgB := hH3.bx.lt
      have cN : w3.cell? ⟨b, off + p * 130 + 129, none⟩ = some (.bool false) := hnw ▸ hrow p hpn 129 _ (secV_write _)
      have hp1 : (p : Int) < (n : Int) := by omega
      have hn47 : n ≤ 140737488355328 := by omega
      have hrg : w3.rangeAt w.heap.size 0 L := fun j v hv => by rw [cell_of_row w3 w.heap.size _ _ _ _ hx3, Nat.zero_add]; simpa using hv
      have hxB : w.heap.size < w3.heap.size := (Array.getElem?_eq_some_iff.1 hx3).1
      clear hrow
      dsimp only
      go_wp2_with fail
      obtain rfl := HL.out
      refine QuietTail.regionInv (n := 12) (Inv := RInv _ _ _ _ _ _ _ _ _ _ _ _ _ _ _ _ _ _ _ _ _ _ _ _ _ _ _ _ _ _ _ _ _ g w.heap.size p D ca m cc w3.heap.size (flat (fun i => wrV (C i)) m) w3) (by kernel_rfl) (by decide) (by kernel_rfl) ⟨_, _, _, _, _, _, _, _, _, _, _, _, rfl, by simp, by simp, by simp, by simp, by simp, by simp, by simp, by simp, by simp, by simp, by simp, by simp, ⟨rfl, rfl, rfl, Nat.le_refl _, fun _ _ => rfl⟩, Nat.le_refl _, by simp⟩ ?step ?fin
      case step =>
        rintro i o hi ho L a w' ⟨u0, u1, u2, u3, u4, u5, u6, u7, u8, u9, u10, u11, rfl, i0, i1, i2, i3, i4, i5, i6, i7, i8, i9, i10, i11, iB, iS, iN⟩ hL hpre
        have hxr := hrg
        have hg1 := k1
        generalize hxb : w.heap.size = xb at hxr hxB ⊢
        match i, hi with
          | 0, _ =>
            simp at ho
            subst ho
            go_simp
            exact ⟨_, u1, u2, u3, u4, u5, u6, u7, u8, u9, u10, u11, rfl, fun _ => rfl, keepL i1 rfl, keepL i2 rfl, keepL i3 rfl, keepL i4 rfl, keepL i5 rfl, keepL i6 rfl, keepL i7 rfl, keepL i8 rfl, keepL i9 rfl, keepL i10 rfl, keepL i11 rfl, iB, iS, iN⟩
          | 1, _ =>
            simp at ho
            subst ho
            go_simp
            exact ⟨u0, _, u2, u3, u4, u5, u6, u7, u8, u9, u10, u11, rfl, keepL i0 rfl, fun _ => ⟨w'.heap.size, rfl, by simp, fun _ => World.ownsRow_lit w' #[] 0 iS (by decide) rfl⟩, keepL i2 rfl, keepL i3 rfl, keepL i4 rfl, keepL i5 rfl, keepL (fun h h11 => (i6 h h11).alloc _) rfl, keepL i7 rfl, keepL i8 rfl, keepL i9 rfl, keepL (fun h => by obtain ⟨gb, e, hl, h5⟩ := i10 h; exact ⟨gb, e, by simp; omega, fun h11 => (Below.heap_alloc _ _ _ hl).trans (h5 h11)⟩) rfl, keepL (fun h => by obtain ⟨h6, b5, c5, e, h5⟩ := i11 h; exact ⟨h6, b5, c5, e, h5.alloc _⟩) rfl, iB.alloc iS _, by simp; omega, fun _ h10 _ eb gb e1 e2 => by
              obtain ⟨gb', e3, hl, _⟩ := i10 h10
              rw [e2] at e3
              injection e1 with e1 _ _
              injection e1 with e1
              injection e1 with e1 _ _
              injection e3 with e3 _ _
              injection e3 with e3
              injection e3 with e3 _ _
              omega⟩
          | 2, _ =>
            simp at ho
            subst ho
            go_simp
            exact ⟨u0, u1, _, u3, u4, u5, u6, u7, u8, u9, u10, u11, rfl, keepL i0 rfl, keepL i1 rfl, fun _ => rfl, keepL i3 rfl, keepL i4 rfl, keepL i5 rfl, keepL i6 rfl, keepL i7 rfl, keepL i8 rfl, keepL i9 rfl, keepL i10 rfl, keepL i11 rfl, iB, iS, iN⟩
          | 3, _ =>
            simp at ho
            subst ho
            obtain rfl := i2 (hpre 2 (by kernel_rfl))
            go_simp
            exact ⟨u0, u1, _, _, u4, u5, u6, u7, u8, u9, u10, u11, rfl, keepL i0 rfl, keepL i1 rfl, fun _ => rfl, fun _ => rfl, keepL i4 rfl, keepL i5 rfl, keepL i6 rfl, keepL i7 rfl, keepL i8 rfl, keepL i9 rfl, keepL i10 rfl, keepL i11 rfl, iB, iS, iN⟩
          | 4, _ =>
            simp at ho
            subst ho
            obtain rfl := i3 (hpre 3 (by kernel_rfl))
            go_simp
            exact ⟨u0, u1, u2, _, _, u5, u6, u7, u8, u9, u10, u11, rfl, keepL i0 rfl, keepL i1 rfl, keepL i2 rfl, fun _ => rfl, fun _ => rfl, keepL i5 rfl, keepL i6 rfl, keepL i7 rfl, keepL i8 rfl, keepL i9 rfl, keepL i10 rfl, keepL i11 rfl, iB, iS, iN⟩
          | 5, _ =>
            simp at ho
            subst ho
            obtain rfl := i4 (hpre 4 (by kernel_rfl))
            have k1 := (iB.cell (p := ⟨g, 1, none⟩) hgB).trans hg1
            go_simp
            exact ⟨u0, u1, u2, u3, _, _, u6, u7, u8, u9, u10, u11, rfl, keepL i0 rfl, keepL i1 rfl, keepL i2 rfl, keepL i3 rfl, fun _ => rfl, fun _ => rfl, keepL i6 rfl, keepL i7 rfl, keepL i8 rfl, keepL i9 rfl, keepL i10 rfl, keepL i11 rfl, iB, iS, iN⟩
          | 6, _ =>
            simp at ho
            subst ho
            obtain rfl := i5 (hpre 5 (by kernel_rfl))
            obtain ⟨eb, rfl, hel, heo⟩ := i1 (hpre 1 (by kernel_rfl))
            have hcw := heo hL
            obtain ⟨i0', hi', hz0, hz1, hz2⟩ := info_parts info_wr
            refine wp_append_lay (.tmp 35) (.tmp 39) 23 70 i0' _ 129 136 rfl slice_wr hi' hz0 hz1 hz2 (wr_size wr0) (by omega) w3.heap.size _ [] 0 rfl hcw w3.heap.size g ca m cc (fun i => wrV (C i)) rfl (hH3.cs.below iB) (fun i _ => wrV_length _) (fun i _ => wrV_one _) (maxLen_ge (by omega)) (by omega) iS ?_
            intro v6 w6 h6 hg6
            have hsz6 := hg6.size
            have hb6 : Below w3.heap.size w3 w6 := iB.grown hg6 iS (fun k hk => (hcw.lt k hk).1)
            exact ⟨u0, _, u2, u3, u4, _, _, u7, u8, u9, u10, u11, rfl, keepL i0 rfl, fun _ => ⟨eb, rfl, by omega, fun h => by simp at h⟩, keepL i2 rfl, keepL i3 rfl, keepL i4 rfl, fun _ => rfl, fun _ _ => by simpa using h6, keepL i7 rfl, keepL i8 rfl, keepL i9 rfl, keepL (fun h => by
              obtain ⟨gb, e, hl, h5⟩ := i10 h
              have hne := iN (hpre 1 (by kernel_rfl)) h hL eb gb rfl e
              exact ⟨gb, e, by omega, fun h11 => (hg6.block gb hl (by intro hk; injection hk with hk; exact hne hk.symm)).trans (h5 h11)⟩) rfl, keepL (fun h => by obtain ⟨h6', _⟩ := i11 h; rw [hL] at h6'; cases h6') rfl, hb6, by omega, fun _ _ h => by simp at h⟩
          | 7, _ =>
            simp at ho
            subst ho
            go_simp
            exact ⟨u0, u1, u2, u3, u4, u5, u6, _, u8, u9, u10, u11, rfl, keepL i0 rfl, keepL i1 rfl, keepL i2 rfl, keepL i3 rfl, keepL i4 rfl, keepL i5 rfl, keepL i6 rfl, fun _ => rfl, keepL i8 rfl, keepL i9 rfl, keepL i10 rfl, keepL i11 rfl, iB, iS, iN⟩
          | 8, _ =>
            simp at ho
            subst ho
            have hrg : w'.rangeAt xb 0 (bl D) := fun j v hv => (iB.cell (p := ⟨xb, 0 + j, none⟩) hxB).trans (hxr j v hv)
            refine wp_load_mid 36 (.tmp 5) rfl xb 0 rfl (bl D) _ hrg und29 rfl (size_bl D) ?_
            exact ⟨u0, u1, u2, u3, u4, u5, u6, u7, _, u9, u10, u11, rfl, keepL i0 rfl, keepL i1 rfl, keepL i2 rfl, keepL i3 rfl, keepL i4 rfl, keepL i5 rfl, keepL i6 rfl, keepL i7 rfl, fun _ => rfl, keepL i9 rfl, keepL i10 rfl, keepL i11 rfl, iB, iS, iN⟩
          | 9, _ =>
            simp at ho
            subst ho
            obtain rfl := i7 (hpre 7 (by kernel_rfl))
            obtain rfl := i8 (hpre 8 (by kernel_rfl))
            refine wp_build65 p D (.tmp 41) (.tmp 42) rfl rfl rfl ?_
            exact ⟨u0, u1, u2, u3, u4, u5, u6, _, _, _, u10, u11, rfl, keepL i0 rfl, keepL i1 rfl, keepL i2 rfl, keepL i3 rfl, keepL i4 rfl, keepL i5 rfl, keepL i6 rfl, fun _ => rfl, fun _ => rfl, fun _ => rfl, keepL i10 rfl, keepL i11 rfl, iB, iS, iN⟩
          | 10, _ =>
            simp at ho
            subst ho
            obtain rfl := i9 (hpre 9 (by kernel_rfl))
            refine wp_bslice65 p D (.tmp 43) rfl rfl ?_
            exact ⟨u0, u1, u2, u3, u4, u5, u6, u7, u8, _, _, u11, rfl, keepL i0 rfl, keepL (fun h => by obtain ⟨eb, e, hl, h5⟩ := i1 h; exact ⟨eb, e, by simp; omega, fun h6 => (h5 h6).alloc _⟩) rfl, keepL i2 rfl, keepL i3 rfl, keepL i4 rfl, keepL i5 rfl, keepL (fun h h11 => (i6 h h11).alloc _) rfl, keepL i7 rfl, keepL i8 rfl, fun _ => rfl, fun _ => ⟨w'.heap.size, rfl, by simp, fun _ => heap_alloc_new _ _⟩, keepL (fun h => by obtain ⟨h6, b5, c5, e, h5⟩ := i11 h; exact ⟨h6, b5, c5, e, h5.alloc _⟩) rfl, iB.alloc iS _, by simp; omega, fun h1 _ _ eb gb e1 e2 => by
              obtain ⟨eb', e3, hl, _⟩ := i1 h1
              rw [e1] at e3
              injection e2 with e2 _ _
              injection e2 with e2
              injection e2 with e2 _ _
              injection e3 with e3 _ _
              injection e3 with e3
              injection e3 with e3 _ _
              omega⟩
          | 11, _ =>
            simp at ho
            subst ho
            have h6t := hpre 6 (by kernel_rfl)
            have hcw := i6 h6t hL
            obtain ⟨gb, rfl, hgl, hgb⟩ := i10 (hpre 10 (by kernel_rfl))
            have hgb' := hgb hL
            obtain ⟨i0', hi', hz0, hz1, hz2⟩ := info_parts info_wr
            refine wp_append_lies w' (.tmp 40) (.tmp 44) 23 rfl w3.heap.size 70 i0' _ 129 136 slice_wr hi' hz0 hz1 hz2 (wr_size wr0) (by omega) _ m _ rfl hcw ⟨gb, 0, none⟩ 1 1 (bw p D) rfl (wrV_length _) (World.news_of_block hgb') (wrV_one _) (by omega) (maxLen_ge (by omega)) hm1 iS _ rfl ?_
            intro b5 c5 w5 h5 hg5 _ hlt5
            have hsz5 := hg5.size
            have hb5 : Below w3.heap.size w3 w5 := iB.grown hg5 iS (fun k hk => (hcw.lt k hk).1)
            exact ⟨u0, u1, u2, u3, u4, u5, _, u7, u8, u9, _, _, rfl, keepL i0 rfl, keepL (fun h => by obtain ⟨eb, e, hl, _⟩ := i1 h; exact ⟨eb, e, by omega, fun h6 => by simp [h6t] at h6⟩) rfl, keepL i2 rfl, keepL i3 rfl, keepL i4 rfl, keepL i5 rfl, fun _ h => by simp at h, keepL i7 rfl, keepL i8 rfl, keepL i9 rfl, fun _ => ⟨gb, rfl, by omega, fun h => by simp at h⟩, fun _ => ⟨by simp [h6t], b5, c5, rfl, h5⟩, hb5, by omega, fun _ _ h => by simp [h6t] at h⟩
          | i + 12, h => omega
      case fin =>
        rintro L a w' hall ⟨u0, u1, u2, u3, u4, u5, u6, u7, u8, u9, u10, u11, rfl, i0, i1, i2, i3, i4, i5, i6, i7, i8, i9, i10, i11, iB, iS, iN⟩
        obtain rfl := i0 (hall 0 (by omega))
        obtain ⟨_, b5, c5, rfl, h5⟩ := i11 (hall 11 (by omega))
        simp only [List.drop_succ_cons, List.drop_zero]
        have hbx := hH3.bx.block (iB.block g hgB)
        have q1 := hbx.c1
        have qf := hbx.fr 1
        have hgw' := hbx.lt
        go_wp2_with fail
        go_ret
        have hb5 := h5.lt
        refine HE.out _ _ ⟨rfl, only_trans (only_trans hO (only_below iB)) (only_put _ _ _ _), some ⟨b, off, none⟩, sc, some ⟨b5, 0, none⟩, c5, hbx.s1 _, ?_, ?_, nb, by omega⟩
        · exact ((hH3.ss.below iB).grown (only_put _ _ _ _) iS).more (by rw [World.size_setCell]; exact iS)
        · have h6 : w'.ownsRow w3.heap.size 70 129 (.slice (some ⟨b5, 0, none⟩) (m + 1) c5) (m + 1) (flat (fun i => wrV (updC C m ⟨p, D⟩ i)) (m + 1)) := by rw [flat_updC]; exact h5
          have := lay_own (g := g) (fun i _ => wrV_length _) (owns_put h6 hgB 1 (.slice (some ⟨b5, 0, none⟩) (m + 1) c5)) (.inl hgB)
          simpa using this

theorem refwrite_any (g : Nat) (sa ca : Option Addr) (n sc m cc : Nat) (S : Nat → Sec) (C : Nat → Wr) (f : Int) (d : Bool) (a : Int) (D : Nat → Int) (w : World) (h : Has w g sa ca n sc m cc S C f d) (hf : -9223372036854775808 ≤ f ∧ f ≤ 9223372036854775807) (hm1 : (m + 1) * 136 ≤ 140737488355328) :
    Calls Tryz.prog 78 #[.pointer (some ⟨g, 0, none⟩), .int .i64 a, .agg (bl D).toArray] w (Writes w g n m S C f d a D) := by
  by_cases h0 : wrE n m S C f d a = 0
  · exact refwrite_yes g sa ca n sc m cc S C f d a D w h hf hm1 h0
  · exact refwrite_no g sa ca n sc m cc S C f d a D w h hf h0
end Dk
end Go.Proofs.YtllejfnmbpjhaaaGreatDoor
