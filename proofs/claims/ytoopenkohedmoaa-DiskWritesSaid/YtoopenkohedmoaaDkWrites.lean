/- disk: the law of Write, walked. -/
import Derived.Test.YtoopenkohedmoaaDkRefWrite2
import Derived.Test.YtoopenkohedmoaaDkLaws
namespace Go.Proofs.Ytoopenkohedmoaa
namespace Dk
open Go.RowKit

theorem row_range {w : World} {b : Nat} {l : List Value} {t : TypeId} {fr : Nat × Nat} (h : w.heap[b]? = some (.cells l.toArray t fr)) : w.rangeAt b 0 l := fun j v hv => by
  rw [cell_of_row w b _ _ _ _ h]
  simpa using hv

def LInv (x0 x2 x3 x4 x6 x10 x11 x12 x13 x14 x15 x16 x17 x24 x25 x26 x27 x28 x29 x30 x31 : Value) (xb gx gy : Nat) (a : Int) (LL : List Value) (E : Int) (B : Nat) (w0 : World) (P0 P1 Q0 Q1 : World → Prop) (L : Nat → Bool) (a' : Act) (w' : World) : Prop :=
  ∃ u0 u1 u2 u3 u4 u5 u6, a' = { tmps := #[x0, .int .i64 a, x2, x3, x4, .pointer (some ⟨xb, 0, none⟩), x6, .pointer (some ⟨gx, 0, none⟩), .pointer (some ⟨gy, 0, none⟩), u6, x10, x11, x12, x13, x14, x15, x16, x17, u0, u1, u2, u3, u4, u5, x24, x25, x26, x27, x28, x29, x30, x31], defers := [] } ∧ (L 0 = true → u0 = .int .i64 a) ∧ (L 1 = true → u1 = .agg LL.toArray) ∧ (L 2 = true → u2 = .int .i64 E) ∧ (L 3 = true → u3 = .int .i64 a) ∧ (L 4 = true → u4 = .agg LL.toArray) ∧ (L 5 = true → u5 = .int .i64 E) ∧ (L 6 = true → u6 = .int .i64 E) ∧
    Below B w0 w' ∧ B ≤ w'.heap.size ∧ xb < w'.heap.size ∧ w'.rangeAt xb 0 LL ∧ (L 2 = false → P0 w') ∧ (L 2 = true → P1 w') ∧ (L 5 = false → Q0 w') ∧ (L 5 = true → Q1 w')

set_option maxRecDepth 100000 in
set_option maxHeartbeats 2000000 in
theorem lwrites_any (sa ca : Option Addr) (n sc m cc : Nat) (S : Nat → Sec) (C : Nat → Wr) (f : Int) (d : Bool) (a : Int) (D : Nat → Int) (w : World) (nb : n * 130 ≤ 140737488355328) (mb : m * 136 ≤ 140737488355328) (hm1 : (m + 1) * 136 ≤ 140737488355328) (hf : -9223372036854775808 ≤ f ∧ f ≤ 9223372036854775807)
    (hs : Lay w w.heap.size w.heap.size sa n sc 130 (fun i => secV (S i))) (hc : Lay w w.heap.size w.heap.size ca m cc 129 (fun i => wrV (C i))) :
    Calls Try.prog 4 #[.agg #[.slice sa n sc, .slice ca m cc, .int .i64 f, .bool d], .int .i64 a, .agg (bl D).toArray] w fun e w' => e = .returned (.bool true) ∧ Below w.heap.size w w' := by
  have HS := Lib.hid hs
  have HC := Lib.hid hc
  clear hs hc
  have HW1 := Lib.hid (fun (g : Nat) (sa ca : Option Addr) (sc cc : Nat) (w : World) (h : Has w g sa ca n sc m cc S C f d) => write_any g sa ca n sc m cc S C f d a D w h hf hm1)
  have HW2 := Lib.hid (fun (g : Nat) (sa ca : Option Addr) (sc cc : Nat) (w : World) (h : Has w g sa ca n sc m cc S C f d) => refwrite_any g sa ca n sc m cc S C f d a D w h hf hm1)
  have hl1 := bl_one D
  have hl2 := size_bl D
  have hl3 := bl_length D
  have und := und29
  generalize bl D = L at HW1 HW2 hl1 hl2 hl3 ⊢
  go_enter Try.func4, Try.ntmps4
  go_wp2_with fail
  generalize hW : (w.alloc (.cells #[.slice sa n sc, .slice ca m cc, .int .i64 f, .bool d] 25)).alloc (.cells L.toArray 29) = W
  have hb0 : Below w.heap.size w W := by rw [← hW]; exact ((Below.refl _ _).alloc (Nat.le_refl _) _).alloc (by simp) _
  have bx0 : Bx W w.heap.size (.slice sa n sc) (.slice ca m cc) (.int .i64 f) (.bool d) := by rw [← hW]; exact (Below.heap_alloc _ _ _ (by simp)).trans (heap_alloc_new w _)
  have hsW : W.heap.size = w.heap.size + 2 := by rw [← hW]; simp
  have hl0r : W.heap[w.heap.size + 1]? = some (.cells L.toArray 29 (0, 0)) := by
    rw [← hW]
    have := heap_alloc_new (w.alloc (.cells #[.slice sa n sc, .slice ca m cc, .int .i64 f, .bool d] 25)) (.cells L.toArray 29)
    rwa [World.size_alloc] at this
  clear hW
  refine (alive_any W).mono ?_
  rintro _ w1 ⟨rfl, hb1⟩
  have bx1 := bx0.below hb1
  have hsw1 := hb1.size
  have hl1r := (hb1.block (w.heap.size + 1) (by omega)).trans hl0r
  have hB1 : Below w.heap.size w w1 := hb0.trans (hb1.mono hb0.size)
  have d0 := bx1.c0
  have d1 := bx1.c1
  have d2 := bx1.c2
  have d3 := bx1.c3
  dsimp only
  go_wp2_with fail
  refine (twins_any sa ca n sc m cc w.heap.size S C f d w1 nb mb ((HS.out.below hB1).more hB1.size) ((HC.out.below hB1).more hB1.size)).mono ?_
  rintro _ w2 ⟨v1, v2, rfl, ⟨sa1, sc1, ca1, cc1, rfl, p1, q1⟩, ⟨sa2, sc2, ca2, cc2, rfl, p2, q2⟩, hb2⟩
  have hB2 : Below w.heap.size w w2 := hB1.trans (hb2.mono hB1.size)
  have hs2 := hB2.size
  have hsw2 := hb2.size
  have hl2r := (hb2.block (w.heap.size + 1) (by omega)).trans hl1r
  clear d0 d1 d2 d3 bx0 bx1 hb0 hb1 hl0r hl1r
  dsimp only
  obtain ⟨W3, hW3, r1, r2, hb3, hs3⟩ := two_boxes2 w2 #[.slice sa1 n sc1, .slice ca1 m cc1, .int .i64 f, .bool d] #[.slice sa2 n sc2, .slice ca2 m cc2, .int .i64 f, .bool d]
  have HW3 := Lib.hid hW3
  have hX := Copied.has p1 q1 hb3 (Nat.le_refl _) r1 nb mb
  have hY := Copied.has p2 q2 hb3 (by omega) r2 nb mb
  have hB3 : Below w.heap.size w W3 := hB2.trans (hb3.mono hB2.size)
  clear hW3 p1 q1 p2 q2
  go_wp2_with (first
    | (refine wpList_store_row rfl 25 (.tmp 7) (.tmp 16) rfl w2.heap.size #[.slice sa1 n sc1, .slice ca1 m cc1, .int .i64 f, .bool d] rfl rfl 25 _ ((Below.heap_alloc _ _ _ (by simp)).trans (heap_alloc_new w2 _)) (by kernel_rfl) rfl (disk_one _ _ _ _ _ _ _ _) ?_; simp only [Act.put])
    | (refine wpList_store_row rfl 25 (.tmp 8) (.tmp 17) rfl (w2.heap.size + 1) #[.slice sa2 n sc2, .slice ca2 m cc2, .int .i64 f, .bool d] rfl rfl 25 #[.slice none 0 0, .slice none 0 0, .int .i64 0, .bool false] (two_mid w2 _) (by kernel_rfl) rfl (disk_one _ _ _ _ _ _ _ _) ?_; simp only [Act.put]; rw [← HW3.out]))
  have hl3r := (hb3.block (w.heap.size + 1) (by omega)).trans hl2r
  have KEEP : Hid (∀ (v v' : World) (q : Nat), v.rangeAt (w.heap.size + 1) 0 L → v.grownBy v' (some q) → w.heap.size + 1 < v.heap.size → w.heap.size + 1 ≠ q → v'.rangeAt (w.heap.size + 1) 0 L) := Lib.hid (by
    intro v v' q h0 hg hs hq j u hu
    exact (World.cell?_of_block (w := v) (hg.block (w.heap.size + 1) hs (by simpa using hq))).trans (h0 j u hu))
  have hdr : Below W3.heap.size W3 W3.drew := ⟨rfl, rfl, rfl, Nat.le_refl _, fun _ _ => rfl⟩
  have l0 : W3.rangeAt (w.heap.size + 1) 0 L := row_range hl3r
  have HX := Lib.hid (hX.below hdr)
  have HY := Lib.hid (hY.below hdr)
  have R1 := Lib.hid r1
  clear hX hY hl3r hl2r r1 r2
  go_wp2_with fail
  refine QuietTail.regionInv (n := 7) (Inv := LInv _ _ _ _ _ _ _ _ _ _ _ _ _ _ _ _ _ _ _ _ _ (w.heap.size + 1) w2.heap.size (w2.heap.size + 1) a L (wrE n m S C f d a) w.heap.size w (fun w' => Has w' w2.heap.size sa1 ca1 n sc1 m cc1 S C f d) (fun w' => ∃ sa sc ca cc, Has w' w2.heap.size sa ca n sc (wrM n m S C f d a) cc S (wrC n m S C f d a D) (wrF n m C f d a) (wrD n m C f d a)) (fun w' => Has w' (w2.heap.size + 1) sa2 ca2 n sc2 m cc2 S C f d) (fun w' => ∃ sa sc ca cc, Has w' (w2.heap.size + 1) sa ca n sc (wrM n m S C f d a) cc S (wrC n m S C f d a D) (wrF n m C f d a) (wrD n m C f d a))) (by kernel_rfl) (by decide) (by kernel_rfl) ⟨_, _, _, _, _, _, _, rfl, by simp, by simp, by simp, by simp, by simp, by simp, by simp, hB3.trans (hdr.mono hB3.size), hB3.size, by show _ < W3.heap.size; omega, l0, fun _ => HX.out, by simp, fun _ => HY.out, by simp⟩ ?step ?fin
  case step =>
    rintro i o hi ho LL a' w' ⟨u0, u1, u2, u3, u4, u5, u6, rfl, i0, i1, i2, i3, i4, i5, i6, iB, iS, iX, iR, iP0, iP1, iQ0, iQ1⟩ hL hpre
    have hwe : w.heap.size ≤ w2.heap.size := hs2
    match i, hi with
    | 0, _ =>
      simp at ho
      subst ho
      go_simp
      exact ⟨_, u1, u2, u3, u4, u5, u6, rfl, fun _ => rfl, keepL i1 rfl, keepL i2 rfl, keepL i3 rfl, keepL i4 rfl, keepL i5 rfl, keepL i6 rfl, iB, iS, iX, iR, keepL' iP0 rfl, keepL iP1 rfl, keepL' iQ0 rfl, keepL iQ1 rfl⟩
    | 3, _ =>
      simp at ho
      subst ho
      go_simp
      exact ⟨u0, u1, u2, _, u4, u5, u6, rfl, keepL i0 rfl, keepL i1 rfl, keepL i2 rfl, fun _ => rfl, keepL i4 rfl, keepL i5 rfl, keepL i6 rfl, iB, iS, iX, iR, keepL' iP0 rfl, keepL iP1 rfl, keepL' iQ0 rfl, keepL iQ1 rfl⟩
    | 1, _ =>
      simp at ho
      subst ho
      refine wp_load_mid 29 (.tmp 5) rfl (w.heap.size + 1) 0 rfl L _ iR und rfl hl2 ?_
      exact ⟨u0, _, u2, u3, u4, u5, u6, rfl, keepL i0 rfl, fun _ => rfl, keepL i2 rfl, keepL i3 rfl, keepL i4 rfl, keepL i5 rfl, keepL i6 rfl, iB, iS, iX, iR, keepL' iP0 rfl, keepL iP1 rfl, keepL' iQ0 rfl, keepL iQ1 rfl⟩
    | 4, _ =>
      simp at ho
      subst ho
      refine wp_load_mid 29 (.tmp 5) rfl (w.heap.size + 1) 0 rfl L _ iR und rfl hl2 ?_
      exact ⟨u0, u1, u2, u3, _, u5, u6, rfl, keepL i0 rfl, keepL i1 rfl, keepL i2 rfl, keepL i3 rfl, fun _ => rfl, keepL i5 rfl, keepL i6 rfl, iB, iS, iX, iR, keepL' iP0 rfl, keepL iP1 rfl, keepL' iQ0 rfl, keepL iQ1 rfl⟩
    | 2, _ =>
      simp at ho
      subst ho
      obtain rfl := i0 (hpre 0 (by kernel_rfl))
      obtain rfl := i1 (hpre 1 (by kernel_rfl))
      have hP := iP0 hL
      go_simp
      refine (HW1.out w2.heap.size sa1 ca1 sc1 cc1 w' hP).mono ?_
      rintro _ w'' ⟨rfl, hg, hP1⟩
      have hrow : w''.rangeAt (w.heap.size + 1) 0 L := fun j u hu => (World.cell?_of_block (w := w') (hg.block (w.heap.size + 1) iX (by simp; omega))).trans (iR j u hu)
      have hsz := hg.size
      have hBn : Below w.heap.size w w'' := iB.grown hg iS (fun k hk => by injection hk with hk; omega)
      exact ⟨_, _, _, u3, u4, u5, u6, rfl, fun _ => rfl, fun _ => rfl, fun _ => rfl, keepL i3 rfl, keepL i4 rfl, keepL i5 rfl, keepL i6 rfl, hBn, by omega, by omega, hrow, fun h => by simp at h, fun _ => hP1, keepL' (fun h => (iQ0 h).apart hP.bx rfl (by omega) hg) rfl, keepL (fun h => by obtain ⟨b1, b2, b3, b4, h4⟩ := iQ1 h; exact ⟨b1, b2, b3, b4, h4.apart hP.bx rfl (by omega) hg⟩) rfl⟩
    | 5, _ =>
      simp at ho
      subst ho
      obtain rfl := i3 (hpre 3 (by kernel_rfl))
      obtain rfl := i4 (hpre 4 (by kernel_rfl))
      have hQ := iQ0 hL
      have h2t := hpre 2 (by kernel_rfl)
      obtain rfl := i2 h2t
      go_simp
      refine (HW2.out (w2.heap.size + 1) sa2 ca2 sc2 cc2 w' hQ).mono ?_
      rintro _ w'' ⟨rfl, hg, hQ1⟩
      have hrow : w''.rangeAt (w.heap.size + 1) 0 L := fun j u hu => (World.cell?_of_block (w := w') (hg.block (w.heap.size + 1) iX (by simp; omega))).trans (iR j u hu)
      have hsz := hg.size
      have hBn : Below w.heap.size w w'' := iB.grown hg iS (fun k hk => by injection hk with hk; omega)
      exact ⟨u0, u1, _, _, _, _, u6, rfl, keepL i0 rfl, keepL i1 rfl, fun _ => rfl, fun _ => rfl, fun _ => rfl, fun _ => rfl, keepL i6 rfl, hBn, by omega, by omega, hrow, keepL' (fun h => by rw [h2t] at h; cases h) rfl, keepL (fun h => by obtain ⟨b1, b2, b3, b4, h4⟩ := iP1 h; exact ⟨b1, b2, b3, b4, h4.apart hQ.bx rfl (by omega) hg⟩) rfl, fun h => by simp at h, fun _ => hQ1⟩
    | 6, _ =>
      simp at ho
      subst ho
      obtain rfl := i2 (hpre 2 (by kernel_rfl))
      go_simp
      exact ⟨u0, u1, _, u3, u4, u5, _, rfl, keepL i0 rfl, keepL i1 rfl, fun _ => rfl, keepL i3 rfl, keepL i4 rfl, keepL i5 rfl, fun _ => rfl, iB, iS, iX, iR, keepL' iP0 rfl, keepL iP1 rfl, keepL' iQ0 rfl, keepL iQ1 rfl⟩
    | i + 7, h => omega
  case fin =>
   rintro LL a' w5 hall ⟨u0, u1, u2, u3, u4, u5, u6, rfl, i0, i1, i2, i3, i4, i5, i6, hB5, iS, iX, iR, iP0, iP1, iQ0, iQ1⟩
   obtain rfl := i2 (hall 2 (by omega))
   obtain rfl := i5 (hall 5 (by omega))
   obtain rfl := i6 (hall 6 (by omega))
   obtain ⟨sa4, sc4, ca4, cc4, hX5⟩ := iP1 (hall 2 (by omega))
   obtain ⟨sa5, sc5, ca5, cc5, hY5⟩ := iQ1 (hall 5 (by omega))
   simp only [List.drop_succ_cons, List.drop_zero]
   clear i0 i1 i3 i4 iP0 iP1 iQ0 iQ1 KEEP l0 hall HW1 HW2
   have x0 := hX5.bx.c0
   have x1 := hX5.bx.c1
   have x2 := hX5.bx.c2
   have x3 := hX5.bx.c3
   have y0 := hY5.bx.c0
   have y1 := hY5.bx.c1
   have y2 := hY5.bx.c2
   have y3 := hY5.bx.c3
   have hsame := same_any sa4 ca4 sa5 ca5 n sc4 _ cc4 sc5 cc5 _ _ _ (wrC n m S C f d a D) (wrF n m C f d a) (wrD n m C f d a) w5 hX5.n47.1 hX5.n47.2 hX5.ss hX5.cs hY5.ss hY5.cs
   clear hX5 hY5
   generalize wrE n m S C f d a = E
   go_wp2_with fail
   refine hsame.mono ?_
   rintro _ w6 ⟨rfl, hb6⟩
   dsimp only
   go_wp2_with fail
   go_ret
   exact ⟨rfl, hB5.trans (hb6.mono hB5.size)⟩

end Dk
end Go.Proofs.Ytoopenkohedmoaa
