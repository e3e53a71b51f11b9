/- disk: the law of Hit, walked. -/
import Derived.Test.YtoopenkohedmoaaDkHit3
import Derived.Test.YtoopenkohedmoaaDkLaws
namespace Go.Proofs.Ytoopenkohedmoaa
namespace Dk
open Go.RowKit

set_option maxRecDepth 100000 in
set_option maxHeartbeats 2000000 in
theorem lhits_any (sa ca : Option Addr) (n sc m cc : Nat) (S : Nat → Sec) (C : Nat → Wr) (f : Int) (d : Bool) (a k p y : Int) (w : World) (nb : n * 130 ≤ 140737488355328) (mb : m * 136 ≤ 140737488355328)
    (hs : Lay w w.heap.size w.heap.size sa n sc 130 (fun i => secV (S i))) (hc : Lay w w.heap.size w.heap.size ca m cc 129 (fun i => wrV (C i))) :
    Calls Try.prog 7 #[.agg #[.slice sa n sc, .slice ca m cc, .int .i64 f, .bool d], .agg #[.int .i64 a, .int .i64 k, .int .i64 p, .int .u8 y]] w fun e w' => e = .returned (.bool true) ∧ Below w.heap.size w w' := by
  have HS := Lib.hid hs
  have HC := Lib.hid hc
  clear hs hc
  go_enter Try.func7, Try.ntmps7
  go_wp2_with fail
  generalize hW : (w.alloc (.cells #[.slice sa n sc, .slice ca m cc, .int .i64 f, .bool d] 25)).alloc (.cells #[.int .i64 a, .int .i64 k, .int .i64 p, .int .u8 y] 49) = W
  have hb0 : Below w.heap.size w W := by rw [← hW]; exact ((Below.refl _ _).alloc (Nat.le_refl _) _).alloc (by simp) _
  have bx0 : Bx W w.heap.size (.slice sa n sc) (.slice ca m cc) (.int .i64 f) (.bool d) := by rw [← hW]; exact (Below.heap_alloc _ _ _ (by simp)).trans (heap_alloc_new w _)
  have hsW : W.heap.size = w.heap.size + 2 := by rw [← hW]; simp
  have hl0 : W.heap[w.heap.size + 1]? = some (.cells #[.int .i64 a, .int .i64 k, .int .i64 p, .int .u8 y] 49 (0, 0)) := by
    rw [← hW]
    have := heap_alloc_new (w.alloc (.cells #[.slice sa n sc, .slice ca m cc, .int .i64 f, .bool d] 25)) (.cells #[.int .i64 a, .int .i64 k, .int .i64 p, .int .u8 y] 49)
    rwa [World.size_alloc] at this
  clear hW
  refine (alive_any W).mono ?_
  rintro _ w1 ⟨rfl, hb1⟩
  have bx1 := bx0.below hb1
  have hsw1 := hb1.size
  have hl1 := (hb1.block (w.heap.size + 1) (by omega)).trans hl0
  have hB1 : Below w.heap.size w w1 := hb0.trans (hb1.mono hb0.size)
  have d0 := bx1.c0
  have d1 := bx1.c1
  have d2 := bx1.c2
  have d3 := bx1.c3
  dsimp only
  go_wp2_with fail
  refine (twins_any sa ca n sc m cc w.heap.size S C f d w1 nb mb ((HS.out.below hB1).more hB1.size) ((HC.out.below hB1).more hB1.size)).mono ?_
  rintro _ w2 ⟨v1, v2, rfl, ⟨sa1, sc1, ca1, cc1, rfl, p1, q1⟩, ⟨sa2, sc2, ca2, cc2, rfl, p2, q2⟩, hb2⟩
  have hB2 : Below w.heap.size w w2 := hB1.trans (hb2.mono hB1.size)
  have hs2 := hB2.size
  have hsw2 := hb2.size
  have hl2 := (hb2.block (w.heap.size + 1) (by omega)).trans hl1
  clear d0 d1 d2 d3 bx0 bx1 hb0 hb1 hl0 hl1
  dsimp only
  obtain ⟨W3, hW3, r1, r2, hb3, hs3⟩ := two_boxes2 w2 #[.slice sa1 n sc1, .slice ca1 m cc1, .int .i64 f, .bool d] #[.slice sa2 n sc2, .slice ca2 m cc2, .int .i64 f, .bool d]
  have HW3 := Lib.hid hW3
  have hX := Copied.has p1 q1 hb3 (Nat.le_refl _) r1 nb mb
  have hY := Copied.has p2 q2 hb3 (by omega) r2 nb mb
  have hB3 : Below w.heap.size w W3 := hB2.trans (hb3.mono hB2.size)
  clear hW3 p1 q1 p2 q2
  go_wp2_with (first
    | (refine wpList_store_row rfl 25 (.tmp 5) (.tmp 14) rfl w2.heap.size #[.slice sa1 n sc1, .slice ca1 m cc1, .int .i64 f, .bool d] rfl rfl 25 _ ((Below.heap_alloc _ _ _ (by simp)).trans (heap_alloc_new w2 _)) (by kernel_rfl) rfl (disk_one _ _ _ _ _ _ _ _) ?_; simp only [Act.put])
    | (refine wpList_store_row rfl 25 (.tmp 6) (.tmp 15) rfl (w2.heap.size + 1) #[.slice sa2 n sc2, .slice ca2 m cc2, .int .i64 f, .bool d] rfl rfl 25 #[.slice none 0 0, .slice none 0 0, .int .i64 0, .bool false] (two_mid w2 _) (by kernel_rfl) rfl (disk_one _ _ _ _ _ _ _ _) ?_; simp only [Act.put]; rw [← HW3.out]))
  have hl3 := (hb3.block (w.heap.size + 1) (by omega)).trans hl2
  have KEEP : Hid (∀ (v v' : World) (q : Nat), (v.cell? ⟨w.heap.size + 1, 0, none⟩ = some (.int .i64 a) ∧ v.cell? ⟨w.heap.size + 1, 1, none⟩ = some (.int .i64 k) ∧ v.cell? ⟨w.heap.size + 1, 2, none⟩ = some (.int .i64 p) ∧ v.cell? ⟨w.heap.size + 1, 3, none⟩ = some (.int .u8 y)) → v.grownBy v' (some q) → w.heap.size + 1 < v.heap.size → w.heap.size + 1 ≠ q → (v'.cell? ⟨w.heap.size + 1, 0, none⟩ = some (.int .i64 a) ∧ v'.cell? ⟨w.heap.size + 1, 1, none⟩ = some (.int .i64 k) ∧ v'.cell? ⟨w.heap.size + 1, 2, none⟩ = some (.int .i64 p) ∧ v'.cell? ⟨w.heap.size + 1, 3, none⟩ = some (.int .u8 y))) := Lib.hid (by
    rintro v v' q ⟨h0, h1, h2, h3⟩ hg hs hq
    have hbk := hg.block (w.heap.size + 1) hs (by simpa using hq)
    exact ⟨(World.cell?_of_block (w := v) hbk).trans h0, (World.cell?_of_block (w := v) hbk).trans h1, (World.cell?_of_block (w := v) hbk).trans h2, (World.cell?_of_block (w := v) hbk).trans h3⟩)
  have hdr : Below W3.heap.size W3 W3.drew := ⟨rfl, rfl, rfl, Nat.le_refl _, fun _ _ => rfl⟩
  have l0 : W3.cell? ⟨w.heap.size + 1, 0, none⟩ = some (.int .i64 a) := by rw [cell_of_row W3 _ 0 _ _ _ hl3]; rfl
  have l1 : W3.cell? ⟨w.heap.size + 1, 1, none⟩ = some (.int .i64 k) := by rw [cell_of_row W3 _ 1 _ _ _ hl3]; rfl
  have l2 : W3.cell? ⟨w.heap.size + 1, 2, none⟩ = some (.int .i64 p) := by rw [cell_of_row W3 _ 2 _ _ _ hl3]; rfl
  have l3 : W3.cell? ⟨w.heap.size + 1, 3, none⟩ = some (.int .u8 y) := by rw [cell_of_row W3 _ 3 _ _ _ hl3]; rfl
  have HX := Lib.hid (hX.below hdr)
  have HY := Lib.hid (hY.below hdr)
  have R1 := Lib.hid r1
  clear hX hY hl3 hl2 r1 r2
  go_wp2_with fail
  go_region_held3 (fun w' => w'.cell? ⟨w.heap.size + 1, 0, none⟩ = some (.int .i64 a) ∧ w'.cell? ⟨w.heap.size + 1, 1, none⟩ = some (.int .i64 k) ∧ w'.cell? ⟨w.heap.size + 1, 2, none⟩ = some (.int .i64 p) ∧ w'.cell? ⟨w.heap.size + 1, 3, none⟩ = some (.int .u8 y))
    (first
      | go_keep
      | exact KEEP.out w4 w5 _ (by assumption) hg5 (by omega) (by omega)
      | exact KEEP.out W3.drew w4 _ ⟨l0, l1, l2, l3⟩ hg4 (by show _ < W3.heap.size; omega) (by omega))
    (first
      | ((go_at_call 26; refine (hit_any w2.heap.size sa1 ca1 n sc1 m cc1 S C f d a k p y _ (by exact HX.out)).mono ?_; rintro _ w4 ⟨rfl, hg4, sa4, sc4, ca4, cc4, hX4⟩; have hs4 := hg4.size; have hY4 := HY.out.apart (by exact R1.out) rfl (by omega) hg4; simp only [World.size_drew] at hs4))
      | ((go_at_call 27; refine (refhit_any (w2.heap.size + 1) sa2 ca2 n sc2 m cc2 S C f d a k p y _ (by exact hY4)).mono ?_; rintro _ w5 ⟨rfl, hg5, sa5, sc5, ca5, cc5, hY5⟩)))
  have hB4 : Below w.heap.size w w4 := (hB3.trans (hdr.mono hB3.size)).grown hg4 hB3.size (fun k hk => by injection hk with hk; omega)
  have hX5 := hX4.apart hY4.bx rfl (by omega) hg5
  have hB5 : Below w.heap.size w w5 := hB4.grown hg5 hB4.size (fun k hk => by injection hk with hk; omega)
  clear hX4 hY4 hg4 hg5 hB3 hB4 KEEP l0 l1 l2 l3
  have x0 := hX5.bx.c0
  have x1 := hX5.bx.c1
  have x2 := hX5.bx.c2
  have x3 := hX5.bx.c3
  have y0 := hY5.bx.c0
  have y1 := hY5.bx.c1
  have y2 := hY5.bx.c2
  have y3 := hY5.bx.c3
  have hsame := same_any sa4 ca4 sa5 ca5 n sc4 _ cc4 sc5 cc5 _ _ _ C f d w5 hX5.n47.1 hX5.n47.2 hX5.ss hX5.cs hY5.ss hY5.cs
  clear hX5 hY5
  generalize hitE n m C a k p = E
  go_wp2_with fail
  refine hsame.mono ?_
  rintro _ w6 ⟨rfl, hb6⟩
  dsimp only
  go_wp2_with fail
  go_ret
  exact ⟨rfl, hB5.trans (hb6.mono hB5.size)⟩


end Dk
end Go.Proofs.Ytoopenkohedmoaa
