import Derived.Test.YtllejfnmbpjhaaaGreatDoorDiLaw
import Derived.BigRegion
import Derived.Test.YtllejfnmbpjhaaaGreatDoorDiNums
import Derived.Laws.BitsAllLaws
/- ditto: the fresh disk of the laws. -/
namespace Go.Proofs.YtllejfnmbpjhaaaGreatDoor
set_option maxRecDepth 20000
namespace Di
open Go.RowKit Dk Byt Eqb Rm

attribute [local go_sem] zv29
attribute [local go_sem] Pt.zvP
attribute [local go_sem] zc29
theorem has_only {w w' : World} {g B : Nat} {sa ca : Option Addr} {n sc m cc : Nat} {S : Nat → Sec} {C : Nat → Wr} {f : Int} {d : Bool} (h : Has w g sa ca n sc m cc S C f d) {cur : Array Value} {t : TypeId} {fr : Nat × Nat} (hB : w.heap[B]? = some (.cells cur t fr)) (hc : cur.size ≤ 4) (hne : g ≠ B) (hg : w.grownBy w' (some B)) : Has w' g sa ca n sc m cc S C f d :=
  h.only hB (.inr hc) hne hg
abbrev zD : Array Value := #[.slice none 0 0, .slice none 0 0, .int .i64 0, .bool false]
abbrev zM : Array Value := #[.int .i64 0, .slice none 0 0]
/-- the answers, laid cell by cell -/
theorem fr_end {w W : World} {g b0 b1 : Nat} {sa ca : Option Addr} {sc cc : Nat} {S : Nat → Sec} {C : Nat → Wr} {f : Int} {d : Bool} (hB : Below w.heap.size w W) (hd : Has W g sa ca 60 sc 0 cc S C f d) (hz0 : W.heap[b0]? = some (.cells zD 25 (0, 0))) (hz1 : W.heap[b1]? = some (.cells zM 28 (0, 0)))
    (h0 : w.heap.size ≤ b0) (h1 : w.heap.size ≤ b1) (h01 : b0 ≠ b1) (hg0 : g ≠ b0) (hg1 : g ≠ b1) (v0 v1 v2 v3 u0 u1 : Value) : ∃ W', W' = (((((W.setCell ⟨b0, 0, none⟩ v0).setCell ⟨b0, 1, none⟩ v1).setCell ⟨b0, 2, none⟩ v2).setCell ⟨b0, 3, none⟩ v3).setCell ⟨b1, 0, none⟩ u0).setCell ⟨b1, 1, none⟩ u1 ∧
      Below w.heap.size w W' ∧ Has W' g sa ca 60 sc 0 cc S C f d ∧ W'.heap[b0]? = some (.cells #[v0, v1, v2, v3] 25 (0, 0)) ∧ W'.heap[b1]? = some (.cells #[u0, u1] 28 (0, 0)) := by
  have stepD : ∀ {W : World} {a0 a1 a2 a3 : Value} (j : Nat) (v : Value), Below w.heap.size w W → Has W g sa ca 60 sc 0 cc S C f d → W.heap[b0]? = some (.cells #[a0, a1, a2, a3] 25 (0, 0)) → W.heap[b1]? = some (.cells zM 28 (0, 0)) →
      Below w.heap.size w (W.setCell ⟨b0, j, none⟩ v) ∧ Has (W.setCell ⟨b0, j, none⟩ v) g sa ca 60 sc 0 cc S C f d ∧ (W.setCell ⟨b0, j, none⟩ v).heap[b1]? = some (.cells zM 28 (0, 0)) := fun j v hB hd h0' h1' =>
    ⟨below_only hB h0 (only_put _ _ _ _), has_only hd h0' (by simp) hg0 (only_put _ _ _ _), (Below.heap_setCell _ _ _ _ (by show b1 ≠ b0; exact h01.symm)).trans h1'⟩
  have stepM : ∀ {W : World} {a0 a1 a2 a3 c0 c1 : Value} (j : Nat) (v : Value), Below w.heap.size w W → Has W g sa ca 60 sc 0 cc S C f d → W.heap[b0]? = some (.cells #[a0, a1, a2, a3] 25 (0, 0)) → W.heap[b1]? = some (.cells #[c0, c1] 28 (0, 0)) →
      Below w.heap.size w (W.setCell ⟨b1, j, none⟩ v) ∧ Has (W.setCell ⟨b1, j, none⟩ v) g sa ca 60 sc 0 cc S C f d ∧ (W.setCell ⟨b1, j, none⟩ v).heap[b0]? = some (.cells #[a0, a1, a2, a3] 25 (0, 0)) := fun j v hB hd h0' h1' =>
    ⟨below_only hB h1 (only_put _ _ _ _), has_only hd h1' (by simp) hg1 (only_put _ _ _ _), (Below.heap_setCell _ _ _ _ (by show b0 ≠ b1; exact h01)).trans h0'⟩
  obtain ⟨B1, D1, M1⟩ := stepD 0 v0 hB hd hz0 hz1
  have Z1 : (W.setCell ⟨b0, 0, none⟩ v0).heap[b0]? = some (.cells #[v0, .slice none 0 0, .int .i64 0, .bool false] 25 (0, 0)) := by rw [heap_setCell_same W b0 0 _ _ v0 hz0]; rfl
  generalize W.setCell ⟨b0, 0, none⟩ v0 = W1 at B1 D1 M1 Z1 ⊢
  obtain ⟨B2, D2, M2⟩ := stepD 1 v1 B1 D1 Z1 M1
  have Z2 : (W1.setCell ⟨b0, 1, none⟩ v1).heap[b0]? = some (.cells #[v0, v1, .int .i64 0, .bool false] 25 (0, 0)) := by rw [heap_setCell_same W1 b0 1 _ _ v1 Z1]; rfl
  generalize W1.setCell ⟨b0, 1, none⟩ v1 = W2 at B2 D2 M2 Z2 ⊢
  obtain ⟨B3, D3, M3⟩ := stepD 2 v2 B2 D2 Z2 M2
  have Z3 : (W2.setCell ⟨b0, 2, none⟩ v2).heap[b0]? = some (.cells #[v0, v1, v2, .bool false] 25 (0, 0)) := by rw [heap_setCell_same W2 b0 2 _ _ v2 Z2]; rfl
  generalize W2.setCell ⟨b0, 2, none⟩ v2 = W3 at B3 D3 M3 Z3 ⊢
  obtain ⟨B4, D4, M4⟩ := stepD 3 v3 B3 D3 Z3 M3
  have Z4 : (W3.setCell ⟨b0, 3, none⟩ v3).heap[b0]? = some (.cells #[v0, v1, v2, v3] 25 (0, 0)) := by rw [heap_setCell_same W3 b0 3 _ _ v3 Z3]; rfl
  generalize W3.setCell ⟨b0, 3, none⟩ v3 = W4 at B4 D4 M4 Z4 ⊢
  obtain ⟨B5, D5, Z5⟩ := stepM 0 u0 B4 D4 Z4 M4
  have M5 : (W4.setCell ⟨b1, 0, none⟩ u0).heap[b1]? = some (.cells #[u0, .slice none 0 0] 28 (0, 0)) := by rw [heap_setCell_same W4 b1 0 _ _ u0 M4]; rfl
  generalize W4.setCell ⟨b1, 0, none⟩ u0 = W5 at B5 D5 M5 Z5 ⊢
  obtain ⟨B6, D6, Z6⟩ := stepM 1 u1 B5 D5 Z5 M5
  have M6 : (W5.setCell ⟨b1, 1, none⟩ u1).heap[b1]? = some (.cells #[u0, u1] 28 (0, 0)) := by rw [heap_setCell_same W5 b1 1 _ _ u1 M5]; rfl
  exact ⟨_, rfl, B6, D6, Z6, M6⟩
theorem results_fr {tmps : Array Value} {w : World} {B0 B1 : Nat} {v0 v1 v2 v3 u0 u1 b : Value} {fn : Func} (hf : fn.results = #[.cell 0 25, .cell 1 28, .tmp 2]) (h0 : tmps.getD 0 undef = .pointer (some ⟨B0, 0, none⟩)) (h1 : tmps.getD 1 undef = .pointer (some ⟨B1, 0, none⟩)) (h2 : tmps.getD 2 undef = b)
    (k0 : w.heap[B0]? = some (.cells #[v0, v1, v2, v3] 25 (0, 0))) (k1 : w.heap[B1]? = some (.cells #[u0, u1] 28 (0, 0))) : (results fn tmps).run Tryz.prog w = .ok (.tuple #[.agg #[v0, v1, v2, v3], .agg #[u0, u1], b]) w := by
  have h0' : tmps[0]?.getD undef = .pointer (some ⟨B0, 0, none⟩) := by simpa using h0
  have h1' : tmps[1]?.getD undef = .pointer (some ⟨B1, 0, none⟩) := by simpa using h1
  have h2' : tmps[2]?.getD undef = b := by simpa using h2
  have e0 := run_loadVar_row (P := Tryz.prog) w B0 25 25 #[v0, v1, v2, v3] (0, 0) _ k0 Tryz.underlying25 rfl (by kernel_rfl)
  have e1 := run_loadVar_row (P := Tryz.prog) w B1 28 28 #[u0, u1] (0, 0) _ k1 Tryz.underlying28 rfl (by kernel_rfl)
  simp [results, hf, h0', h1', h2', asAddr, e0, e1]
/-- what fresh answers -/
def Fresh (w : World) (e : Ending) (w' : World) : Prop := Below w.heap.size w w' ∧ ∃ sa sc ca cc, e = .returned (.tuple #[.agg #[.slice sa 60 sc, .slice ca 0 cc, .int .i64 (-1), .bool false], .agg zM, .bool true]) ∧
  Lay w' w'.heap.size w'.heap.size sa 60 sc 130 (fun i => secV (fX1.S i)) ∧ Lay w' w'.heap.size w'.heap.size ca 0 cc 129 (fun i => wrV (fX1.C i))
theorem new_60 {w w' : World} {e : Ending} (h : News w 60 e w') : Below w.heap.size w w' ∧ ∃ b, e = .returned (.tuple #[.agg #[.slice (some ⟨b, 0, none⟩) 60 60, .slice none 0 0, .int .i64 (-1), .bool false], .int .i64 0]) ∧ Lay w' w'.heap.size w'.heap.size (some ⟨b, 0, none⟩) 60 60 130 (fun _ => secV sec0) := by
  obtain ⟨h1, h2⟩ := h
  rw [if_pos (by decide)] at h2
  exact ⟨h1, h2⟩
theorem box_fr (w : World) : ∃ W, W = (w.alloc (.cells zD 25)).alloc (.cells zM 28) ∧ Below w.heap.size w W ∧ W.heap.size = w.heap.size + 2 ∧ W.heap[w.heap.size]? = some (.cells zD 25 (0, 0)) ∧ W.heap[w.heap.size + 1]? = some (.cells zM 28 (0, 0)) := by
  refine ⟨_, rfl, ((Below.refl _ _).alloc (Nat.le_refl _) _).alloc (by simp) _, by simp, (Below.heap_alloc _ _ _ (by simp)).trans (heap_alloc_new w _), ?_⟩
  have := heap_alloc_new (w.alloc (.cells zD 25)) (.cells zM 28)
  rwa [World.size_alloc] at this

set_option maxRecDepth 100000 in
set_option maxHeartbeats 4000000 in
theorem fresh_any (w : World) (hk : Rm.Kp w) : Calls Tryz.prog 16 #[] w (Fresh w) := by
  have HK := Lib.hid (fun W (hb : Below w.heap.size w W) => hk.below hb)
  obtain ⟨W0, hW0, hB0, hs0, ha0, hb0⟩ := box_fr w
  obtain ⟨he1, hup, hm1, _⟩ := fresh_up
  have HM1 := Lib.hid hm1
  have HN1 := Lib.hid hup.n
  have HD1 := Lib.hid hup.d
  clear hk hup hm1
  go_enter Tryz.func16, Tryz.ntmps16
  go_wp2_with fail
  rw [← hW0]
  clear hW0
  refine (new_any 60 W0).mono ?_
  intro e w1 hn
  obtain ⟨hb1, bl1, rfl, hl⟩ := new_60 hn
  have hs1 := hb1.size
  have ha1 := (hb1.block w.heap.size (by omega)).trans ha0
  have hz1 := (hb1.block (w.heap.size + 1) (by omega)).trans hb0
  have hB1 := hB0.trans (hb1.mono hB0.size)
  clear hn ha0 hb0 hb1 hB0
  dsimp only
  go_wp2_with (refine wpList_store_row rfl 25 (.tmp 3) (.tmp 9) rfl w1.heap.size #[.slice (some ⟨bl1, 0, none⟩) 60 60, .slice none 0 0, .int .i64 (-1), .bool false] rfl rfl 25 _ (heap_alloc_new w1 _) (by kernel_rfl) rfl (disk_one _ _ _ _ _ _ _ _) ?_; rw [World.setRow_alloc_new]; simp only [Act.put])
  generalize hW1 : w1.alloc (.cells #[.slice (some ⟨bl1, 0, none⟩) 60 60, .slice none 0 0, .int .i64 (-1), .bool false] 25) = W1
  have hH1 : HasD W1 w1.heap.size 60 fX0 := ⟨_, _, _, _, new_has (k := 60) (by omega) hl hW1.symm⟩
  have hb2 : Below w1.heap.size w1 W1 := by rw [← hW1]; exact (Below.refl _ _).alloc (Nat.le_refl _) _
  have hB2 := hB1.trans (hb2.mono hB1.size)
  have ha2 := (hb2.block w.heap.size (by omega)).trans ha1
  have hz2 := (hb2.block (w.heap.size + 1) (by omega)).trans hz1
  have hgl : w.heap.size + 1 < w1.heap.size := by omega
  clear hW1 hl ha1 hz1 hb2 hB1
  generalize w1.heap.size = g at hH1 hgl ⊢
  refine (format_d hH1 (fX0_up.ok (k := 2) (by decide)) (HK.out W1 hB2)).mono ?_
  rw [he1]
  rintro _ w3 ⟨rfl, hg3, hD3⟩
  have hB3 : Below w.heap.size w w3 := below_only hB2 (by omega) hg3
  have hs3 := hg3.size
  have ha3 := (hg3.block w.heap.size (Array.getElem?_eq_some_iff.1 ha2).1 (by simp; omega)).trans ha2
  have hz3 := (hg3.block (w.heap.size + 1) (Array.getElem?_eq_some_iff.1 hz2).1 (by simp; omega)).trans hz2
  have hD3' : HasD w3 g 60 fX1 := hD3
  clear hg3 ha2 hz2 hB2 hD3 hH1
  dsimp only
  go_wp2_with (refine wpList_store_row rfl 28 (.tmp 5) (.tmp 13) rfl w3.heap.size #[.int .i64 0, .slice none 0 0] rfl rfl 28 _ (heap_alloc_new w3 _) (by kernel_rfl) rfl rm_one ?_; rw [World.setRow_alloc_new]; simp only [Act.put])
  generalize hW4 : w3.alloc (.cells #[.int .i64 0, .slice none 0 0] 28) = W4
  have hb4 : Below w3.heap.size w3 W4 := by rw [← hW4]; exact (Below.refl _ _).alloc (Nat.le_refl _) _
  have ht4 : W4.heap[w3.heap.size]? = some (.cells zM 28 (0, 0)) := by rw [← hW4]; exact heap_alloc_new _ _
  have hgw := hD3'.lt
  obtain ⟨sa, sc, ca, cc, hH4⟩ := hD3'.below hb4
  rw [HM1.out, HN1.out, HD1.out] at hH4
  have hBW := hB3.trans (hb4.mono hB3.size)
  have hz0 := (hb4.block w.heap.size (by omega)).trans ha3
  have hz1 := (hb4.block (w.heap.size + 1) (by omega)).trans hz3
  have f1 := hgl
  have f2 : w.heap.size + 1 < w3.heap.size := by omega
  clear hW4 hb4 hB3 ha3 hz3 hD3'
  generalize w3.heap.size = bm at ht4 f2 ⊢
  have hbx := hH4.bx
  have HH4 := Lib.hid hH4
  have HBW := Lib.hid hBW
  have c0 : W4.cell? ⟨g, 0, none⟩ = _ := hbx.c0
  have c1 : W4.cell? ⟨g, 1, none⟩ = _ := hbx.c1
  have c2 : W4.cell? ⟨g, 2, none⟩ = _ := hbx.c2
  have c3 : W4.cell? ⟨g, 3, none⟩ = _ := hbx.c3
  obtain ⟨m0, m1⟩ : W4.cell? ⟨bm, 0, none⟩ = some (.int .i64 0) ∧ W4.cell? ⟨bm, 1, none⟩ = some (.slice none 0 0) := tab_cells ht4
  have d0 : W4.cell? ⟨w.heap.size, 0, none⟩ = some (.slice none 0 0) := by rw [cell_of_row _ _ _ _ _ _ hz0]; rfl
  have d1 : W4.cell? ⟨w.heap.size, 1, none⟩ = some (.slice none 0 0) := by rw [cell_of_row _ _ _ _ _ _ hz0]; rfl
  have d2 : W4.cell? ⟨w.heap.size, 2, none⟩ = some (.int .i64 0) := by rw [cell_of_row _ _ _ _ _ _ hz0]; rfl
  have d3 : W4.cell? ⟨w.heap.size, 3, none⟩ = some (.bool false) := by rw [cell_of_row _ _ _ _ _ _ hz0]; rfl
  obtain ⟨n0, n1⟩ := tab_cells hz1
  have y0 := frozen_of_row W4 w.heap.size 0 _ _ hz0
  have y1 := frozen_of_row W4 w.heap.size 1 _ _ hz0
  have y2 := frozen_of_row W4 w.heap.size 2 _ _ hz0
  have y3 := frozen_of_row W4 w.heap.size 3 _ _ hz0
  have x0 := frozen_of_row W4 (w.heap.size + 1) 0 _ _ hz1
  have x1 := frozen_of_row W4 (w.heap.size + 1) 1 _ _ hz1
  have p1 : ¬ bm = w.heap.size := by omega
  have p2 : ¬ w.heap.size = bm := by omega
  have p3 : ¬ bm = w.heap.size + 1 := by omega
  have p4 : ¬ w.heap.size + 1 = bm := by omega
  have p5 : ¬ g = w.heap.size := by omega
  have p6 : ¬ w.heap.size = g := by omega
  have p7 : ¬ g = w.heap.size + 1 := by omega
  have p8 : ¬ w.heap.size + 1 = g := by omega
  have HZ0 := Lib.hid hz0
  have HZ1 := Lib.hid hz1
  clear hbx hH4 hBW hz0 hz1 ht4
  go_wp2_with fail
  go_region
  obtain ⟨W5, hW5, hB5, hD5, hZ5, hM5⟩ := fr_end HBW.out HH4.out HZ0.out HZ1.out (Nat.le_refl _) (Nat.le_succ _) (by omega) p5 p7 (.slice sa 60 sc) (.slice ca 0 cc) (.int .i64 (-1)) (.bool false) (.int .i64 0) (.slice none 0 0)
  rw [← hW5]
  clear hW5 d0 d1 d2 d3 n0 n1 y0 y1 y2 y3 x0 x1 c0 c1 c2 c3 m0 m1
  have hdr : Below W5.heap.size W5 W5.drew := ⟨rfl, rfl, rfl, Nat.le_refl _, fun _ _ => rfl⟩
  have hB6 := hB5.trans (hdr.mono hB5.size)
  have hD6 := hD5.below hdr
  have hZ6 := (hdr.block _ (Array.getElem?_eq_some_iff.1 hZ5).1).trans hZ5
  have hM6 := (hdr.block _ (Array.getElem?_eq_some_iff.1 hM5).1).trans hM5
  generalize W5.drew = W6 at hB6 hD6 hZ6 hM6 ⊢
  go_wp2_with fail
  refine bodyPost_ret (results_fr rfl rfl rfl rfl hZ6 hM6) rfl ?_
  exact ⟨hB6, sa, sc, ca, cc, rfl, hD6.ss.other (Nat.le_refl _), hD6.cs.other (Nat.le_refl _)⟩
end Di
end Go.Proofs.YtllejfnmbpjhaaaGreatDoor
/- ditto: what a hit makes of a good copy: the numbers alone. -/
namespace Go.Proofs.YtllejfnmbpjhaaaGreatDoor
set_option maxRecDepth 20000
namespace Di
open Go.RowKit Dk Byt Eqb Rm

theorem xor_bd (a b : Int) : 0 ≤ bits .xor .u8 a b ∧ bits .xor .u8 a b < 256 := by
  unfold bits
  rw [IntKind.wrap_u8]
  omega
theorem xor_zero {a : Int} (h : 0 ≤ a ∧ a < 256) : bits .xor .u8 a 0 = a := by
  rw [u8_xor a 0 h.1 h.2 (by omega) (by omega)]
  simp
  omega
theorem xor_ne {a y : Int} (h : 0 ≤ a ∧ a < 256) (hy : 0 ≤ y ∧ y < 256) (h0 : y ≠ 0) : bits .xor .u8 a y ≠ a := by
  rw [u8_xor a y h.1 h.2 hy.1 hy.2]
  intro e
  have e1 : a.toNat ^^^ y.toNat = a.toNat := by omega
  have e2 : a.toNat ^^^ (a.toNat ^^^ y.toNat) = y.toNat := by rw [← Nat.xor_assoc, Nat.xor_self, Nat.zero_xor]
  rw [e1, Nat.xor_self] at e2
  omega
def rot (V : Nat → Int) (p y : Int) : Nat → Int := fun j => if j = p.toNat then bits .xor .u8 (V j) y else V j
theorem rot_byt {V : Nat → Int} (h : byt V) (p y : Int) : byt (rot V p y) := fun i hi => by
  unfold rot
  split
  · exact xor_bd _ _
  · exact h i hi
section
variable {X : Dst} {V : Nat → Int} {a k p y : Int}
theorem at_lk (hm : X.m = 0) (hl : lk X a = (false, V)) (hn : nw X a = false) : X.S a.toNat = ⟨V, false, false⟩ := by
  rw [lk_zero hm] at hl
  have h1 := congrArg Prod.fst hl
  have h2 := congrArg Prod.snd hl
  dsimp only at h1 h2
  unfold nw at hn
  cases hs : X.S a.toNat with
  | mk d r w =>
    rw [hs] at h1 h2 hn
    dsimp only at h1 h2 hn
    rw [h1, h2, hn]
theorem hit_lk (hu : Up X) (hm : X.m = 0) (hx : Sx a) (hl : lk X a = (false, V)) (hn : nw X a = false) (hk : hitsB k p = true) :
    (hX X a k p y).S a.toNat = hitSec ⟨V, false, false⟩ k p y ∧ lk (hX X a k p y) a = ((hitSec ⟨V, false, false⟩ k p y).noRead, (hitSec ⟨V, false, false⟩ k p y).data) ∧ nw (hX X a k p y) a = (hitSec ⟨V, false, false⟩ k p y).noWrite := by
  have h4 := (hu.hit hm y hx.bd hk).2.2.2
  rw [at_lk hm hl hn] at h4
  refine ⟨h4, ?_, ?_⟩
  · rw [lk_zero (show (hX X a k p y).m = 0 from hm), h4]
  · unfold nw
    rw [h4]
theorem hits_cases (hk : hitsB k p = true) : k = 1 ∨ k = 2 ∨ k = 3 := by
  unfold hitsB at hk
  split at hk
  · exact .inl (by assumption)
  · simp at hk
    omega
/-- a copy that was hit is good, or bad and can be written -/
theorem hit_copy (hu : Up X) (hm : X.m = 0) (hx : Sx a) (hl : lk X a = (false, V)) (hn : nw X a = false) (hk : hitsB k p = true) (hV : byt V)
    (hD : eqB 128 ((hX X a k p y).S a.toNat).data V = true ∨ eqB 32 (Pt.sumD ((hX X a k p y).S a.toNat).data) (Pt.sumD V) = false) : Good (hX X a k p y) V a ∨ Bad (hX X a k p y) V a := by
  obtain ⟨h1, h2, h3⟩ := hit_lk (y := y) hu hm hx hl hn hk
  rw [h1] at hD
  rcases hits_cases hk with rfl | rfl | rfl
  · have e : (hitSec ⟨V, false, false⟩ 1 p y) = ⟨rot V p y, false, false⟩ := rfl
    rw [e] at h2 h3 hD
    rcases hD with hD | hD
    · exact .inl ⟨by rw [h2], fun i hi => by rw [h2]; exact eqB_iff.1 hD i hi⟩
    · exact .inr ⟨h3, by rw [h2]; exact rot_byt hV _ _, .inr (by rw [h2, eqB_comm]; exact hD)⟩
  · have e : (hitSec ⟨V, false, false⟩ 2 p y) = ⟨V, true, false⟩ := rfl
    rw [e] at h2 h3
    exact .inr ⟨h3, by rw [h2]; exact hV, .inl (by rw [h2])⟩
  · have e : (hitSec ⟨V, false, false⟩ 3 p y) = ⟨V, false, true⟩ := rfl
    rw [e] at h2
    exact .inl ⟨by rw [h2], fun i _ => by rw [h2]⟩
theorem hit_keep (hu : Up X) (hm : X.m = 0) (hx : Sx a) (hk : hitsB k p = true) {c : Int} (hc : Sx c) (hca : c ≠ a) (hl : lk X c = (false, V)) : Good (hX X a k p y) V c := by
  have := ((hu.hit hm y hx.bd hk).2.2.1 c hc.bd.1 hca).1
  rw [hl] at this
  exact ⟨by rw [this], fun i _ => by rw [this]⟩
end
/-- behind a Put of two copies, a flush and a hit -/
theorem again_hit {V : Nat → Int} (hV : byt V) {a k p y : Int} (hx : Sx a) (hk : hitsB k p = true) (hD : eqB 128 ((hX (cX3 V) a k p y).S a.toNat).data V = true ∨ eqB 32 (Pt.sumD ((hX (cX3 V) a k p y).S a.toNat).data) (Pt.sumD V) = false) :
    Up (hX (cX3 V) a k p y) ∧ (hX (cX3 V) a k p y).m = 0 ∧ Half (hX (cX3 V) a k p y) V := by
  obtain ⟨_, _, hu, hm, hs⟩ := chain2 V
  have hc := hit_copy hu hm hx (hs a hx).1 (hs a hx).2 hk hV hD
  refine ⟨(hu.hit hm y hx.bd hk).2.1, hm, ?_⟩
  rcases hx with rfl | rfl
  · have ho := hit_keep (y := y) hu hm (.inl rfl) hk (c := 25) (.inr rfl) (by decide) (hs 25 (.inr rfl)).1
    rcases hc with h | h
    · exact .inl ⟨h, ho⟩
    · exact .inr (.inl ⟨h, ho⟩)
  · have ho := hit_keep (y := y) hu hm (.inr rfl) hk (c := 3) (.inl rfl) (by decide) (hs 3 (.inl rfl)).1
    rcases hc with h | h
    · exact .inl ⟨ho, h⟩
    · exact .inr (.inr ⟨ho, h⟩)
theorem alive_data (i : Nat) (_ : i < 128) : rot DiSha.sevB 0 1 i = DiSha.sixB i := by
  unfold rot DiSha.sevB DiSha.sixB
  by_cases h : i = 0
  · subst h
    rfl
  · have h' : ¬ i = (0 : Int).toNat := h
    rw [if_neg h', if_neg h, if_neg h]
def aY4 : Dst := hX (cX3 DiSha.sevB) 3 1 0 1
theorem alive_half : Up aY4 ∧ aY4.m = 0 ∧ Half aY4 DiSha.sevB ∧ Bad aY4 DiSha.sevB 3 := by
  obtain ⟨_, _, hu, hm, hs⟩ := chain2 DiSha.sevB
  have hk : hitsB 1 0 = true := rfl
  obtain ⟨h1, h2, h3⟩ := hit_lk (a := 3) (k := 1) (p := 0) (y := 1) hu hm (.inl rfl) (hs 3 (.inl rfl)).1 (hs 3 (.inl rfl)).2 hk
  have e : (hitSec ⟨DiSha.sevB, false, false⟩ 1 0 1) = ⟨rot DiSha.sevB 0 1, false, false⟩ := rfl
  have hsum : eqB 32 (Pt.sumD (rot DiSha.sevB 0 1)) (Pt.sumD DiSha.sevB) = false := by rw [sum_same alive_data, eqB_comm]; exact sev_six
  rw [e] at h1 h2 h3
  obtain ⟨u, m, hh⟩ := again_hit (a := 3) (k := 1) (p := 0) (y := 1) DiSha.sevB_bytes (.inl rfl) hk (.inr (by rw [h1]; exact hsum))
  exact ⟨u, m, hh, h3, by rw [show lk aY4 3 = _ from h2]; exact rot_byt DiSha.sevB_bytes _ _, .inr (by rw [show lk aY4 3 = _ from h2, eqB_comm]; exact hsum)⟩
end Di
end Go.Proofs.YtllejfnmbpjhaaaGreatDoor
/- ditto: how a law begins; the fixed fact, walked. -/
namespace Go.Proofs.YtllejfnmbpjhaaaGreatDoor
set_option maxRecDepth 20000
namespace Di
open Go.RowKit Dk Byt Eqb Rm

attribute [local go_sem] zv29
attribute [local go_sem] Pt.zvP
attribute [local go_sem] zc29
theorem law_start {w0 w1 : World} {sa ca : Option Addr} {sc cc : Nat} (hB : Below w0.heap.size w0 w1) (hk : Rm.Kp w0) (hs : Lay w1 w1.heap.size w1.heap.size sa 60 sc 130 (fun i => secV (fX1.S i))) (hc : Lay w1 w1.heap.size w1.heap.size ca 0 cc 129 (fun i => wrV (fX1.C i))) :
    ((w1.alloc (.cells zD 25)).alloc (.cells zM 28)).heap[w1.heap.size]? = some (.cells zD 25 (0, 0)) ∧
    (((w1.alloc (.cells zD 25)).alloc (.cells zM 28)).setRow w1.heap.size #[.slice sa 60 sc, .slice ca 0 cc, .int .i64 (-1), .bool false]).heap[w1.heap.size + 1]? = some (.cells zM 28 (0, 0)) ∧
    ∃ W3, W3 = ((((w1.alloc (.cells zD 25)).alloc (.cells zM 28)).setRow w1.heap.size #[.slice sa 60 sc, .slice ca 0 cc, .int .i64 (-1), .bool false]).setRow (w1.heap.size + 1) zM) ∧ Below w1.heap.size w1 W3 ∧ LwS w0 w1.heap.size (w1.heap.size + 1) fX1 W3 ∧ W3.heap.size = w1.heap.size + 2 := by
  obtain ⟨_, hup, hm1, _⟩ := fresh_up
  obtain ⟨W, hW, hb, hs0, z0, z1⟩ := box_fr w1
  rw [← hW]
  clear hW
  have z1' : (W.setRow w1.heap.size #[.slice sa 60 sc, .slice ca 0 cc, .int .i64 (-1), .bool false]).heap[w1.heap.size + 1]? = some (.cells zM 28 (0, 0)) := (setRow_other _ _ _ _ (by omega)).trans z1
  have e0 : (W.setRow w1.heap.size #[.slice sa 60 sc, .slice ca 0 cc, .int .i64 (-1), .bool false]).heap[w1.heap.size]? = some (.cells #[.slice sa 60 sc, .slice ca 0 cc, .int .i64 (-1), .bool false] 25 (0, 0)) := setRow_heap _ _ _ _ _ _ z0
  have b1 := below_only hb (Nat.le_refl _) (grown_row (B := w1.heap.size) #[.slice sa 60 sc, .slice ca 0 cc, .int .i64 (-1), .bool false])
  have s1 : (W.setRow w1.heap.size #[.slice sa 60 sc, .slice ca 0 cc, .int .i64 (-1), .bool false]).heap.size = w1.heap.size + 2 := by simpa using hs0
  refine ⟨z0, z1', ?_⟩
  generalize W.setRow w1.heap.size #[.slice sa 60 sc, .slice ca 0 cc, .int .i64 (-1), .bool false] = W2 at z1' e0 b1 s1 ⊢
  have b2 := below_only b1 (Nat.le_succ _) (grown_row (B := w1.heap.size + 1) zM)
  have e1 : (W2.setRow (w1.heap.size + 1) zM).heap[w1.heap.size + 1]? = some (.cells zM 28 (0, 0)) := setRow_heap _ _ _ _ _ _ z1'
  have e0' : (W2.setRow (w1.heap.size + 1) zM).heap[w1.heap.size]? = some (.cells #[.slice sa 60 sc, .slice ca 0 cc, .int .i64 (-1), .bool false] 25 (0, 0)) := (setRow_other _ _ _ _ (by omega)).trans e0
  have s2 : (W2.setRow (w1.heap.size + 1) zM).heap.size = w1.heap.size + 2 := by simpa using s1
  refine ⟨_, rfl, b2, ?_, s2⟩
  generalize W2.setRow (w1.heap.size + 1) zM = W3 at b2 e1 e0' s2
  refine ⟨hB.trans (b2.mono hB.size), ⟨sa, sc, ca, cc, ?_⟩, ⟨none, 0, e1, Lay.empty _ _ _ 0 _ _⟩, (hk.below hB).below b2, hB.size, Nat.le_succ_of_le hB.size, by omega, hk.2⟩
  rw [hm1, hup.n, hup.d]
  exact ⟨e0', (hs.below b2).more b2.size, (hc.below b2).more b2.size, by omega, by omega⟩
theorem set_sev : ((bl fun _ => 0).set 0 (.int .u8 7)) = bl DiSha.sevB := by kernel_rfl
theorem builtSev : Tryz.prog.built 36 [(0, .int .u8 7)] = some (bl DiSha.sevB).toArray := by kernel_rfl

set_option maxRecDepth 100000 in
set_option maxHeartbeats 8000000 in
theorem alive6_any (w : World) (hk : Rm.Kp w) : Calls Tryz.prog 5 #[] w fun e w' => e = .returned (.bool true) ∧ Below w.heap.size w w' := by
  have HK := Lib.hid hk
  have HF := Lib.hid (fresh_any w hk)
  unfold Fresh at HF
  obtain ⟨_, hup1, hm1, hf1⟩ := fresh_up
  obtain ⟨hup2, hm2, hup3, hm3, _⟩ := chain2 DiSha.sevB
  obtain ⟨hup4, hm4, hh4, hb4⟩ := alive_half
  obtain ⟨hby3, hby25⟩ := hh4.bts hup4 DiSha.sevB_bytes
  obtain ⟨hgt, hg1⟩ := get_2 hup4 hh4
  have hg1 := hg1 hb4
  have hV0 := hgt.V 0 (by omega)
  have HPUT := Lib.hid (fun g b w3 (hS : LwS w g b fX1 w3) => lput hS hup1 (by omega) (hf1 3 (.inl rfl)).2 (hf1 25 (.inr rfl)).2 DiSha.sevB DiSha.sevB_bytes)
  have HFL := Lib.hid (fun g b w3 (hS : LwS w g b (cX2 DiSha.sevB) w3) => lflush hS hup2 (by omega))
  have HHI := Lib.hid (fun g b w3 (hS : LwS w g b (cX3 DiSha.sevB) w3) => lhit hS hup3 hm3 3 1 0 1 (by decide) rfl)
  have HGE := Lib.hid (fun g b w3 (hS : LwS w g b aY4 w3) => lget hS hup4 (by omega) ⟨3, 25, Pt.sumD DiSha.sevB⟩ hby3 hby25 hgt.M)
  have hge := hgt.e
  unfold LwD at HPUT HFL HHI HGE
  rw [show dWr 60 (dWr 60 fX1 3 DiSha.sevB) 25 DiSha.sevB = cX2 DiSha.sevB from rfl] at HPUT
  rw [show dFl 60 (cX2 DiSha.sevB) = cX3 DiSha.sevB from rfl] at HFL
  rw [show hX (cX3 DiSha.sevB) 3 1 0 1 = aY4 from rfl] at HHI
  clear hk hup1 hm1 hf1 hup2 hm2 hup3 hm3 hup4 hm4 hh4 hb4 hby3 hby25 hgt
  generalize cX2 DiSha.sevB = X2 at HPUT HFL
  generalize cX3 DiSha.sevB = X3 at HFL HHI
  generalize gRes 60 aY4 aM0 ⟨3, 25, Pt.sumD DiSha.sevB⟩ = R at HGE hge hg1 hV0
  generalize aY4 = X4 at HHI HGE
  obtain ⟨V, hR, eR, X5, M5⟩ := R
  dsimp only at HGE hge hg1 hV0
  subst hge hg1
  have hV7 : V 0 = 7 := hV0
  clear hV0
  generalize Pt.sumD DiSha.sevB = q at HPUT HGE
  go_enter Tryz.func5, Tryz.ntmps5
  go_wp2_with fail
  refine HF.out.mono ?_
  rintro _ w1 ⟨hb1, sa, sc, ca, cc, rfl, hs, hc⟩
  obtain ⟨a0, a1, W3, hW3, hb3, hS3, hs3⟩ := law_start hb1 HK.out hs hc
  clear hs hc HF
  dsimp only
  go_wp2_with (first
    | (refine @wpList_store_row _ _ _ _ _ _ _ rfl 25 (.tmp 1) (.tmp 13) rfl w1.heap.size #[.slice sa 60 sc, .slice ca 0 cc, .int .i64 (-1), .bool false] rfl rfl 25 _ a0 (by kernel_rfl) rfl (disk_one _ _ _ _ _ _ _ _) ?_; simp only [Act.put])
    | (refine @wpList_store_row _ _ _ _ _ _ _ rfl 28 (.tmp 2) (.tmp 14) rfl (w1.heap.size + 1) zM rfl rfl 28 _ a1 (by kernel_rfl) rfl rm_one ?_; simp only [Act.put])
    | (refine wpList_buildTo rfl 36 #[(0, .const (.int .u8 7))] rfl _ rfl (bl DiSha.sevB).toArray builtSev ?_; simp only [Act.put, List.setIfInBounds_toArray, List.set_cons_succ, List.set_cons_zero]))
  rw [← hW3]
  try rw [set_sev]
  clear hW3 a0 a1 hb3
  generalize w1.heap.size = g at hS3 hs3 ⊢
  refine (HPUT.out g (g + 1) W3 hS3).mono ?_
  rintro _ w4 ⟨rfl, hT4, hS4⟩
  have hs4 := hT4.size
  obtain ⟨W5, hW5, hb5, hx5, hs5⟩ : ∃ W5, W5 = w4.alloc (.cells (Pt.pV ⟨3, 25, q⟩).toArray 31) ∧ Below w4.heap.size w4 W5 ∧ W5.heap[w4.heap.size]? = some (.cells (Pt.pV ⟨3, 25, q⟩).toArray 31 (0, 0)) ∧ W5.heap.size = w4.heap.size + 1 :=
    ⟨_, rfl, (Below.refl _ _).alloc (Nat.le_refl _) _, heap_alloc_new _ _, by simp⟩
  have hS5 := hS4.below hb5
  clear hT4 hS4 hb5 HPUT hS3
  dsimp only
  go_wp2_with (refine @wpList_store_row _ _ _ _ _ _ _ rfl 31 (.tmp 4) (.tmp 19) rfl w4.heap.size (Pt.pV ⟨3, 25, q⟩).toArray rfl rfl 31 _ (heap_alloc_new w4 _) (Pt.sizeP' _) rfl (Pt.pV_all _) ?_; rw [World.setRow_alloc_new]; simp only [Act.put])
  rw [← hW5]
  clear hW5
  have hpg : g + 1 < w4.heap.size := by omega
  generalize w4.heap.size = bp at hx5 hs5 hpg ⊢
  refine (HFL.out g (g + 1) W5 hS5).mono ?_
  rintro _ w6 ⟨rfl, hT6, hS6⟩
  have hx6 := (hT6.block bp (by omega) (by omega) (by omega)).trans hx5
  have hs6 := hT6.size
  clear hT6 hx5 hS5 HFL
  dsimp only
  go_wp2_with fail
  refine (HHI.out g (g + 1) w6 hS6).mono ?_
  rintro _ w7 ⟨rfl, hT7, hS7⟩
  have hx7 := (hT7.block bp (by omega) (by omega) (by omega)).trans hx6
  have hs7 := hT7.size
  have r7 := Pt.row_pt hx7
  clear hT7 hx6 hS6 HHI
  dsimp only
  go_wp2_with (refine @wpList_loadG _ _ _ _ _ _ _ (by kernel_rfl) 31 (.tmp 4) rfl bp 0 rfl (Pt.pV ⟨3, 25, q⟩) _ r7 Pt.undP rfl (Pt.sizeP _) ?_; simp only [Act.put, List.setIfInBounds_toArray, List.set_cons_succ, List.set_cons_zero])
  refine (HGE.out g (g + 1) w7 hS7).mono ?_
  rintro _ w8 ⟨rfl, hT8, hS8⟩
  have HB8 := Lib.hid hS8.be
  obtain ⟨W9, hW9, hb9, hx9⟩ : ∃ W9, W9 = w8.alloc (.cells (bl V).toArray 36) ∧ Below w8.heap.size w8 W9 ∧ W9.heap[w8.heap.size]? = some (.cells (bl V).toArray 36 (0, 0)) :=
    ⟨_, rfl, (Below.refl _ _).alloc (Nat.le_refl _) _, heap_alloc_new _ _⟩
  have d0 : W9.cell? ⟨w8.heap.size, 0, none⟩ = some (.int .u8 7) := by
    rw [cell_of_row _ _ _ _ _ _ hx9, ← hV7]
    rfl
  have hB9 := HB8.out.trans (hb9.mono HB8.out.size)
  clear hT8 hS8 hS7 hx7 r7 HGE hb9 hx9 hV7
  dsimp only
  subst hW9
  go_wp2_with (refine @wpList_store_row _ _ _ _ _ _ _ rfl 36 (.tmp 8) (.tmp 26) rfl w8.heap.size (bl V).toArray rfl rfl 36 _ (heap_alloc_new w8 _) (size_bl' _) rfl (bl_all _) ?_; rw [World.setRow_alloc_new]; simp only [Act.put])
  go_ret
  exact ⟨rfl, hB9⟩
end Di
end Go.Proofs.YtllejfnmbpjhaaaGreatDoor
