import Derived.Test.YtebgaafaokiigaaGreatDoorPVlN
/- vol: New(4). -/
namespace Go.Proofs.YtebgaafaokiigaaGreatDoor
set_option maxRecDepth 20000
namespace Vl
open Go.RowKit Dk Gm Eqb Rm Vm Di

/-- the lists of a new volume -/
structure Nv (w : World) (sa : Option Addr) (sc : Nat) (ca : Option Addr) (cc : Nat) (ao : Option Addr) (kc : Nat) : Prop where
  ss : Lay w w.heap.size w.heap.size sa 332 sc 130 (fun i => secV (vX1.S i))
  cs : Lay w w.heap.size w.heap.size ca 0 cc 129 (fun i => wrV (vX1.C i))
  ts : Ty w 332 sa 74
  st : Sp.St w w.heap.size ao 256 kc (fun _ => 0)
def nvC (sa : Option Addr) (sc : Nat) (ca : Option Addr) (cc : Nat) (ao : Option Addr) (kc : Nat) : Array Value := #[.slice sa 332 sc, .slice ca 0 cc, .int .i64 (-1), .bool false, .int .i64 0, .slice none 0 0, .int .i64 28, .int .i64 184, .int .i64 128, .slice ao 256 kc]
theorem Nv.below {w w' : World} {sa ca ao : Option Addr} {sc cc kc : Nat} (h : Nv w sa sc ca cc ao kc) (hb : Below w.heap.size w w') : Nv w' sa sc ca cc ao kc :=
  ⟨((h.ss.below hb).other hb.size).more hb.size, ((h.cs.below hb).other hb.size).more hb.size, h.ts.below h.ss hb, h.st.later hb⟩
/-- stored into a variable of its own -/
theorem Nv.has {w : World} {sa ca ao : Option Addr} {sc cc kc : Nat} (h : Nv w sa sc ca cc ao kc) (h0 : w.heap.size ≠ 0) {w' : World} (hw : w' = w.alloc (.cells (nvC sa sc ca cc ao kc) 34)) : HasVol w' (Pl.own w.heap.size 34) 332 vX1 vM 28 184 128 256 (fun _ => 0) := by
  obtain ⟨_, hu, hm, _⟩ := fresh_up
  have hb : Below w.heap.size w w' := by rw [hw]; exact (Below.refl _ _).alloc (Nat.le_refl _) _
  refine Vx.has (sa := sa) (sc := sc) (ca := ca) (cc := cc) (pa := none) (cap := 0) (ao := ao) (kc := kc) ⟨?_, (h.ss.below hb).more hb.size, ?_, Lay.empty _ _ _ 0 _ _, h.st.later hb, by omega, by omega, h.ts.below h.ss hb, by rw [hm]; exact .zero _ _ _⟩ (Pl.own_noB _ _) h0
  · rw [hm, hu.n, hu.d, hw]
    exact heap_alloc_new w _
  · rw [hm]
    exact (h.cs.below hb).more hb.size

/-- a box of another type is written -/
theorem lay_row {w : World} {b g : Nat} {ao : Option Addr} {n cap k : Nat} {T : Nat → List Value} {t t' : TypeId} {cur : Array Value} {fr : Nat × Nat} (hl : Lay w w.heap.size g ao n cap k T) (ht : Ty w n ao t) (hb : w.heap[b]? = some (.cells cur t' fr)) (hne : t' ≠ t) (c : Array Value) :
    Lay (w.setRow b c) (w.setRow b c).heap.size (w.setRow b c).heap.size ao n cap k T ∧ Ty (w.setRow b c) n ao t := by
  have hg : w.grownBy (w.setRow b c) (some b) := grown_row c
  have hz := ht.ne hb hne
  constructor
  · refine Lay.more (B := w.heap.size) ⟨hl.room, hl.nil, ?_⟩ hg.size
    rcases hl.rows with h0 | ⟨q, off, e, hq, _, hr⟩
    · exact .inl h0
    · rcases hz with h0 | hz
      · exact .inl h0
      · exact .inr ⟨q, off, e, hq, by have := hg.size; omega, fun i hi j v hv => (World.cell?_of_block (hg.block q hq (by simpa using hz q off _ e))).trans (hr i hi j v hv)⟩
  · rcases hz with h0 | hz
    · exact .inl h0
    · exact ht.grown2 (g := g) hg hl fun q o e => .inr (by simpa using hz q o _ e)
theorem ok4 : Dk.newOk 332 = true := by decide
theorem er4 : er 4 = 0 := er_in in4

set_option maxRecDepth 100000 in
set_option maxHeartbeats 4000000 in
theorem new_v (w : World) (hk : Rm.Kp w) : Calls Tryz.prog 19 #[.int .i64 4] w fun e w' => ∃ sa sc ca cc ao kc, e = .returned (.tuple #[.agg (nvC sa sc ca cc ao kc), .int .i64 0]) ∧ Nv w' sa sc ca cc ao kc ∧ Below w.heap.size w w' := by
  have HK := Lib.hid (fun W (hb : Below w.heap.size w W) => hk.below hb)
  obtain ⟨he1, hup, hm1, _⟩ := fresh_up
  have HM1 := Lib.hid hm1
  have HN1 := Lib.hid hup.n
  have HD1 := Lib.hid hup.d
  have HFQ := Lib.hid (fun w' => forq_any 4 w')
  rw [geo_in in4, er4, g4_lay] at HFQ
  obtain ⟨W, hW, hB0, hs0, hV0⟩ : ∃ W, W = w.alloc (.cells #[.slice none 0 0, .slice none 0 0, .int .i64 0, .bool false, .int .i64 0, .slice none 0 0, .int .i64 0, .int .i64 0, .int .i64 0, .slice none 0 0] 34) ∧ Below w.heap.size w W ∧ W.heap.size = w.heap.size + 1 ∧ Vb W w.heap.size (.slice none 0 0) (.slice none 0 0) (.int .i64 0) (.bool false) (.int .i64 0) (.slice none 0 0) (.int .i64 0) (.int .i64 0) (.int .i64 0) (.slice none 0 0) :=
    ⟨_, rfl, (Below.refl _ _).alloc (Nat.le_refl _) _, by simp, heap_alloc_new _ _⟩
  clear hk hup hm1
  dsimp only [g4] at HFQ
  go_enter Tryz.func19, Tryz.ntmps19
  go_wp2_with fail
  rw [← hW]
  clear hW
  refine (HFQ.out W).mono ?_
  rintro _ w1 ⟨rfl, hb1⟩
  have hV1 := hV0.below hb1 (by omega)
  have hB1 := hB0.trans (hb1.mono hB0.size)
  have hs1 := hb1.size
  clear HFQ hV0 hb1 hB0
  obtain ⟨w2, hW2⟩ : ∃ w2, w2 = w1.alloc (.cells #[.int .i64 332, .int .i64 156, .int .i64 2, .int .i64 4, .int .i64 28, .int .i64 128] 82) := ⟨_, rfl⟩
  have hb2 : Below w1.heap.size w1 w2 := by rw [hW2]; exact (Below.refl _ _).alloc (Nat.le_refl _) _
  have hG2 : w2.heap[w1.heap.size]? = some (.cells g4 82 (0, 0)) := by rw [hW2]; exact heap_alloc_new w1 _
  have hs2 : w2.heap.size = w1.heap.size + 1 := by rw [hW2]; simp
  have hV2 := hV1.below hb2 (by omega)
  have hB2 := hB1.trans (hb2.mono hB1.size)
  dsimp only
  go_wp2_with (rw [← hW2])
  clear hW2 hV1 hB1 hb2
  have hgl : w1.heap.size < w2.heap.size := by omega
  generalize w1.heap.size = bg at hG2 hs1 hgl ⊢
  refine (new_any 332 w2).mono ?_
  intro e w3 hn
  obtain ⟨hb3, hn⟩ := hn
  rw [if_pos ok4] at hn
  obtain ⟨bl1, rfl, hl, hty⟩ := hn
  have hs3 := hb3.size
  have hG3 := (hb3.block bg hgl).trans hG2
  have hV3 := hV2.below hb3 (by omega)
  have hB3 := hB2.trans (hb3.mono hB2.size)
  clear hG2 hV2 hB2 hb3
  dsimp only
  go_wp2_with (refine wpList_store_row rfl 25 (.tmp 6) (.tmp 21) rfl w3.heap.size #[.slice (some ⟨bl1, 0, none⟩) 332 332, .slice none 0 0, .int .i64 (-1), .bool false] rfl rfl 25 _ (heap_alloc_new w3 _) (by kernel_rfl) rfl (disk_one _ _ _ _ _ _ _ _) ?_; rw [World.setRow_alloc_new]; simp only [Act.put])
  generalize hW4 : w3.alloc (.cells #[.slice (some ⟨bl1, 0, none⟩) 332 332, .slice none 0 0, .int .i64 (-1), .bool false] 25) = w4
  have hH4 : HasD w4 (Pl.own w3.heap.size 25) 332 vX0 := ⟨_, _, _, _, new_has (k := 332) (by omega) hl hty hW4.symm⟩
  have hb4 : Below w3.heap.size w3 w4 := by rw [← hW4]; exact (Below.refl _ _).alloc (Nat.le_refl _) _
  have hs4 : w4.heap.size = w3.heap.size + 1 := by rw [← hW4]; simp
  have hB4 := hB3.trans (hb4.mono hB3.size)
  have hG4 := (hb4.block bg (by omega)).trans hG3
  have hV4 := hV3.below hb4 (by omega)
  have hgl4 : w.heap.size < w3.heap.size ∧ bg < w3.heap.size ∧ w3.heap.size < w4.heap.size := by omega
  clear hW4 hl hty hG3 hV3 hB3 hb4
  generalize w3.heap.size = g at hH4 hgl4 hs4 ⊢
  refine (format_d hH4 (vX0_up.ok (k := 2) (by decide)) (HK.out w4 hB4)).mono ?_
  rw [he1]
  rintro _ w5 ⟨rfl, hg5, hD5⟩
  have hB5 : Below w.heap.size w w5 := below_only hB4 (by show w.heap.size ≤ g; omega) hg5
  have hs5 := hg5.size
  have hG5 := (hg5.block bg (by omega) (by show some bg ≠ some g; simp; omega)).trans hG4
  have hV5 := hV4.block (hg5.block w.heap.size (by omega) (by show some w.heap.size ≠ some g; simp; omega))
  have hD5' : HasD w5 (Pl.own g 25) 332 vX1 := hD5
  clear hg5 hB4 hD5 hH4 hG4 hV4
  obtain ⟨w6, hW6⟩ : ∃ w6, w6 = w5.alloc (.cells #[.int .i64 0, .slice none 0 0] 28) := ⟨_, rfl⟩
  have hb6 : Below w5.heap.size w5 w6 := by rw [hW6]; exact (Below.refl _ _).alloc (Nat.le_refl _) _
  have ht6 : w6.heap[w5.heap.size]? = some (.cells #[.int .i64 0, .slice none 0 0] 28 (0, 0)) := by rw [hW6]; exact heap_alloc_new _ _
  have hs6 : w6.heap.size = w5.heap.size + 1 := by rw [hW6]; simp
  obtain ⟨sa, sc, ca, cc, hH6⟩ := hD5'.below hb6
  rw [HM1.out, HN1.out, HD1.out] at hH6
  have hB6 := hB5.trans (hb6.mono hB5.size)
  have hG6 := (hb6.block bg (by omega)).trans hG5
  have hV6 := hV5.below hb6 (by omega)
  have HH6 := Lib.hid hH6
  have HB6 := Lib.hid hB6
  have HV6 := Lib.hid hV6
  have hbx := hH6.bx
  have c0 : w6.cell? ⟨g, 0, none⟩ = _ := hbx.c0
  have c1 : w6.cell? ⟨g, 1, none⟩ = _ := hbx.c1
  have c2 : w6.cell? ⟨g, 2, none⟩ = _ := hbx.c2
  have c3 : w6.cell? ⟨g, 3, none⟩ = _ := hbx.c3
  have k0 : w6.cell? ⟨bg, 0, none⟩ = some (.int .i64 332) := by rw [cell_of_row _ _ _ _ _ _ hG6]; rfl
  have k1 : w6.cell? ⟨bg, 1, none⟩ = some (.int .i64 156) := by rw [cell_of_row _ _ _ _ _ _ hG6]; rfl
  have k2 : w6.cell? ⟨bg, 2, none⟩ = some (.int .i64 2) := by rw [cell_of_row _ _ _ _ _ _ hG6]; rfl
  have k3 : w6.cell? ⟨bg, 3, none⟩ = some (.int .i64 4) := by rw [cell_of_row _ _ _ _ _ _ hG6]; rfl
  have k4 : w6.cell? ⟨bg, 4, none⟩ = some (.int .i64 28) := by rw [cell_of_row _ _ _ _ _ _ hG6]; rfl
  have k5 : w6.cell? ⟨bg, 5, none⟩ = some (.int .i64 128) := by rw [cell_of_row _ _ _ _ _ _ hG6]; rfl
  have b0 : w5.cell? ⟨g, 0, none⟩ = _ := (hb6.cell (p := ⟨g, 0, none⟩) (by show g < w5.heap.size; omega)).symm.trans c0
  have b1 : w5.cell? ⟨g, 1, none⟩ = _ := (hb6.cell (p := ⟨g, 1, none⟩) (by show g < w5.heap.size; omega)).symm.trans c1
  have b2 : w5.cell? ⟨g, 2, none⟩ = _ := (hb6.cell (p := ⟨g, 2, none⟩) (by show g < w5.heap.size; omega)).symm.trans c2
  have b3 : w5.cell? ⟨g, 3, none⟩ = _ := (hb6.cell (p := ⟨g, 3, none⟩) (by show g < w5.heap.size; omega)).symm.trans c3
  have j0 : w5.cell? ⟨bg, 0, none⟩ = some (.int .i64 332) := by rw [cell_of_row _ _ _ _ _ _ hG5]; rfl
  have j1 : w5.cell? ⟨bg, 1, none⟩ = some (.int .i64 156) := by rw [cell_of_row _ _ _ _ _ _ hG5]; rfl
  have j2 : w5.cell? ⟨bg, 2, none⟩ = some (.int .i64 2) := by rw [cell_of_row _ _ _ _ _ _ hG5]; rfl
  have j3 : w5.cell? ⟨bg, 3, none⟩ = some (.int .i64 4) := by rw [cell_of_row _ _ _ _ _ _ hG5]; rfl
  have j4 : w5.cell? ⟨bg, 4, none⟩ = some (.int .i64 28) := by rw [cell_of_row _ _ _ _ _ _ hG5]; rfl
  have j5 : w5.cell? ⟨bg, 5, none⟩ = some (.int .i64 128) := by rw [cell_of_row _ _ _ _ _ _ hG5]; rfl
  obtain ⟨m0, m1⟩ : w6.cell? ⟨w5.heap.size, 0, none⟩ = some (.int .i64 0) ∧ w6.cell? ⟨w5.heap.size, 1, none⟩ = some (.slice none 0 0) := tab_cells ht6
  clear hD5' hb6 ht6 hB5 hG5 hV5 hH6 hB6 hG6 hV6 hbx
  dsimp only
  rw [hW6] at c0 c1 c2 c3 k0 k1 k2 k3 k4 k5 m0 m1
  go_wp2_with (rw [← hW6])
  refine (unused4 sa 332 sc ca 0 cc (-1) false 0 none 0 0 w6).mono ?_
  rintro _ w7 ⟨ao, kc, rfl, hO, hb7⟩
  have hV7 := HV6.out.below hb7 (by omega)
  have hH7 := HH6.out.below hb7
  have hB7 := HB6.out.trans (hb7.mono HB6.out.size)
  clear c0 c1 c2 c3 k0 k1 k2 k3 k4 k5 m0 m1 b0 b1 b2 b3 j0 j1 j2 j3 j4 j5 hW6
  have HH7 := Lib.hid hH7
  have HB7 := Lib.hid hB7
  have HO7 := Lib.hid hO
  clear hH7 hB7 hO hb7
  dsimp only
  go_wp2_with (refine @wpList_store_row _ _ _ _ _ _ _ rfl 34 (.tmp 2) (.tmp 39) rfl w.heap.size (nvC sa sc ca cc ao kc) rfl rfl 34 _ hV7 (vol_size _ _ _ _ _ _ _ _ _ _) rfl (vol_one _ _ _ _ _ _ _ _ _ _ _ _ _ _ _ _ _ _) ?_; simp only [Act.put])
  have hrow : Vb _ w.heap.size _ _ _ _ _ _ _ _ _ _ := setRow_heap w7 w.heap.size _ (nvC sa sc ca cc ao kc) 34 (0, 0) hV7
  refine bodyPost_ret (hrow.results2 rfl rfl rfl) rfl ?_
  obtain ⟨l1, t1⟩ := lay_row HH7.out.ss HH7.out.ts hV7 (by decide) (nvC sa sc ca cc ao kc)
  obtain ⟨l2, _⟩ := lay_row HH7.out.cs HH7.out.tc hV7 (by decide) (nvC sa sc ca cc ao kc)
  exact ⟨sa, sc, ca, cc, ao, kc, rfl, ⟨l1, l2, t1, Sp.OwnS.st (own_only HO7.out (grown_row _) (by omega)) (fun _ _ => by decide) (by omega)⟩, below_only HB7.out (Nat.le_refl _) (grown_row _)⟩
end Vl
end Go.Proofs.YtebgaafaokiigaaGreatDoor
