import Derived.Test.YtonhedefjmkpcaaGreatDoorPVlC
import Derived.Test.YtonhedefjmkpcaaGreatDoorPSpDr
import Derived.Test.YtonhedefjmkpcaaGreatDoorPDiPut
import Derived.Test.YtonhedefjmkpcaaGreatDoorPDiGet
import Derived.Test.YtonhedefjmkpcaaGreatDoorPAl
/- vol: Mine. -/
namespace Go.Proofs.YtonhedefjmkpcaaGreatDoor
set_option maxRecDepth 20000
namespace Vl
open Go.RowKit Dk Gm Eqb

/-- the place of the space in a volume's box -/
def spPl (b : Nat) (v0 v1 v2 v3 v4 v5 : Value) : Pl := ⟨b, [v0, v1, v2, v3, v4, v5], [], 36⟩
theorem sp_bs {w : World} {b : Nat} {sa ca pa ao : Option Addr} {n sc m cc k cap kk kc : Nat} {fu gen A B Z : Int} {d : Bool} (h : Vb w b (.slice sa n sc) (.slice ca m cc) (.int .i64 fu) (.bool d) (.int .i64 gen) (.slice pa k cap) (.int .i64 A) (.int .i64 B) (.int .i64 Z) (.slice ao kk kc)) :
  Sp.Bs w (spPl b (.slice sa n sc) (.slice ca m cc) (.int .i64 fu) (.bool d) (.int .i64 gen) (.slice pa k cap)) A B Z ao kk kc := by
 refine ⟨h, ?_⟩
 intro x hx z
 simp only [spPl, List.append_nil, List.mem_cons, List.not_mem_nil, or_false] at hx
 rcases hx with rfl | rfl | rfl | rfl | rfl | rfl <;> simp
theorem below_row {a w w' : World} {b : Nat} (hb : Below a.heap.size a w) (hg : w.grownBy w' (some b)) (hk : a.heap.size ≤ b) : Below a.heap.size a w' :=
 ⟨hg.os.trans hb.os, hg.tape.trans hb.tape, hg.output.trans hb.output, Nat.le_trans hb.size hg.size, fun k hk' => (hg.block k (Nat.lt_of_lt_of_le hk' hb.size) (by simp; omega)).trans (hb.block k hk')⟩
theorem box_vp (w : World) (v0 v1 v2 v3 v4 v5 v6 v7 v8 v9 : Value) (p : Pt.Pn) : ∃ W, W = (w.alloc (.cells #[v0, v1, v2, v3, v4, v5, v6, v7, v8, v9] 36)).alloc (.cells (Pt.pV p).toArray 50) ∧ Below w.heap.size w W ∧ W.heap.size = w.heap.size + 2 ∧ Vb W w.heap.size v0 v1 v2 v3 v4 v5 v6 v7 v8 v9 ∧
  W.heap[w.heap.size + 1]? = some (.cells (Pt.pV p).toArray 50 (0, 0)) := by
 refine ⟨_, rfl, ((Below.refl _ _).alloc (Nat.le_refl _) _).alloc (by simp) _, by simp, (Below.heap_alloc _ _ _ (by simp)).trans (heap_alloc_new w _), ?_⟩
 have := heap_alloc_new (w.alloc (.cells #[v0, v1, v2, v3, v4, v5, v6, v7, v8, v9] 36)) (.cells (Pt.pV p).toArray 50)
 rwa [World.size_alloc] at this
/-- is a pointer one of the volume? -/
def mnB (n m : Nat) (C : Nat → Wr) (gen : Int) (k : Nat) (F T : Nat → Int) (A B Z : Int) (kk : Nat) (f : Nat → Int) (p : Pt.Pn) : Bool := rvB n m C gen k F T A B Z kk f && Sp.drB A B Z kk f p

set_option maxRecDepth 100000 in
set_option maxHeartbeats 4000000 in
theorem Mine_any (sa : Option Addr) (n sc : Nat) (ca : Option Addr) (m cc : Nat) (fu : Int) (d : Bool) (gen : Int) (pa : Option Addr) (k cap : Nat) (A B Z : Int) (ao : Option Addr) (kk kc g : Nat) (C : Nat → Wr) (F T : Nat → Int) (f : Nat → Int) (p : Pt.Pn) (w : World)
  (hn : n ≤ 140737488355328) (hm : m ≤ 140737488355328) (hc : Lay w w.heap.size g ca m cc 129 (fun i => wrV (C i))) (hl : Lay w w.heap.size g pa k cap 2 (Rm.prV F T)) (hk : k ≤ 140737488355328) (hF : ∀ i, i < k → Rm.i64 (F i) ∧ Rm.i64 (T i)) (hB : Sp.i64 B) (hs : Sp.St w w.heap.size ao kk kc f) (hpA : Sp.i64 p.A) (hpB : Sp.i64 p.B) :
  Calls Tryz.prog 17 #[.agg #[.slice sa n sc, .slice ca m cc, .int .i64 fu, .bool d, .int .i64 gen, .slice pa k cap, .int .i64 A, .int .i64 B, .int .i64 Z, .slice ao kk kc], .agg (Pt.pV p).toArray] w fun e w' => e = .returned (.bool (mnB n m C gen k F T A B Z kk f p)) ∧ Below w.heap.size w w' := by
 obtain ⟨W, hW, hB0, hs0, hX0, hP0⟩ := box_vp w (.slice sa n sc) (.slice ca m cc) (.int .i64 fu) (.bool d) (.int .i64 gen) (.slice pa k cap) (.int .i64 A) (.int .i64 B) (.int .i64 Z) (.slice ao kk kc) p
 have HRT := Lib.hid (Right_any sa n sc ca m cc fu d gen pa k cap A B Z ao kk kc g C F T f W hn hm ((hc.below hB0).more hB0.size) ((hl.below hB0).more hB0.size) hk hF hB (hs.later hB0))
 have HDR := Lib.hid (fun w' (h : Below W.heap.size W w') => Sp.Drop_any _ A B Z p ao kk kc f w' (sp_bs (hX0.below h (by omega))) hB (hs.later (hB0.trans (h.mono hB0.size))) hpA hpB)
 have HPP := Lib.hid (fun w' (h : Below W.heap.size W w') => Pt.row_pt ((h.block (w.heap.size + 1) (by omega)).trans hP0))
 have HV : Hid (mnB n m C gen k F T A B Z kk f p = (rvB n m C gen k F T A B Z kk f && (Sp.drE A B Z kk f p == 0))) := Lib.hid (by
  unfold mnB Sp.drE
  cases Sp.drB A B Z kk f p <;> rfl)
 have c0 := hX0.c0
 have c1 := hX0.c1
 have c2 := hX0.c2
 have c3 := hX0.c3
 have c4 := hX0.c4
 have c5 := hX0.c5
 have c6 := hX0.c6
 have c7 := hX0.c7
 have c8 := hX0.c8
 have c9 := hX0.c9
 clear hX0 hP0 hs hl hF hc
 generalize mnB n m C gen k F T A B Z kk f p = V at HV ⊢
 generalize Sp.drE A B Z kk f p = E at HDR HV
 generalize rvB n m C gen k F T A B Z kk f = R at HRT HV
 go_enter Tryz.func17, Tryz.ntmps17
 go_wp2_with (rw [← hW])
 clear hW
 refine HRT.out.mono ?_
 rintro _ w1 ⟨rfl, hb1⟩
 have HD1 := Lib.hid (HDR.out w1 hb1)
 have q1 := HPP.out w1 hb1
 clear HDR HPP c0 c1 c2 c3 c4 c5 c6 c7 c8 c9
 dsimp only
 cases R with
 | false =>
  go_wp2_with fail
  go_ret
  exact ⟨by rw [HV.out]; rfl, hB0.trans (hb1.mono hB0.size)⟩
 | true =>
  go_wp2_with (refine @wpList_loadG _ _ _ _ _ _ _ (by kernel_rfl) 50 (.tmp 3) rfl (w.heap.size + 1) 0 rfl (Pt.pV p) _ q1 Pt.undP rfl (Pt.sizeP p) ?_; simp only [Act.put, aI, aS, aZ])
  refine HD1.out.mono ?_
  rintro _ w2 ⟨rfl, hT⟩
  have hb2 : Below w.heap.size w w2 := below_row (hB0.trans (hb1.mono hB0.size)) hT.only (Nat.le_refl _)
  clear HD1 hT q1
  dsimp only
  go_wp2_with fail
  go_ret
  exact ⟨by rw [HV.out]; rfl, hb2⟩
end Vl
end Go.Proofs.YtonhedefjmkpcaaGreatDoor
/- vol: a volume's variable: disk, table and space at one place; what a call on one of them leaves of the others. -/
namespace Go.Proofs.YtonhedefjmkpcaaGreatDoor
set_option maxRecDepth 20000
namespace Vm
open Go.RowKit Dk Byt Rm Di

/-- the space's four cells -/
def spC (A B Z : Int) (ao : Option Addr) (k kc : Nat) : List Value := [.int .i64 A, .int .i64 B, .int .i64 Z, .slice ao k kc]
/-- at the place V lie a disk, its table and a space of k states -/
def HasVol (w : World) (V : Pl) (n : Nat) (X : Dst) (M : Tab) (A B Z : Int) (k : Nat) (f : Nat → Int) : Prop :=
 V.NoB ∧ ∃ ao kc, HasV w (V.hd (spC A B Z ao k kc)) n X M ∧ Sp.St w w.heap.size ao k kc f
section
variable {w w' : World} {V : Pl} {n k : Nat} {X X' : Dst} {M M' : Tab} {A B Z : Int} {f f' : Nat → Int} {ao : Option Addr} {kc : Nat}
/-- a volume's space, its first six cells ahead of it -/
theorem sp_at (hN : V.NoB) (h : HasV w (V.hd (spC A B Z ao k kc)) n X M) : ∃ l, Sp.Bs w (V.tl l) A B Z ao k kc ∧ l.length = 6 := by
 obtain ⟨pa, cap, ⟨sa, sc, ca, cc, hh⟩, _, _⟩ := h
 have h1 := Pl.at_hd.1 (Pl.at_hd.1 hh.bx)
 refine ⟨[.slice sa n sc, .slice ca X.m cc, .int .i64 X.f, .bool X.d, .int .i64 M.gen, .slice pa M.k cap], ⟨Pl.at_tl.2 (by simpa [spC] using h1), ?_⟩, rfl⟩
 intro x hx z
 simp only [Pl.tl, List.mem_append, List.mem_cons, List.not_mem_nil, or_false] at hx
 rcases hx with (hx | hx | hx | hx | hx | hx | hx) | hx
 ·exact hN x (by simp [hx]) z
 ·rw [hx]; simp
 ·rw [hx]; simp
 ·rw [hx]; simp
 ·rw [hx]; simp
 ·rw [hx]; simp
 ·rw [hx]; simp
 ·exact hN x (by simp [hx]) z
/-- a call on the disk and its table leaves the space -/
theorem HasVol.disk (h : HasVol w V n X M A B Z k f) : ∃ ao kc, HasV w (V.hd (spC A B Z ao k kc)) n X M ∧ ∀ w' X' M', w.grownBy w' (some V.b) → HasV w' (V.hd (spC A B Z ao k kc)) n X' M' → HasVol w' V n X' M' A B Z k f := by
 obtain ⟨hN, ao, kc, hv, hs⟩ := h
 obtain ⟨l, hb, _⟩ := sp_at hN hv
 exact ⟨ao, kc, hv, fun w' X' M' hg hv' => ⟨hN, ao, kc, hv', hs.keepG (Nat.le_refl _) hb hg⟩⟩
/-- a call on the space leaves the disk and its table -/
theorem HasVol.space (h : HasVol w V n X M A B Z k f) : ∃ l ao kc, l.length = 6 ∧ Sp.Bs w (V.tl l) A B Z ao k kc ∧ Sp.St w w.heap.size ao k kc f ∧ ∀ w' f', Sp.Turn w (V.tl l) A B Z k f' w' → HasVol w' V n X M A B Z k f' := by
 obtain ⟨hN, ao, kc, hv, hs⟩ := h
 obtain ⟨pa, cap, ⟨sa, sc, ca, cc, hh⟩, hl, h0⟩ := hv
 have h1 := Pl.at_hd.1 (Pl.at_hd.1 hh.bx)
 refine ⟨[.slice sa n sc, .slice ca X.m cc, .int .i64 X.f, .bool X.d, .int .i64 M.gen, .slice pa M.k cap], ao, kc, rfl, ?_, hs, ?_⟩
 ·obtain ⟨l, hb, _⟩ := sp_at hN ⟨pa, cap, ⟨sa, sc, ca, cc, hh⟩, hl, h0⟩
  refine ⟨Pl.at_tl.2 (by simpa [spC] using h1), ?_⟩
  intro x hx z
  simp only [Pl.tl, List.mem_append, List.mem_cons, List.not_mem_nil, or_false] at hx
  rcases hx with (hx | hx | hx | hx | hx | hx | hx) | hx
  ·exact hN x (by simp [hx]) z
  ·rw [hx]; simp
  ·rw [hx]; simp
  ·rw [hx]; simp
  ·rw [hx]; simp
  ·rw [hx]; simp
  ·rw [hx]; simp
  ·exact hN x (by simp [hx]) z
 ·rintro w' f' ⟨⟨ao', kc', hb', hs'⟩, hg, _⟩
  have hg' : w.grownBy w' (some V.b) := hg
  have h2 := Pl.at_tl.1 hb'.1
  refine ⟨hN, ao', kc', ⟨pa, cap, ⟨sa, sc, ca, cc, Pl.at_hd.2 (Pl.at_hd.2 (by simpa [spC] using h2)), (hh.ss.grown hg' (Nat.le_refl _)).more hg'.size, (hh.cs.grown hg' (Nat.le_refl _)).more hg'.size, hh.nb, hh.mb, hh.ts.grown hh.ss hg' (Nat.le_refl _), hh.tc.grown hh.cs hg' (Nat.le_refl _)⟩, (hl.grown hg' (Nat.le_refl _)).more hg'.size, h0⟩, hs'⟩
theorem HasVol.below (h : HasVol w V n X M A B Z k f) (hb : Below w.heap.size w w') : HasVol w' V n X M A B Z k f := by
 obtain ⟨hN, ao, kc, hv, hs⟩ := h
 exact ⟨hN, ao, kc, HasV.below hv hb, hs.later hb⟩
theorem HasVol.lt (h : HasVol w V n X M A B Z k f) : V.b < w.heap.size := by
 obtain ⟨_, ao, kc, hv, _⟩ := h
 exact hasV_lt (g := V.hd (spC A B Z ao k _)) hv
theorem tl_place (V : Pl) {l : List Value} (h : l.length = 6) : (V.tl l).o = V.o + 6 ∧ (V.tl l).b = V.b := ⟨by rw [Pl.tl_o, h], rfl⟩
end
end Vm
end Go.Proofs.YtonhedefjmkpcaaGreatDoor
/- vol: right and mine, of a volume at a place (made by tools/gen_vlmine.py). -/
namespace Go.Proofs.YtonhedefjmkpcaaGreatDoor
set_option maxRecDepth 20000
namespace Vl
open Go.RowKit Dk Gm Eqb Rm Vm

attribute [local irreducible] wpQuiet
/-- what lies at a volume's place -/
structure Vx (w : World) (V : Pl) (n : Nat) (X : Dst) (M : Tab) (A B Z : Int) (k : Nat) (f : Nat → Int) (sa : Option Addr) (sc : Nat) (ca : Option Addr) (cc : Nat) (pa : Option Addr) (cap : Nat) (ao : Option Addr) (kc : Nat) : Prop where
 at' : V.At w [.slice sa n sc, .slice ca X.m cc, .int .i64 X.f, .bool X.d, .int .i64 M.gen, .slice pa M.k cap, .int .i64 A, .int .i64 B, .int .i64 Z, .slice ao k kc]
 ss : Lay w w.heap.size V.b sa n sc 130 (fun i => secV (X.S i))
 cs : Lay w w.heap.size V.b ca X.m cc 129 (fun i => wrV (X.C i))
 ls : Lay w w.heap.size V.b pa M.k cap 2 (prV M.F M.T)
 st : Sp.St w w.heap.size ao k kc f
 nb : n * 130 ≤ 140737488355328
 mb : X.m * 136 ≤ 140737488355328
 ts : Ty w n sa 63
 tc : Ty w X.m ca 204
section
variable {w w' : World} {V : Pl} {n k : Nat} {X : Dst} {M : Tab} {A B Z : Int} {f : Nat → Int} {sa ca pa ao : Option Addr} {sc cc cap kc : Nat}
theorem HasVol.open' (h : HasVol w V n X M A B Z k f) : ∃ sa sc ca cc pa cap ao kc, Vx w V n X M A B Z k f sa sc ca cc pa cap ao kc := by
 obtain ⟨hN, ao, kc, ⟨pa, cap, ⟨sa, sc, ca, cc, hh⟩, hl, h0⟩, hs⟩ := h
 have h1 := Pl.at_hd.1 (Pl.at_hd.1 hh.bx)
 exact ⟨sa, sc, ca, cc, pa, cap, ao, kc, by simpa [Vm.spC] using h1, hh.ss, hh.cs, hl, hs, hh.nb, hh.mb, hh.ts, hh.tc⟩
theorem Vx.has (h : Vx w V n X M A B Z k f sa sc ca cc pa cap ao kc) (hN : V.NoB) (h0 : V.b ≠ 0) : HasVol w V n X M A B Z k f :=
 ⟨hN, ao, kc, ⟨pa, cap, ⟨sa, sc, ca, cc, ⟨Pl.at_hd.2 (Pl.at_hd.2 (by simpa [Vm.spC] using h.at')), h.ss, h.cs, h.nb, h.mb, h.ts, h.tc⟩⟩, h.ls, h0⟩, h.st⟩
theorem Vx.below (h : Vx w V n X M A B Z k f sa sc ca cc pa cap ao kc) (hb : Below w.heap.size w w') : Vx w' V n X M A B Z k f sa sc ca cc pa cap ao kc :=
 ⟨h.at'.below hb, (h.ss.below hb).more hb.size, (h.cs.below hb).more hb.size, (h.ls.below hb).more hb.size, h.st.later hb, h.nb, h.mb, h.ts.below h.ss hb, h.tc.below h.cs hb⟩
theorem Vx.c0 (h : Vx w V n X M A B Z k f sa sc ca cc pa cap ao kc) : w.cell? ⟨V.b, V.o, none⟩ = some (.slice sa n sc) := h.at'.cell (j := 0) (by simp)
theorem Vx.c1 (h : Vx w V n X M A B Z k f sa sc ca cc pa cap ao kc) : w.cell? ⟨V.b, V.o + 1, none⟩ = some (.slice ca X.m cc) := h.at'.cell (j := 1) (by simp)
theorem Vx.c2 (h : Vx w V n X M A B Z k f sa sc ca cc pa cap ao kc) : w.cell? ⟨V.b, V.o + 2, none⟩ = some (.int .i64 X.f) := h.at'.cell (j := 2) (by simp)
theorem Vx.c3 (h : Vx w V n X M A B Z k f sa sc ca cc pa cap ao kc) : w.cell? ⟨V.b, V.o + 3, none⟩ = some (.bool X.d) := h.at'.cell (j := 3) (by simp)
theorem Vx.c4 (h : Vx w V n X M A B Z k f sa sc ca cc pa cap ao kc) : w.cell? ⟨V.b, V.o + 4, none⟩ = some (.int .i64 M.gen) := h.at'.cell (j := 4) (by simp)
theorem Vx.c5 (h : Vx w V n X M A B Z k f sa sc ca cc pa cap ao kc) : w.cell? ⟨V.b, V.o + 5, none⟩ = some (.slice pa M.k cap) := h.at'.cell (j := 5) (by simp)
theorem Vx.c6 (h : Vx w V n X M A B Z k f sa sc ca cc pa cap ao kc) : w.cell? ⟨V.b, V.o + 6, none⟩ = some (.int .i64 A) := h.at'.cell (j := 6) (by simp)
theorem Vx.c7 (h : Vx w V n X M A B Z k f sa sc ca cc pa cap ao kc) : w.cell? ⟨V.b, V.o + 7, none⟩ = some (.int .i64 B) := h.at'.cell (j := 7) (by simp)
theorem Vx.c8 (h : Vx w V n X M A B Z k f sa sc ca cc pa cap ao kc) : w.cell? ⟨V.b, V.o + 8, none⟩ = some (.int .i64 Z) := h.at'.cell (j := 8) (by simp)
theorem Vx.c9 (h : Vx w V n X M A B Z k f sa sc ca cc pa cap ao kc) : w.cell? ⟨V.b, V.o + 9, none⟩ = some (.slice ao k kc) := h.at'.cell (j := 9) (by simp)
end
/-- is it right? -/
def rv (n : Nat) (X : Dst) (M : Tab) (A B Z : Int) (k : Nat) (f : Nat → Int) : Bool := rvB n X.m X.C M.gen M.k M.F M.T A B Z k f
def mn (n : Nat) (X : Dst) (M : Tab) (A B Z : Int) (k : Nat) (f : Nat → Int) (p : Pt.Pn) : Bool := mnB n X.m X.C M.gen M.k M.F M.T A B Z k f p

set_option maxRecDepth 100000 in
set_option maxHeartbeats 4000000 in
theorem right_v {w : World} {V : Pl} {n k : Nat} {X : Dst} {M : Tab} {A B Z : Int} {f : Nat → Int} (h : HasVol w V n X M A B Z k f) (hm : TabOk M) (hB : Sp.i64 B) :
  Calls Tryz.prog 107 #[.pointer (some ⟨V.b, V.o, none⟩)] w fun e w' => e = .returned (.bool (rv n X M A B Z k f)) ∧ Below w.heap.size w w' := by
 obtain ⟨sa, sc, ca, cc, pa, cap, ao, kc, hx⟩ := HasVol.open' h
 have HR := Lib.hid (Right_any sa n sc ca X.m cc X.f X.d M.gen pa M.k cap A B Z ao k kc V.b X.C M.F M.T f w (by have := hx.nb; omega) (by have := hx.mb; omega) hx.cs hx.ls hm.1 hm.2 hB hx.st)
 have hv : Hid (rv n X M A B Z k f = rvB n X.m X.C M.gen M.k M.F M.T A B Z k f) := Lib.hid rfl
 rw [hv.out]
 generalize rvB n X.m X.C M.gen M.k M.F M.T A B Z k f = R at HR ⊢
 have c0 := hx.c0
 have c1 := hx.c1
 have c2 := hx.c2
 have c3 := hx.c3
 have c4 := hx.c4
 have c5 := hx.c5
 have c6 := hx.c6
 have c7 := hx.c7
 have c8 := hx.c8
 have c9 := hx.c9
 clear hx h hm hB hv
 go_enter Tryz.func107, Tryz.ntmps107
 go_wp2_with fail
 refine HR.out.mono ?_
 rintro _ w1 ⟨rfl, hb1⟩
 clear c0 c1 c2 c3 c4 c5 c6 c7 c8 c9 HR
 dsimp only
 go_wp2_with fail
 go_ret
 exact ⟨rfl, hb1⟩

set_option maxRecDepth 100000 in
set_option maxHeartbeats 4000000 in
theorem mine_v {w : World} {V : Pl} {n k : Nat} {X : Dst} {M : Tab} {A B Z : Int} {f : Nat → Int} (h : HasVol w V n X M A B Z k f) (hm : TabOk M) (hB : Sp.i64 B) (p : Pt.Pn) (hpA : Sp.i64 p.A) (hpB : Sp.i64 p.B) :
  Calls Tryz.prog 62 #[.pointer (some ⟨V.b, V.o, none⟩), .agg (Pt.pV p).toArray] w fun e w' => e = .returned (.bool (mn n X M A B Z k f p)) ∧ Below w.heap.size w w' := by
 obtain ⟨sa, sc, ca, cc, pa, cap, ao, kc, hx⟩ := HasVol.open' h
 obtain ⟨hb0, hx0, hs0⟩ := Pt.box_pt w p
 have HR := Lib.hid (fun w' (h : Below w.heap.size w w') => Mine_any sa n sc ca X.m cc X.f X.d M.gen pa M.k cap A B Z ao k kc V.b X.C M.F M.T f p w' (by have := hx.nb; omega) (by have := hx.mb; omega) (hx.below h).cs (hx.below h).ls hm.1 hm.2 hB (hx.below h).st hpA hpB)
 have hv : Hid (mn n X M A B Z k f p = mnB n X.m X.C M.gen M.k M.F M.T A B Z k f p) := Lib.hid rfl
 rw [hv.out]
 generalize mnB n X.m X.C M.gen M.k M.F M.T A B Z k f p = R at HR ⊢
 have HXX := Lib.hid (fun w' (h : Below w.heap.size w w') => hx.below h)
 clear hx h hm hB hv
 go_enter Tryz.func62, Tryz.ntmps62
 go_wp2_with fail
 generalize w.alloc (.cells (Pt.pV p).toArray 50) = W at hb0 hx0 hs0 ⊢
 have HX := Lib.hid (fun w' (hw' : Below W.heap.size W w') => HXX.out w' (hb0.trans (hw'.mono hb0.size)))
 have HC := Lib.hid (fun w' (hw' : Below W.heap.size W w') => HR.out w' (hb0.trans (hw'.mono hb0.size)))
 have HP := Lib.hid (fun w' (hw' : Below W.heap.size W w') => Pt.row_pt ((hw'.block w.heap.size (by omega)).trans hx0))
 clear hx0 HXX HR
 refine wp_region_quiet (C := fun w' => Below W.heap.size W w') (by kernel_rfl) (by kernel_rfl) ⟨rfl, rfl, rfl, Nat.le_refl _, fun _ _ => rfl⟩ ?_
 refine q_move _ rfl rfl ?_
 simp only [Act.put, aI, aS, aZ]
 refine q_val (.bool true) rfl (fun w' hw' => by go_simp) ?_
 simp only [Act.put, aI, aS, aZ]
 refine q_move _ rfl rfl ?_
 simp only [Act.put, aI, aS, aZ]
 refine q_move _ rfl (by kernel_rfl) ?_
 simp only [Act.put, aI, aS, aZ]
 refine q_val (.pointer (some ⟨V.b, V.o, none⟩)) (by kernel_rfl) (fun w' hw' => by go_simp) ?_
 simp only [Act.put, aI, aS, aZ]
 refine q_val (.agg #[.slice sa n sc, .slice ca X.m cc, .int .i64 X.f, .bool X.d, .int .i64 M.gen, .slice pa M.k cap, .int .i64 A, .int .i64 B, .int .i64 Z, .slice ao k kc]) (by kernel_rfl) (fun w' hw' => by have hv := HX.out w' hw'; have k0 := hv.c0; have k1 := hv.c1; have k2 := hv.c2; have k3 := hv.c3; have k4 := hv.c4; have k5 := hv.c5; have k6 := hv.c6; have k7 := hv.c7; have k8 := hv.c8; have k9 := hv.c9; clear hv; go_simp) ?_
 simp only [Act.put, aI, aS, aZ]
 refine q_loadB 50 (.tmp 3) rfl (by kernel_rfl) w.heap.size 0 rfl (Pt.pV p) _ (fun w' hw' => HP.out w' hw') Pt.undP rfl (Pt.sizeP p) ?_
 simp only [Act.put, aI, aS, aZ]
 refine q_call 17 _ (.bool R) (by kernel_rfl) (fun w' => by go_simp) (fun w' hw' => (HC.out w' hw').mono fun e w'' ⟨he, hb⟩ => ⟨he, hw'.trans (hb.mono hw'.size)⟩) ?_
 simp only [Act.put, aI, aS, aZ]
 refine q_val (.bool R) rfl (fun w' hw' => by go_simp) ?_
 simp only [Act.put, aI, aS, aZ]
 refine q_val (.bool R) rfl (fun w' hw' => by go_simp) ?_
 simp only [Act.put, aI, aS, aZ]
 refine wpQuiet_nil ?_
 intro w3 hw3
 go_wp2_with fail
 go_ret
 exact ⟨rfl, hb0.trans (hw3.mono hb0.size)⟩
end Vl
end Go.Proofs.YtonhedefjmkpcaaGreatDoor
