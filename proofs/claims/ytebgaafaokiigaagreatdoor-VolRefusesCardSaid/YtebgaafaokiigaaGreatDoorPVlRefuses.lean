import Derived.Test.YtebgaafaokiigaaGreatDoorPVlL
import Derived.Test.YtebgaafaokiigaaGreatDoorPVmF
import Derived.Test.YtebgaafaokiigaaGreatDoorPVlH
/- vol: what Drop and Swap refuse. -/
namespace Go.Proofs.YtebgaafaokiigaaGreatDoor
set_option maxRecDepth 20000
namespace Vl
open Go.RowKit Dk Gm Eqb Rm Vm Di

attribute [local go_sem] zv29
attribute [local go_sem] Pt.zvP
attribute [local go_sem] zc29
set_option maxRecDepth 100000 in
set_option maxHeartbeats 4000000 in
theorem drop_no {w : World} {V : Pl} {n k : Nat} {X : Dst} {M : Tab} {A B Z : Int} {f : Nat → Int} (h : HasVol w V n X M A B Z k f) (hm : TabOk M) (hB : Sp.i64 B) (p : Pt.Pn) (hpA : Sp.i64 p.A) (hpB : Sp.i64 p.B) (hno : mn n X M A B Z k f p = false) :
    Calls Tryz.prog 17 #[.pointer (some ⟨V.b, V.o, none⟩), .agg (Pt.pV p).toArray] w fun e w' => e = .returned (.int .i64 1) ∧ Below w.heap.size w w' := by
  obtain ⟨hb0, hx0, hs0⟩ := Pt.box_pt w p
  have HMI := Lib.hid (mine_v (h.below hb0) hm hB p hpA hpB)
  rw [hno] at HMI
  have q0 := Pt.row_pt hx0
  clear h hm hB hno hx0
  go_enter Tryz.func17, Tryz.ntmps17
  go_wp2_with (refine @wpList_loadG _ _ _ _ _ _ _ (by kernel_rfl) 37 (.tmp 3) rfl w.heap.size 0 rfl (Pt.pV p) _ q0 Pt.undP rfl (Pt.sizeP p) ?_; simp only [Act.put, List.setIfInBounds_toArray, List.set_cons_succ, List.set_cons_zero])
  refine HMI.out.mono ?_
  rintro _ w1 ⟨rfl, hb1⟩
  clear HMI q0
  dsimp only
  go_wp2_with fail
  go_ret
  exact ⟨rfl, hb0.trans (hb1.mono hb0.size)⟩
/-- the boxes of Swap -/
structure Sb (w : World) (p : Pt.Pn) (D : Nat → Int) (w' : World) : Prop where
  be : Below w.heap.size w w'
  sz : w.heap.size + 3 ≤ w'.heap.size
  p : w'.heap[w.heap.size]? = some (.cells (Pt.pV p).toArray 37 (0, 0))
  d : w'.heap[w.heap.size + 1]? = some (.cells (bl D).toArray 47 (0, 0))
  r : w'.heap[w.heap.size + 1 + 1]? = some (.cells (Pt.pV Pt.pz).toArray 37 (0, 0))
theorem Sb.below {w w' w'' : World} {p : Pt.Pn} {D : Nat → Int} (h : Sb w p D w') (hb : Below w'.heap.size w' w'') : Sb w p D w'' :=
  ⟨h.be.trans (hb.mono h.be.size), Nat.le_trans h.sz hb.size, (hb.block _ (by have := h.sz; omega)).trans h.p, (hb.block _ (by have := h.sz; omega)).trans h.d, (hb.block _ (by have := h.sz; omega)).trans h.r⟩
theorem sb_start (w : World) (p : Pt.Pn) (D : Nat → Int) : ∃ W, W = ((w.alloc (.cells (Pt.pV p).toArray 37)).alloc (.cells (bl D).toArray 47)).alloc (.cells (Pt.pV Pt.pz).toArray 37) ∧ Sb w p D W := by
  have b1 : Below w.heap.size w (w.alloc (.cells (Pt.pV p).toArray 37)) := (Below.refl _ _).alloc (Nat.le_refl _) _
  have h1 := heap_alloc_new w (.cells (Pt.pV p).toArray 37)
  have s1 : (w.alloc (.cells (Pt.pV p).toArray 37)).heap.size = w.heap.size + 1 := by simp
  generalize w.alloc (.cells (Pt.pV p).toArray 37) = w1 at *
  have b2 : Below w1.heap.size w1 (w1.alloc (.cells (bl D).toArray 47)) := (Below.refl _ _).alloc (Nat.le_refl _) _
  have h2 := heap_alloc_new w1 (.cells (bl D).toArray 47)
  have s2 : (w1.alloc (.cells (bl D).toArray 47)).heap.size = w.heap.size + 2 := by simp [s1]
  generalize w1.alloc (.cells (bl D).toArray 47) = w2 at *
  refine ⟨_, rfl, ?_⟩
  have b3 : Below w2.heap.size w2 (w2.alloc (.cells (Pt.pV Pt.pz).toArray 37)) := (Below.refl _ _).alloc (Nat.le_refl _) _
  have h3 := heap_alloc_new w2 (.cells (Pt.pV Pt.pz).toArray 37)
  have s3 : (w2.alloc (.cells (Pt.pV Pt.pz).toArray 37)).heap.size = w.heap.size + 3 := by simp [s2]
  rw [s1] at h2
  rw [s2] at h3
  refine ⟨(b1.trans (b2.mono (by omega))).trans (b3.mono (by omega)), by omega, ?_, ?_, h3⟩
  · exact (b3.block _ (by omega)).trans ((b2.block _ (by omega)).trans h1)
  · exact (b3.block _ (by omega)).trans h2

set_option maxRecDepth 100000 in
set_option maxHeartbeats 4000000 in
theorem swap_no {w : World} {V : Pl} {n k : Nat} {X : Dst} {M : Tab} {A B Z : Int} {f : Nat → Int} (h : HasVol w V n X M A B Z k f) (hm : TabOk M) (hB : Sp.i64 B) (p : Pt.Pn) (hpA : Sp.i64 p.A) (hpB : Sp.i64 p.B) (D : Nat → Int) (c : Int) (hno : mn n X M A B Z k f p = false ∨ alB c = false) :
    Calls Tryz.prog 15 #[.pointer (some ⟨V.b, V.o, none⟩), .agg (Pt.pV p).toArray, .agg (bl D).toArray, .int .i64 c] w fun e w' => e = .returned (.tuple #[.agg (Pt.pV Pt.pz).toArray, .int .i64 1]) ∧ Below w.heap.size w w' := by
  obtain ⟨W, hW, hS⟩ := sb_start w p D
  have HMI := Lib.hid (mine_v (h.below hS.be) hm hB p hpA hpB)
  have q0 := Pt.row_pt hS.p
  have HS := Lib.hid hS
  clear h hm hB hS
  generalize mn n X M A B Z k f p = Mn at HMI hno
  go_enter Tryz.func15, Tryz.ntmps15
  rw [hW] at q0
  go_wp2_with (refine @wpList_loadG _ _ _ _ _ _ _ (by kernel_rfl) 37 (.tmp 5) rfl w.heap.size 0 rfl (Pt.pV p) _ q0 Pt.undP rfl (Pt.sizeP p) ?_; simp only [Act.put, List.setIfInBounds_toArray, List.set_cons_succ, List.set_cons_zero])
  try rw [Pt.zrow]
  try rw [← hW]
  clear hW q0
  refine HMI.out.mono ?_
  rintro _ w1 ⟨rfl, hb1⟩
  have hs1 := HS.out.below hb1
  have hz := hs1.r
  have hbe := hs1.be
  clear HMI HS hs1 hb1
  dsimp only
  cases Mn with
  | false =>
    clear hno
    go_wp2_with (first
      | (refine wpList_buildTo rfl 37 #[] rfl _ rfl (Pt.pV Pt.pz).toArray Pt.builtZ ?_; simp only [Act.put, List.setIfInBounds_toArray, List.set_cons_succ, List.set_cons_zero])
      | (refine @wpList_store_row _ _ _ _ _ _ _ rfl 37 (.tmp 8) (.tmp 21) rfl (w.heap.size + 1 + 1) (Pt.pV Pt.pz).toArray rfl rfl 37 _ hz (Pt.sizeP' _) rfl (Pt.pV_all _) ?_; simp only [Act.put]))
    refine bodyPost_ret (Pt.results_2p rfl rfl rfl (setRow_heap _ _ _ _ _ _ hz)) rfl ?_
    exact ⟨rfl, below_only hbe (by omega) (grown_row _)⟩
  | true =>
    have ha : alB c = false := hno.resolve_left (by decide)
    have HA := Lib.hid (allowed_any c w1)
    rw [ha] at HA
    clear hno ha
    go_wp2_with fail
    refine HA.out.mono ?_
    rintro _ _ ⟨rfl, rfl⟩
    clear HA
    dsimp only
    go_wp2_with (first
      | (refine wpList_buildTo rfl 37 #[] rfl _ rfl (Pt.pV Pt.pz).toArray Pt.builtZ ?_; simp only [Act.put, List.setIfInBounds_toArray, List.set_cons_succ, List.set_cons_zero])
      | (refine @wpList_store_row _ _ _ _ _ _ _ rfl 37 (.tmp 8) (.tmp 21) rfl (w.heap.size + 1 + 1) (Pt.pV Pt.pz).toArray rfl rfl 37 _ hz (Pt.sizeP' _) rfl (Pt.pV_all _) ?_; simp only [Act.put]))
    refine bodyPost_ret (Pt.results_2p rfl rfl rfl (setRow_heap _ _ _ _ _ _ hz)) rfl ?_
    exact ⟨rfl, below_only hbe (by omega) (grown_row _)⟩
end Vl
end Go.Proofs.YtebgaafaokiigaaGreatDoor
/- vol: the law VolRefuses (made by tools/gen_vlrefuses.py). -/
namespace Go.Proofs.YtebgaafaokiigaaGreatDoor
set_option maxRecDepth 20000
namespace Vl
open Go.RowKit Dk Gm Eqb Rm Vm Di

attribute [local go_sem] zv29
attribute [local go_sem] Pt.zvP
attribute [local go_sem] zvV
attribute [local go_sem] zc29
def d3 (j : Nat) : Int := if j = 0 then 3 else 0
theorem built_3 : Tryz.prog.built 47 [(0, .int .u8 3)] = some (bl d3).toArray := by kernel_rfl
/-- what the law leans on -/
structure Rf (w W : World) (sa : Option Addr) (n sc : Nat) (ca : Option Addr) (m cc : Nat) (fu : Int) (d : Bool) (gen : Int) (pa : Option Addr) (k cap : Nat) (A B Z : Int) (ao : Option Addr) (kk kc : Nat) (S : Nat → Sec) (C : Nat → Wr) (F T : Nat → Int) (f : Nat → Int) (p : Pt.Pn) : Prop where
  up : Below w.heap.size w W
  sz : W.heap.size = w.heap.size + 2
  x : Vb W w.heap.size (.slice sa n sc) (.slice ca m cc) (.int .i64 fu) (.bool d) (.int .i64 gen) (.slice pa k cap) (.int .i64 A) (.int .i64 B) (.int .i64 Z) (.slice ao kk kc)
  pp : W.heap[w.heap.size + 1]? = some (.cells (Pt.pV p).toArray 37 (0, 0))
  nb : n * 130 ≤ 140737488355328
  mb : m * 136 ≤ 140737488355328
  kb : k * 16 ≤ 140737488355328
  hF : ∀ i, i < k → Rm.i64 (F i) ∧ Rm.i64 (T i)
  hB : Sp.i64 B
  hpA : Sp.i64 p.A
  hpB : Sp.i64 p.B
  kp : Rm.Kp W
  ss : Lay W W.heap.size w.heap.size sa n sc 130 (fun i => secV (S i))
  cs : Lay W W.heap.size w.heap.size ca m cc 129 (fun i => wrV (C i))
  ls : Lay W W.heap.size w.heap.size pa k cap 2 (Rm.prV F T)
  st : Sp.St W W.heap.size ao kk kc f
section
variable {w W w' : World} {sa : Option Addr} {n sc : Nat} {ca : Option Addr} {m cc : Nat} {fu : Int} {d : Bool} {gen : Int} {pa : Option Addr} {k cap : Nat} {A B Z : Int} {ao : Option Addr} {kk kc : Nat} {S : Nat → Sec} {C : Nat → Wr} {F T : Nat → Int} {f : Nat → Int} {p : Pt.Pn}
theorem Rf.vb (h : Rf w W sa n sc ca m cc fu d gen pa k cap A B Z ao kk kc S C F T f p) (hb : Below W.heap.size W w') : Vb w' w.heap.size (.slice sa n sc) (.slice ca m cc) (.int .i64 fu) (.bool d) (.int .i64 gen) (.slice pa k cap) (.int .i64 A) (.int .i64 B) (.int .i64 Z) (.slice ao kk kc) := h.x.below hb (by have := h.sz; omega)
theorem Rf.pr (h : Rf w W sa n sc ca m cc fu d gen pa k cap A B Z ao kk kc S C F T f p) (hb : Below W.heap.size W w') : w'.heap[w.heap.size + 1]? = some (.cells (Pt.pV p).toArray 37 (0, 0)) := (hb.block _ (by have := h.sz; omega)).trans h.pp
theorem Rf.right (h : Rf w W sa n sc ca m cc fu d gen pa k cap A B Z ao kk kc S C F T f p) (hb : Below W.heap.size W w') : Calls Tryz.prog 11 #[.agg #[.slice sa n sc, .slice ca m cc, .int .i64 fu, .bool d, .int .i64 gen, .slice pa k cap, .int .i64 A, .int .i64 B, .int .i64 Z, .slice ao kk kc]] w' fun e w'' => e = .returned (.bool (rvB n m C gen k F T A B Z kk f)) ∧ Below w'.heap.size w' w'' :=
  refRight_any sa n sc ca m cc fu d gen pa k cap A B Z ao kk kc w.heap.size C F T f w' (by have := h.nb; omega) (by have := h.mb; omega) ((h.cs.below hb).more hb.size) ((h.ls.below hb).more hb.size) (by have := h.kb; omega) (h.st.later hb)
theorem Rf.mine (h : Rf w W sa n sc ca m cc fu d gen pa k cap A B Z ao kk kc S C F T f p) (hb : Below W.heap.size W w') : Calls Tryz.prog 13 #[.agg #[.slice sa n sc, .slice ca m cc, .int .i64 fu, .bool d, .int .i64 gen, .slice pa k cap, .int .i64 A, .int .i64 B, .int .i64 Z, .slice ao kk kc], .agg (Pt.pV p).toArray] w' fun e w'' => e = .returned (.bool (mnB n m C gen k F T A B Z kk f p)) ∧ Below w'.heap.size w' w'' :=
  refMine_any sa n sc ca m cc fu d gen pa k cap A B Z ao kk kc w.heap.size C F T f p w' (by have := h.nb; omega) (by have := h.mb; omega) ((h.cs.below hb).more hb.size) ((h.ls.below hb).more hb.size) (by have := h.kb; omega) (h.st.later hb) h.hpA h.hpB
theorem Rf.copy (h : Rf w W sa n sc ca m cc fu d gen pa k cap A B Z ao kk kc S C F T f p) (hb : Below W.heap.size W w') : Calls Tryz.prog 9 #[.agg #[.slice sa n sc, .slice ca m cc, .int .i64 fu, .bool d, .int .i64 gen, .slice pa k cap, .int .i64 A, .int .i64 B, .int .i64 Z, .slice ao kk kc]] w' fun e w'' => ∃ sa sc ca cc pa cap ao kc, e = .returned (.agg #[.slice sa n sc, .slice ca m cc, .int .i64 fu, .bool d, .int .i64 gen, .slice pa k cap, .int .i64 A, .int .i64 B, .int .i64 Z, .slice ao kk kc]) ∧ CpM w'' w'.heap.size n m S C fu d gen k F T A B Z kk f sa sc ca cc pa cap ao kc ∧ Below w'.heap.size w' w'' :=
  Copy_any n m S C fu d gen k F T A B Z kk f sa sc ca cc pa cap ao kc w.heap.size w' h.nb h.mb h.kb ((h.ss.below hb).more hb.size) ((h.cs.below hb).more hb.size) ((h.ls.below hb).more hb.size) (h.st.later hb)
/-- the copy in a variable of its own -/
theorem Rf.has (h : Rf w W sa n sc ca m cc fu d gen pa k cap A B Z ao kk kc S C F T f p) {w2 : World} {sb cb pb bo : Option Addr} {sd cd cbp kd base : Nat} (_hb : Below W.heap.size W w2) (hm : CpM w2 base n m S C fu d gen k F T A B Z kk f sb sd cb cd pb cbp bo kd) (h0 : w2.heap.size ≠ 0) :
    HasVol (w2.alloc (.cells #[.slice sb n sd, .slice cb m cd, .int .i64 fu, .bool d, .int .i64 gen, .slice pb k cbp, .int .i64 A, .int .i64 B, .int .i64 Z, .slice bo kk kd] 34)) (Pl.own w2.heap.size 34) n ⟨m, S, C, fu, d⟩ ⟨gen, k, F, T⟩ A B Z kk f := by
  have hb2 : Below w2.heap.size w2 (w2.alloc (.cells #[.slice sb n sd, .slice cb m cd, .int .i64 fu, .bool d, .int .i64 gen, .slice pb k cbp, .int .i64 A, .int .i64 B, .int .i64 Z, .slice bo kk kd] 34)) := (Below.refl _ _).alloc (Nat.le_refl _) _
  have l1 := lay_own (g := w2.heap.size) (fun i _ => secV_length (S i)) hm.1.1 (.inr (Nat.le_refl _))
  have l2 := lay_own (g := w2.heap.size) (fun i _ => wrV_length (C i)) hm.1.2 (.inr (Nat.le_refl _))
  have l3 := lay_own (g := w2.heap.size) (fun i _ => Rm.prV_length F T i) hm.2.1 (.inr (Nat.le_refl _))
  refine Vx.has (sa := sb) (sc := sd) (ca := cb) (cc := cd) (pa := pb) (cap := cbp) (ao := bo) (kc := kd) ⟨heap_alloc_new w2 _, (l1.below hb2).more hb2.size, (l2.below hb2).more hb2.size, (l3.below hb2).more hb2.size, (Sp.OwnS.st hm.2.2 h.st.byte h.st.room).later hb2, h.nb, h.mb, ?_, ?_⟩ (Pl.own_noB _ _) h0
  · exact Ty.below (.own hm.1.1) l1 hb2
  · exact Ty.below (.own hm.1.2) l2 hb2
/-- .. and the same as what came in -/
theorem Rf.same (h : Rf w W sa n sc ca m cc fu d gen pa k cap A B Z ao kk kc S C F T f p) {w3 : World} {sb cb pb bo : Option Addr} {sd cd cbp kd base : Nat} (hb : Below W.heap.size W w3) (hm : CpM w3 base n m S C fu d gen k F T A B Z kk f sb sd cb cd pb cbp bo kd) (hbs : w.heap.size < base) :
    Calls Tryz.prog 14 #[.agg #[.slice sb n sd, .slice cb m cd, .int .i64 fu, .bool d, .int .i64 gen, .slice pb k cbp, .int .i64 A, .int .i64 B, .int .i64 Z, .slice bo kk kd], .agg #[.slice sa n sc, .slice ca m cc, .int .i64 fu, .bool d, .int .i64 gen, .slice pa k cap, .int .i64 A, .int .i64 B, .int .i64 Z, .slice ao kk kc]] w3 fun e w'' => e = .returned (.bool true) ∧ Below w3.heap.size w3 w'' :=
  Same_any n m S C fu d gen k F T A B Z kk f sb sd cb cd pb cbp bo kd sa sc ca cc pa cap ao kc w.heap.size w.heap.size w3 (by have := h.nb; omega) (by have := h.mb; omega) (by have := h.kb; omega)
    (lay_own (fun i _ => secV_length (S i)) hm.1.1 (.inl hbs)) (lay_own (fun i _ => wrV_length (C i)) hm.1.2 (.inl hbs)) (lay_own (fun i _ => Rm.prV_length F T i) hm.2.1 (.inl hbs)) (Sp.OwnS.st hm.2.2 (h.st.later hb).byte (h.st.later hb).room)
    ((h.ss.below hb).more hb.size) ((h.cs.below hb).more hb.size) ((h.ls.below hb).more hb.size) (h.st.later hb)
theorem Rf.tab (h : Rf w W sa n sc ca m cc fu d gen pa k cap A B Z ao kk kc S C F T f p) : TabOk ⟨gen, k, F, T⟩ := ⟨by have := h.kb; show k ≤ _; omega, h.hF⟩
end


theorem _root_.Go.Proofs.YtebgaafaokiigaaGreatDoor.Dk.Lay.other' {w W : World} {ao : Option Addr} {n cap k : Nat} {T : Nat → List Value} (h : Lay W w.heap.size w.heap.size ao n cap k T) (hb : Below w.heap.size w W) (_hs : W.heap.size = w.heap.size + 2) : Lay W W.heap.size w.heap.size ao n cap k T := h.more hb.size


set_option maxRecDepth 100000 in
set_option maxHeartbeats 8000000 in
theorem ref_all_one (sa : Option Addr) (n sc : Nat) (ca : Option Addr) (m cc : Nat) (fu : Int) (d : Bool) (gen : Int) (pa : Option Addr) (k cap : Nat) (A B Z : Int) (ao : Option Addr) (kk kc : Nat) (S : Nat → Sec) (C : Nat → Wr) (F T : Nat → Int) (f : Nat → Int) (p : Pt.Pn) (c : Int) (w : World)
    (nb : n * 130 ≤ 140737488355328) (mb : m * 136 ≤ 140737488355328) (kb : k * 16 ≤ 140737488355328) (hF : ∀ i, i < k → Rm.i64 (F i) ∧ Rm.i64 (T i)) (hB : Sp.i64 B) (hpA : Sp.i64 p.A) (hpB : Sp.i64 p.B) (hkp : Rm.Kp w)
    (hss : Lay w w.heap.size w.heap.size sa n sc 130 (fun i => secV (S i))) (hc : Lay w w.heap.size w.heap.size ca m cc 129 (fun i => wrV (C i))) (hl : Lay w w.heap.size w.heap.size pa k cap 2 (Rm.prV F T)) (hs : Sp.St w w.heap.size ao kk kc f)
    (hr : rvB n m C gen k F T A B Z kk f = true) (hmn : mnB n m C gen k F T A B Z kk f p = true) (h1 : (c == 1) = true) (_h2 : (c == 2) = false) :
    Calls Tryz.prog 4 #[.agg #[.slice sa n sc, .slice ca m cc, .int .i64 fu, .bool d, .int .i64 gen, .slice pa k cap, .int .i64 A, .int .i64 B, .int .i64 Z, .slice ao kk kc], .agg (Pt.pV p).toArray, .int .i64 c] w fun e w' => e = .returned (.bool true) ∧ Below w.heap.size w w' := by
  obtain ⟨W, hW, hB0, hs0, hX0, hP0⟩ := box_vp w (.slice sa n sc) (.slice ca m cc) (.int .i64 fu) (.bool d) (.int .i64 gen) (.slice pa k cap) (.int .i64 A) (.int .i64 B) (.int .i64 Z) (.slice ao kk kc) p
  have HR : Hid (Rf w W sa n sc ca m cc fu d gen pa k cap A B Z ao kk kc S C F T f p) := Lib.hid ⟨hB0, hs0, hX0, hP0, nb, mb, kb, hF, hB, hpA, hpB, hkp.below hB0, ((hss.below hB0).other' hB0 hs0), ((hc.below hB0).other' hB0 hs0), ((hl.below hB0).other' hB0 hs0), hs.later hB0⟩
  have HAL := Lib.hid (alive9_any W (hkp.below hB0))
  clear nb mb kb hF hB hpA hpB hkp hss hc hl hs hX0 hP0
  go_enter Tryz.func4, Tryz.ntmps4
  go_wp2_with fail
  rw [← hW]
  clear hW
  refine HAL.out.mono ?_
  rintro _ w1 ⟨rfl, hB1⟩
  clear HAL
  dsimp only
  have xv := HR.out.vb hB1
  have c0 := xv.c0
  have c1 := xv.c1
  have c2 := xv.c2
  have c3 := xv.c3
  have c4 := xv.c4
  have c5 := xv.c5
  have c6 := xv.c6
  have c7 := xv.c7
  have c8 := xv.c8
  have c9 := xv.c9
  clear xv
  have pq := Pt.row_pt (HR.out.pr hB1)
  go_wp2_with fail
  have HQ := Lib.hid (HR.out.right hB1)
  rw [hr] at HQ
  refine HQ.out.mono ?_
  rintro _ w2 ⟨rfl, hb2⟩
  have hB2 := hB1.trans (hb2.mono hB1.size)
  clear hb2 HQ
  clear c0 c1 c2 c3 c4 c5 c6 c7 c8 c9 pq
  dsimp only
  have xv := HR.out.vb hB2
  have c0 := xv.c0
  have c1 := xv.c1
  have c2 := xv.c2
  have c3 := xv.c3
  have c4 := xv.c4
  have c5 := xv.c5
  have c6 := xv.c6
  have c7 := xv.c7
  have c8 := xv.c8
  have c9 := xv.c9
  clear xv
  have pq := Pt.row_pt (HR.out.pr hB2)
  go_wp2_with (refine @wpList_loadG _ _ _ _ _ _ _ (by kernel_rfl) 37 (.tmp 4) rfl (w.heap.size + 1) 0 rfl (Pt.pV p) _ pq Pt.undP rfl (Pt.sizeP p) ?_; simp only [Act.put, List.setIfInBounds_toArray, List.set_cons_succ, List.set_cons_zero])
  have HQ := Lib.hid (HR.out.mine hB2)
  rw [hmn] at HQ
  refine HQ.out.mono ?_
  rintro _ w3 ⟨rfl, hb3⟩
  have hB3 := hB2.trans (hb3.mono hB2.size)
  clear hb3 HQ
  clear c0 c1 c2 c3 c4 c5 c6 c7 c8 c9 pq
  dsimp only
  go_wp2_with fail
  go_ret
  exact ⟨rfl, HR.out.up.trans (hB3.mono HR.out.up.size)⟩

set_option maxRecDepth 100000 in
set_option maxHeartbeats 8000000 in
theorem ref_all_two (sa : Option Addr) (n sc : Nat) (ca : Option Addr) (m cc : Nat) (fu : Int) (d : Bool) (gen : Int) (pa : Option Addr) (k cap : Nat) (A B Z : Int) (ao : Option Addr) (kk kc : Nat) (S : Nat → Sec) (C : Nat → Wr) (F T : Nat → Int) (f : Nat → Int) (p : Pt.Pn) (c : Int) (w : World)
    (nb : n * 130 ≤ 140737488355328) (mb : m * 136 ≤ 140737488355328) (kb : k * 16 ≤ 140737488355328) (hF : ∀ i, i < k → Rm.i64 (F i) ∧ Rm.i64 (T i)) (hB : Sp.i64 B) (hpA : Sp.i64 p.A) (hpB : Sp.i64 p.B) (hkp : Rm.Kp w)
    (hss : Lay w w.heap.size w.heap.size sa n sc 130 (fun i => secV (S i))) (hc : Lay w w.heap.size w.heap.size ca m cc 129 (fun i => wrV (C i))) (hl : Lay w w.heap.size w.heap.size pa k cap 2 (Rm.prV F T)) (hs : Sp.St w w.heap.size ao kk kc f)
    (hr : rvB n m C gen k F T A B Z kk f = true) (hmn : mnB n m C gen k F T A B Z kk f p = true) (h1 : (c == 1) = false) (h2 : (c == 2) = true) :
    Calls Tryz.prog 4 #[.agg #[.slice sa n sc, .slice ca m cc, .int .i64 fu, .bool d, .int .i64 gen, .slice pa k cap, .int .i64 A, .int .i64 B, .int .i64 Z, .slice ao kk kc], .agg (Pt.pV p).toArray, .int .i64 c] w fun e w' => e = .returned (.bool true) ∧ Below w.heap.size w w' := by
  obtain ⟨W, hW, hB0, hs0, hX0, hP0⟩ := box_vp w (.slice sa n sc) (.slice ca m cc) (.int .i64 fu) (.bool d) (.int .i64 gen) (.slice pa k cap) (.int .i64 A) (.int .i64 B) (.int .i64 Z) (.slice ao kk kc) p
  have HR : Hid (Rf w W sa n sc ca m cc fu d gen pa k cap A B Z ao kk kc S C F T f p) := Lib.hid ⟨hB0, hs0, hX0, hP0, nb, mb, kb, hF, hB, hpA, hpB, hkp.below hB0, ((hss.below hB0).other' hB0 hs0), ((hc.below hB0).other' hB0 hs0), ((hl.below hB0).other' hB0 hs0), hs.later hB0⟩
  have HAL := Lib.hid (alive9_any W (hkp.below hB0))
  clear nb mb kb hF hB hpA hpB hkp hss hc hl hs hX0 hP0
  go_enter Tryz.func4, Tryz.ntmps4
  go_wp2_with fail
  rw [← hW]
  clear hW
  refine HAL.out.mono ?_
  rintro _ w1 ⟨rfl, hB1⟩
  clear HAL
  dsimp only
  have xv := HR.out.vb hB1
  have c0 := xv.c0
  have c1 := xv.c1
  have c2 := xv.c2
  have c3 := xv.c3
  have c4 := xv.c4
  have c5 := xv.c5
  have c6 := xv.c6
  have c7 := xv.c7
  have c8 := xv.c8
  have c9 := xv.c9
  clear xv
  have pq := Pt.row_pt (HR.out.pr hB1)
  go_wp2_with fail
  have HQ := Lib.hid (HR.out.right hB1)
  rw [hr] at HQ
  refine HQ.out.mono ?_
  rintro _ w2 ⟨rfl, hb2⟩
  have hB2 := hB1.trans (hb2.mono hB1.size)
  clear hb2 HQ
  clear c0 c1 c2 c3 c4 c5 c6 c7 c8 c9 pq
  dsimp only
  have xv := HR.out.vb hB2
  have c0 := xv.c0
  have c1 := xv.c1
  have c2 := xv.c2
  have c3 := xv.c3
  have c4 := xv.c4
  have c5 := xv.c5
  have c6 := xv.c6
  have c7 := xv.c7
  have c8 := xv.c8
  have c9 := xv.c9
  clear xv
  have pq := Pt.row_pt (HR.out.pr hB2)
  go_wp2_with (refine @wpList_loadG _ _ _ _ _ _ _ (by kernel_rfl) 37 (.tmp 4) rfl (w.heap.size + 1) 0 rfl (Pt.pV p) _ pq Pt.undP rfl (Pt.sizeP p) ?_; simp only [Act.put, List.setIfInBounds_toArray, List.set_cons_succ, List.set_cons_zero])
  have HQ := Lib.hid (HR.out.mine hB2)
  rw [hmn] at HQ
  refine HQ.out.mono ?_
  rintro _ w3 ⟨rfl, hb3⟩
  have hB3 := hB2.trans (hb3.mono hB2.size)
  clear hb3 HQ
  clear c0 c1 c2 c3 c4 c5 c6 c7 c8 c9 pq
  dsimp only
  go_wp2_with fail
  go_ret
  exact ⟨rfl, HR.out.up.trans (hB3.mono HR.out.up.size)⟩

set_option maxRecDepth 100000 in
set_option maxHeartbeats 8000000 in
theorem ref_A_true (sa : Option Addr) (n sc : Nat) (ca : Option Addr) (m cc : Nat) (fu : Int) (d : Bool) (gen : Int) (pa : Option Addr) (k cap : Nat) (A B Z : Int) (ao : Option Addr) (kk kc : Nat) (S : Nat → Sec) (C : Nat → Wr) (F T : Nat → Int) (f : Nat → Int) (p : Pt.Pn) (c : Int) (w : World)
    (nb : n * 130 ≤ 140737488355328) (mb : m * 136 ≤ 140737488355328) (kb : k * 16 ≤ 140737488355328) (hF : ∀ i, i < k → Rm.i64 (F i) ∧ Rm.i64 (T i)) (hB : Sp.i64 B) (hpA : Sp.i64 p.A) (hpB : Sp.i64 p.B) (hkp : Rm.Kp w)
    (hss : Lay w w.heap.size w.heap.size sa n sc 130 (fun i => secV (S i))) (hc : Lay w w.heap.size w.heap.size ca m cc 129 (fun i => wrV (C i))) (hl : Lay w w.heap.size w.heap.size pa k cap 2 (Rm.prV F T)) (hs : Sp.St w w.heap.size ao kk kc f)
    (hr : rvB n m C gen k F T A B Z kk f = false) (_hmn : mnB n m C gen k F T A B Z kk f p = false)    (hm3 : decide ((300 : Int) < (m : Int)) = true) :
    Calls Tryz.prog 4 #[.agg #[.slice sa n sc, .slice ca m cc, .int .i64 fu, .bool d, .int .i64 gen, .slice pa k cap, .int .i64 A, .int .i64 B, .int .i64 Z, .slice ao kk kc], .agg (Pt.pV p).toArray, .int .i64 c] w fun e w' => e = .returned (.bool true) ∧ Below w.heap.size w w' := by
  obtain ⟨W, hW, hB0, hs0, hX0, hP0⟩ := box_vp w (.slice sa n sc) (.slice ca m cc) (.int .i64 fu) (.bool d) (.int .i64 gen) (.slice pa k cap) (.int .i64 A) (.int .i64 B) (.int .i64 Z) (.slice ao kk kc) p
  have HR : Hid (Rf w W sa n sc ca m cc fu d gen pa k cap A B Z ao kk kc S C F T f p) := Lib.hid ⟨hB0, hs0, hX0, hP0, nb, mb, kb, hF, hB, hpA, hpB, hkp.below hB0, ((hss.below hB0).other' hB0 hs0), ((hc.below hB0).other' hB0 hs0), ((hl.below hB0).other' hB0 hs0), hs.later hB0⟩
  have HAL := Lib.hid (alive9_any W (hkp.below hB0))
  clear nb mb kb hF hB hpA hpB hkp hss hc hl hs hX0 hP0
  go_enter Tryz.func4, Tryz.ntmps4
  go_wp2_with fail
  rw [← hW]
  clear hW
  refine HAL.out.mono ?_
  rintro _ w1 ⟨rfl, hB1⟩
  clear HAL
  dsimp only
  have xv := HR.out.vb hB1
  have c0 := xv.c0
  have c1 := xv.c1
  have c2 := xv.c2
  have c3 := xv.c3
  have c4 := xv.c4
  have c5 := xv.c5
  have c6 := xv.c6
  have c7 := xv.c7
  have c8 := xv.c8
  have c9 := xv.c9
  clear xv
  have pq := Pt.row_pt (HR.out.pr hB1)
  go_wp2_with fail
  have HQ := Lib.hid (HR.out.right hB1)
  rw [hr] at HQ
  refine HQ.out.mono ?_
  rintro _ w2 ⟨rfl, hb2⟩
  have hB2 := hB1.trans (hb2.mono hB1.size)
  clear hb2 HQ
  clear c0 c1 c2 c3 c4 c5 c6 c7 c8 c9 pq
  dsimp only
  have xv := HR.out.vb hB2
  have c0 := xv.c0
  have c1 := xv.c1
  have c2 := xv.c2
  have c3 := xv.c3
  have c4 := xv.c4
  have c5 := xv.c5
  have c6 := xv.c6
  have c7 := xv.c7
  have c8 := xv.c8
  have c9 := xv.c9
  clear xv
  go_wp2_with fail
  go_ret
  exact ⟨rfl, HR.out.up.trans (hB2.mono HR.out.up.size)⟩

set_option maxRecDepth 100000 in
set_option maxHeartbeats 8000000 in
theorem ref_A_false (sa : Option Addr) (n sc : Nat) (ca : Option Addr) (m cc : Nat) (fu : Int) (d : Bool) (gen : Int) (pa : Option Addr) (k cap : Nat) (A B Z : Int) (ao : Option Addr) (kk kc : Nat) (S : Nat → Sec) (C : Nat → Wr) (F T : Nat → Int) (f : Nat → Int) (p : Pt.Pn) (c : Int) (w : World)
    (nb : n * 130 ≤ 140737488355328) (mb : m * 136 ≤ 140737488355328) (kb : k * 16 ≤ 140737488355328) (hF : ∀ i, i < k → Rm.i64 (F i) ∧ Rm.i64 (T i)) (hB : Sp.i64 B) (hpA : Sp.i64 p.A) (hpB : Sp.i64 p.B) (hkp : Rm.Kp w)
    (hss : Lay w w.heap.size w.heap.size sa n sc 130 (fun i => secV (S i))) (hc : Lay w w.heap.size w.heap.size ca m cc 129 (fun i => wrV (C i))) (hl : Lay w w.heap.size w.heap.size pa k cap 2 (Rm.prV F T)) (hs : Sp.St w w.heap.size ao kk kc f)
    (hr : rvB n m C gen k F T A B Z kk f = false) (hmn : mnB n m C gen k F T A B Z kk f p = false)    (hm3 : decide ((300 : Int) < (m : Int)) = false) :
    Calls Tryz.prog 4 #[.agg #[.slice sa n sc, .slice ca m cc, .int .i64 fu, .bool d, .int .i64 gen, .slice pa k cap, .int .i64 A, .int .i64 B, .int .i64 Z, .slice ao kk kc], .agg (Pt.pV p).toArray, .int .i64 c] w fun e w' => e = .returned (.bool true) ∧ Below w.heap.size w w' := by
  obtain ⟨W, hW, hB0, hs0, hX0, hP0⟩ := box_vp w (.slice sa n sc) (.slice ca m cc) (.int .i64 fu) (.bool d) (.int .i64 gen) (.slice pa k cap) (.int .i64 A) (.int .i64 B) (.int .i64 Z) (.slice ao kk kc) p
  have HR : Hid (Rf w W sa n sc ca m cc fu d gen pa k cap A B Z ao kk kc S C F T f p) := Lib.hid ⟨hB0, hs0, hX0, hP0, nb, mb, kb, hF, hB, hpA, hpB, hkp.below hB0, ((hss.below hB0).other' hB0 hs0), ((hc.below hB0).other' hB0 hs0), ((hl.below hB0).other' hB0 hs0), hs.later hB0⟩
  have HAL := Lib.hid (alive9_any W (hkp.below hB0))
  clear nb mb kb hF hB hpA hpB hkp hss hc hl hs hX0 hP0
  go_enter Tryz.func4, Tryz.ntmps4
  go_wp2_with fail
  rw [← hW]
  clear hW
  refine HAL.out.mono ?_
  rintro _ w1 ⟨rfl, hB1⟩
  clear HAL
  dsimp only
  have xv := HR.out.vb hB1
  have c0 := xv.c0
  have c1 := xv.c1
  have c2 := xv.c2
  have c3 := xv.c3
  have c4 := xv.c4
  have c5 := xv.c5
  have c6 := xv.c6
  have c7 := xv.c7
  have c8 := xv.c8
  have c9 := xv.c9
  clear xv
  have pq := Pt.row_pt (HR.out.pr hB1)
  go_wp2_with fail
  have HQ := Lib.hid (HR.out.right hB1)
  rw [hr] at HQ
  refine HQ.out.mono ?_
  rintro _ w2 ⟨rfl, hb2⟩
  have hB2 := hB1.trans (hb2.mono hB1.size)
  clear hb2 HQ
  clear c0 c1 c2 c3 c4 c5 c6 c7 c8 c9 pq
  dsimp only
  have HNO : Hid (mn n ⟨m, S, C, fu, d⟩ ⟨gen, k, F, T⟩ A B Z kk f p = false ∨ alB c = false) := Lib.hid (.inl hmn)
  have xv := HR.out.vb hB2
  have c0 := xv.c0
  have c1 := xv.c1
  have c2 := xv.c2
  have c3 := xv.c3
  have c4 := xv.c4
  have c5 := xv.c5
  have c6 := xv.c6
  have c7 := xv.c7
  have c8 := xv.c8
  have c9 := xv.c9
  clear xv
  have pq := Pt.row_pt (HR.out.pr hB2)
  go_wp2_with (refine @wpList_loadG _ _ _ _ _ _ _ (by kernel_rfl) 37 (.tmp 4) rfl (w.heap.size + 1) 0 rfl (Pt.pV p) _ pq Pt.undP rfl (Pt.sizeP p) ?_; simp only [Act.put, List.setIfInBounds_toArray, List.set_cons_succ, List.set_cons_zero])
  refine (HR.out.copy hB2).mono ?_
  rintro _ w4 ⟨sb, sd, cb, cd, pb, cbp, bo, kd, rfl, hcm, hb4⟩
  have hB4 := hB2.trans (hb4.mono hB2.size)
  clear c0 c1 c2 c3 c4 c5 c6 c7 c8 c9 pq
  have far : w.heap.size < w2.heap.size := by have := hB2.size; omega
  generalize w2.heap.size = base at hcm far
  obtain ⟨w5, hW5⟩ : ∃ w5, w5 = w4.alloc (.cells #[.slice sb n sd, .slice cb m cd, .int .i64 fu, .bool d, .int .i64 gen, .slice pb k cbp, .int .i64 A, .int .i64 B, .int .i64 Z, .slice bo kk kd] 34) := ⟨_, rfl⟩
  have hb5 : Below w4.heap.size w4 w5 := by rw [hW5]; exact (Below.refl _ _).alloc (Nat.le_refl _) _
  have hs5 : w5.heap.size = w4.heap.size + 1 := by rw [hW5]; simp
  have hB5 := hB4.trans (hb5.mono hB4.size)
  have HV : Hid (HasVol w5 (Pl.own w4.heap.size 34) n ⟨m, S, C, fu, d⟩ ⟨gen, k, F, T⟩ A B Z kk f) := Lib.hid (by rw [hW5]; exact HR.out.has hB4 hcm (by have := HR.out.kp.2; have := hB4.size; omega))
  have hcm5 := hcm.below hb5
  have hx5 : Vb w5 w4.heap.size (.slice sb n sd) (.slice cb m cd) (.int .i64 fu) (.bool d) (.int .i64 gen) (.slice pb k cbp) (.int .i64 A) (.int .i64 B) (.int .i64 Z) (.slice bo kk kd) := by rw [hW5]; exact heap_alloc_new w4 _
  have HC := Lib.hid (fun w' (hb : Below w5.heap.size w5 w') => hcm5.below hb)
  have HY := Lib.hid (fun w' (hb : Below w5.heap.size w5 w') => hx5.below hb (show w4.heap.size < w5.heap.size by omega))
  clear hcm hb4 hb5 hcm5 hx5
  dsimp only
  have pq := Pt.row_pt (HR.out.pr hB5)
  go_wp2_with (first
    | (refine @wpList_store_row _ _ _ _ _ _ _ rfl 34 (.tmp 7) (.tmp 40) rfl w4.heap.size #[.slice sb n sd, .slice cb m cd, .int .i64 fu, .bool d, .int .i64 gen, .slice pb k cbp, .int .i64 A, .int .i64 B, .int .i64 Z, .slice bo kk kd] rfl rfl 34 _ (heap_alloc_new w4 _) (vol_size _ _ _ _ _ _ _ _ _ _) rfl (vol_one _ _ _ _ _ _ _ _ _ _ _ _ _ _ _ _ _ _) ?_; rw [World.setRow_alloc_new, ← hW5]; simp only [Act.put])
    | (refine @wpList_loadG _ _ _ _ _ _ _ (by kernel_rfl) 37 (.tmp 4) rfl (w.heap.size + 1) 0 rfl (Pt.pV p) _ pq Pt.undP rfl (Pt.sizeP p) ?_; simp only [Act.put, List.setIfInBounds_toArray, List.set_cons_succ, List.set_cons_zero])
    | (refine wpList_buildTo rfl 47 #[(0, .const (.int .u8 3))] rfl _ rfl (bl d3).toArray built_3 ?_; simp only [Act.put, List.setIfInBounds_toArray, List.set_cons_succ, List.set_cons_zero]))
  try rw [← hW5]
  clear hW5 pq
  generalize w4.heap.size = bq at HV HY hs5 ⊢
  have HSW := Lib.hid (swap_no HV.out HR.out.tab HR.out.hB p HR.out.hpA HR.out.hpB d3 c HNO.out)
  refine HSW.out.mono ?_
  rintro _ w6 ⟨rfl, hb6⟩
  clear HSW
  obtain ⟨w7, hW7⟩ : ∃ w7, w7 = w6.alloc (.cells (Pt.pV Pt.pz).toArray 37) := ⟨_, rfl⟩
  have hb7 : Below w6.heap.size w6 w7 := by rw [hW7]; exact (Below.refl _ _).alloc (Nat.le_refl _) _
  have hD7 : Below w5.heap.size w5 w7 := hb6.trans (hb7.mono hb6.size)
  have hB7 := hB5.trans (hD7.mono hB5.size)
  clear hb6 hb7
  dsimp only
  have xv := HR.out.vb hB7
  have c0 := xv.c0
  have c1 := xv.c1
  have c2 := xv.c2
  have c3 := xv.c3
  have c4 := xv.c4
  have c5 := xv.c5
  have c6 := xv.c6
  have c7 := xv.c7
  have c8 := xv.c8
  have c9 := xv.c9
  clear xv
  have pq := Pt.row_pt (HR.out.pr hB7)
  have xw := HR.out.vb hB7
  rw [hW7] at c0 c1 c2 c3 c4 c5 c6 c7 c8 c9 pq
  clear xw
  go_wp2_with (first
    | (refine @wpList_store_row _ _ _ _ _ _ _ rfl 37 (.tmp 8) (.tmp 46) rfl w6.heap.size (Pt.pV Pt.pz).toArray rfl rfl 37 _ (heap_alloc_new w6 _) (Pt.sizeP' _) rfl (Pt.pV_all _) ?_; rw [World.setRow_alloc_new]; simp only [Act.put])
    | (refine @wpList_loadG _ _ _ _ _ _ _ (by kernel_rfl) 37 (.tmp 4) rfl (w.heap.size + 1) 0 rfl (Pt.pV p) _ pq Pt.undP rfl (Pt.sizeP p) ?_; simp only [Act.put, List.setIfInBounds_toArray, List.set_cons_succ, List.set_cons_zero]))
  try rw [← hW7]
  clear hW7
  have HQ := Lib.hid (HR.out.mine hB7)
  rw [hmn] at HQ
  refine HQ.out.mono ?_
  rintro _ w8 ⟨rfl, hb8⟩
  have hD8 := hD7.trans (hb8.mono hD7.size)
  have hB8 := hB7.trans (hb8.mono hB7.size)
  clear hb8 HQ
  clear c0 c1 c2 c3 c4 c5 c6 c7 c8 c9 pq
  dsimp only
  have pq := Pt.row_pt (HR.out.pr hB8)
  go_wp2_with (refine @wpList_loadG _ _ _ _ _ _ _ (by kernel_rfl) 37 (.tmp 4) rfl (w.heap.size + 1) 0 rfl (Pt.pV p) _ pq Pt.undP rfl (Pt.sizeP p) ?_; simp only [Act.put, List.setIfInBounds_toArray, List.set_cons_succ, List.set_cons_zero])
  have HGE := Lib.hid (get_no (HV.out.below hD8) HR.out.tab HR.out.hB p HR.out.hpA HR.out.hpB hmn)
  refine HGE.out.mono ?_
  rintro _ w9 ⟨rfl, hb9⟩
  clear HGE pq
  obtain ⟨w10, hW10⟩ : ∃ w10, w10 = w9.alloc (.cells (bl fun _ => 0).toArray 47) := ⟨_, rfl⟩
  have hb10 : Below w9.heap.size w9 w10 := by rw [hW10]; exact (Below.refl _ _).alloc (Nat.le_refl _) _
  have hD10 := hD8.trans ((hb9.trans (hb10.mono hb9.size)).mono hD8.size)
  have hB10 := hB5.trans (hD10.mono hB5.size)
  clear hb9 hb10
  dsimp only
  have pq := Pt.row_pt (HR.out.pr hB10)
  rw [hW10] at pq
  go_wp2_with (first
    | (refine wpList_store_row rfl 47 (.tmp 11) (.tmp 57) rfl w9.heap.size (bl fun _ => 0).toArray rfl rfl 47 _ (heap_alloc_new w9 _) (size_bl' _) (by simp [bl_length]) (bl_all _) ?_; rw [World.setRow_alloc_new]; simp only [Act.put])
    | (refine @wpList_loadG _ _ _ _ _ _ _ (by kernel_rfl) 37 (.tmp 4) rfl (w.heap.size + 1) 0 rfl (Pt.pV p) _ pq Pt.undP rfl (Pt.sizeP p) ?_; simp only [Act.put, List.setIfInBounds_toArray, List.set_cons_succ, List.set_cons_zero]))
  try rw [← hW10]
  clear hW10 pq
  have HDR := Lib.hid (drop_no (HV.out.below hD10) HR.out.tab HR.out.hB p HR.out.hpA HR.out.hpB hmn)
  refine HDR.out.mono ?_
  rintro _ w11 ⟨rfl, hb11⟩
  clear HDR
  have hD11 := hD10.trans (hb11.mono hD10.size)
  have hB11 := hB10.trans (hb11.mono hB10.size)
  clear hb11
  dsimp only
  have xv := HR.out.vb hB11
  have c0 := xv.c0
  have c1 := xv.c1
  have c2 := xv.c2
  have c3 := xv.c3
  have c4 := xv.c4
  have c5 := xv.c5
  have c6 := xv.c6
  have c7 := xv.c7
  have c8 := xv.c8
  have c9 := xv.c9
  clear xv
  go_wp2_with fail
  have HQ := Lib.hid (HR.out.right hB11)
  rw [hr] at HQ
  refine HQ.out.mono ?_
  rintro _ w12 ⟨rfl, hb12⟩
  have hD12 := hD11.trans (hb12.mono hD11.size)
  have hB12 := hB11.trans (hb12.mono hB11.size)
  clear hb12 HQ
  clear c0 c1 c2 c3 c4 c5 c6 c7 c8 c9
  dsimp only
  go_wp2_with (refine wpList_buildTo rfl 47 #[(0, .const (.int .u8 3))] rfl _ rfl (bl d3).toArray built_3 ?_; simp only [Act.put, List.setIfInBounds_toArray, List.set_cons_succ, List.set_cons_zero])
  have HAD := Lib.hid (add_no (HV.out.below hD12) HR.out.tab HR.out.hB d3 c (.inl hr))
  refine HAD.out.mono ?_
  rintro _ w13 ⟨rfl, hb13⟩
  clear HAD
  obtain ⟨w14, hW14⟩ : ∃ w14, w14 = w13.alloc (.cells (Pt.pV Pt.pz).toArray 37) := ⟨_, rfl⟩
  have hb14 : Below w13.heap.size w13 w14 := by rw [hW14]; exact (Below.refl _ _).alloc (Nat.le_refl _) _
  have hD14 := hD12.trans ((hb13.trans (hb14.mono hb13.size)).mono hD12.size)
  have hB14 := hB5.trans (hD14.mono hB5.size)
  clear hb13 hb14
  dsimp only
  have xv := HR.out.vb hB14
  have c0 := xv.c0
  have c1 := xv.c1
  have c2 := xv.c2
  have c3 := xv.c3
  have c4 := xv.c4
  have c5 := xv.c5
  have c6 := xv.c6
  have c7 := xv.c7
  have c8 := xv.c8
  have c9 := xv.c9
  clear xv
  have yv := HY.out w14 hD14
  have e0 := yv.c0
  have e1 := yv.c1
  have e2 := yv.c2
  have e3 := yv.c3
  have e4 := yv.c4
  have e5 := yv.c5
  have e6 := yv.c6
  have e7 := yv.c7
  have e8 := yv.c8
  have e9 := yv.c9
  clear yv
  rw [hW14] at c0 c1 c2 c3 c4 c5 c6 c7 c8 c9 e0 e1 e2 e3 e4 e5 e6 e7 e8 e9
  go_wp2_with (refine @wpList_store_row _ _ _ _ _ _ _ rfl 37 (.tmp 13) (.tmp 84) rfl w13.heap.size (Pt.pV Pt.pz).toArray rfl rfl 37 _ (heap_alloc_new w13 _) (Pt.sizeP' _) rfl (Pt.pV_all _) ?_; rw [World.setRow_alloc_new]; simp only [Act.put])
  try rw [← hW14]
  clear hW14
  have HSA := Lib.hid (HR.out.same hB14 (HC.out w14 hD14) far)
  refine HSA.out.mono ?_
  rintro _ w15 ⟨rfl, hb15⟩
  clear c0 c1 c2 c3 c4 c5 c6 c7 c8 c9
  clear e0 e1 e2 e3 e4 e5 e6 e7 e8 e9
  dsimp only
  go_wp2_with fail
  go_ret
  exact ⟨rfl, HR.out.up.trans ((hB14.trans (hb15.mono hB14.size)).mono HR.out.up.size)⟩

set_option maxRecDepth 100000 in
set_option maxHeartbeats 8000000 in
theorem ref_B1_true (sa : Option Addr) (n sc : Nat) (ca : Option Addr) (m cc : Nat) (fu : Int) (d : Bool) (gen : Int) (pa : Option Addr) (k cap : Nat) (A B Z : Int) (ao : Option Addr) (kk kc : Nat) (S : Nat → Sec) (C : Nat → Wr) (F T : Nat → Int) (f : Nat → Int) (p : Pt.Pn) (c : Int) (w : World)
    (nb : n * 130 ≤ 140737488355328) (mb : m * 136 ≤ 140737488355328) (kb : k * 16 ≤ 140737488355328) (hF : ∀ i, i < k → Rm.i64 (F i) ∧ Rm.i64 (T i)) (hB : Sp.i64 B) (hpA : Sp.i64 p.A) (hpB : Sp.i64 p.B) (hkp : Rm.Kp w)
    (hss : Lay w w.heap.size w.heap.size sa n sc 130 (fun i => secV (S i))) (hc : Lay w w.heap.size w.heap.size ca m cc 129 (fun i => wrV (C i))) (hl : Lay w w.heap.size w.heap.size pa k cap 2 (Rm.prV F T)) (hs : Sp.St w w.heap.size ao kk kc f)
    (hr : rvB n m C gen k F T A B Z kk f = true) (hmn : mnB n m C gen k F T A B Z kk f p = false) (_h1 : (c == 1) = true) (_h2 : (c == 2) = false) (_n1 : (c != 1) = false) (_n2 : (c != 2) = true)  (hm3 : decide ((300 : Int) < (m : Int)) = true) :
    Calls Tryz.prog 4 #[.agg #[.slice sa n sc, .slice ca m cc, .int .i64 fu, .bool d, .int .i64 gen, .slice pa k cap, .int .i64 A, .int .i64 B, .int .i64 Z, .slice ao kk kc], .agg (Pt.pV p).toArray, .int .i64 c] w fun e w' => e = .returned (.bool true) ∧ Below w.heap.size w w' := by
  obtain ⟨W, hW, hB0, hs0, hX0, hP0⟩ := box_vp w (.slice sa n sc) (.slice ca m cc) (.int .i64 fu) (.bool d) (.int .i64 gen) (.slice pa k cap) (.int .i64 A) (.int .i64 B) (.int .i64 Z) (.slice ao kk kc) p
  have HR : Hid (Rf w W sa n sc ca m cc fu d gen pa k cap A B Z ao kk kc S C F T f p) := Lib.hid ⟨hB0, hs0, hX0, hP0, nb, mb, kb, hF, hB, hpA, hpB, hkp.below hB0, ((hss.below hB0).other' hB0 hs0), ((hc.below hB0).other' hB0 hs0), ((hl.below hB0).other' hB0 hs0), hs.later hB0⟩
  have HAL := Lib.hid (alive9_any W (hkp.below hB0))
  clear nb mb kb hF hB hpA hpB hkp hss hc hl hs hX0 hP0
  go_enter Tryz.func4, Tryz.ntmps4
  go_wp2_with fail
  rw [← hW]
  clear hW
  refine HAL.out.mono ?_
  rintro _ w1 ⟨rfl, hB1⟩
  clear HAL
  dsimp only
  have xv := HR.out.vb hB1
  have c0 := xv.c0
  have c1 := xv.c1
  have c2 := xv.c2
  have c3 := xv.c3
  have c4 := xv.c4
  have c5 := xv.c5
  have c6 := xv.c6
  have c7 := xv.c7
  have c8 := xv.c8
  have c9 := xv.c9
  clear xv
  have pq := Pt.row_pt (HR.out.pr hB1)
  go_wp2_with fail
  have HQ := Lib.hid (HR.out.right hB1)
  rw [hr] at HQ
  refine HQ.out.mono ?_
  rintro _ w2 ⟨rfl, hb2⟩
  have hB2 := hB1.trans (hb2.mono hB1.size)
  clear hb2 HQ
  clear c0 c1 c2 c3 c4 c5 c6 c7 c8 c9 pq
  dsimp only
  have xv := HR.out.vb hB2
  have c0 := xv.c0
  have c1 := xv.c1
  have c2 := xv.c2
  have c3 := xv.c3
  have c4 := xv.c4
  have c5 := xv.c5
  have c6 := xv.c6
  have c7 := xv.c7
  have c8 := xv.c8
  have c9 := xv.c9
  clear xv
  have pq := Pt.row_pt (HR.out.pr hB2)
  go_wp2_with (refine @wpList_loadG _ _ _ _ _ _ _ (by kernel_rfl) 37 (.tmp 4) rfl (w.heap.size + 1) 0 rfl (Pt.pV p) _ pq Pt.undP rfl (Pt.sizeP p) ?_; simp only [Act.put, List.setIfInBounds_toArray, List.set_cons_succ, List.set_cons_zero])
  have HQ := Lib.hid (HR.out.mine hB2)
  rw [hmn] at HQ
  refine HQ.out.mono ?_
  rintro _ w3 ⟨rfl, hb3⟩
  have hB3 := hB2.trans (hb3.mono hB2.size)
  clear hb3 HQ
  clear c0 c1 c2 c3 c4 c5 c6 c7 c8 c9 pq
  dsimp only
  have xv := HR.out.vb hB3
  have c0 := xv.c0
  have c1 := xv.c1
  have c2 := xv.c2
  have c3 := xv.c3
  have c4 := xv.c4
  have c5 := xv.c5
  have c6 := xv.c6
  have c7 := xv.c7
  have c8 := xv.c8
  have c9 := xv.c9
  clear xv
  go_wp2_with fail
  go_ret
  exact ⟨rfl, HR.out.up.trans (hB3.mono HR.out.up.size)⟩

set_option maxRecDepth 100000 in
set_option maxHeartbeats 8000000 in
theorem ref_B1_false (sa : Option Addr) (n sc : Nat) (ca : Option Addr) (m cc : Nat) (fu : Int) (d : Bool) (gen : Int) (pa : Option Addr) (k cap : Nat) (A B Z : Int) (ao : Option Addr) (kk kc : Nat) (S : Nat → Sec) (C : Nat → Wr) (F T : Nat → Int) (f : Nat → Int) (p : Pt.Pn) (c : Int) (w : World)
    (nb : n * 130 ≤ 140737488355328) (mb : m * 136 ≤ 140737488355328) (kb : k * 16 ≤ 140737488355328) (hF : ∀ i, i < k → Rm.i64 (F i) ∧ Rm.i64 (T i)) (hB : Sp.i64 B) (hpA : Sp.i64 p.A) (hpB : Sp.i64 p.B) (hkp : Rm.Kp w)
    (hss : Lay w w.heap.size w.heap.size sa n sc 130 (fun i => secV (S i))) (hc : Lay w w.heap.size w.heap.size ca m cc 129 (fun i => wrV (C i))) (hl : Lay w w.heap.size w.heap.size pa k cap 2 (Rm.prV F T)) (hs : Sp.St w w.heap.size ao kk kc f)
    (hr : rvB n m C gen k F T A B Z kk f = true) (hmn : mnB n m C gen k F T A B Z kk f p = false) (_h1 : (c == 1) = true) (_h2 : (c == 2) = false) (n1 : (c != 1) = false) (_n2 : (c != 2) = true)  (hm3 : decide ((300 : Int) < (m : Int)) = false) :
    Calls Tryz.prog 4 #[.agg #[.slice sa n sc, .slice ca m cc, .int .i64 fu, .bool d, .int .i64 gen, .slice pa k cap, .int .i64 A, .int .i64 B, .int .i64 Z, .slice ao kk kc], .agg (Pt.pV p).toArray, .int .i64 c] w fun e w' => e = .returned (.bool true) ∧ Below w.heap.size w w' := by
  obtain ⟨W, hW, hB0, hs0, hX0, hP0⟩ := box_vp w (.slice sa n sc) (.slice ca m cc) (.int .i64 fu) (.bool d) (.int .i64 gen) (.slice pa k cap) (.int .i64 A) (.int .i64 B) (.int .i64 Z) (.slice ao kk kc) p
  have HR : Hid (Rf w W sa n sc ca m cc fu d gen pa k cap A B Z ao kk kc S C F T f p) := Lib.hid ⟨hB0, hs0, hX0, hP0, nb, mb, kb, hF, hB, hpA, hpB, hkp.below hB0, ((hss.below hB0).other' hB0 hs0), ((hc.below hB0).other' hB0 hs0), ((hl.below hB0).other' hB0 hs0), hs.later hB0⟩
  have HAL := Lib.hid (alive9_any W (hkp.below hB0))
  clear nb mb kb hF hB hpA hpB hkp hss hc hl hs hX0 hP0
  go_enter Tryz.func4, Tryz.ntmps4
  go_wp2_with fail
  rw [← hW]
  clear hW
  refine HAL.out.mono ?_
  rintro _ w1 ⟨rfl, hB1⟩
  clear HAL
  dsimp only
  have xv := HR.out.vb hB1
  have c0 := xv.c0
  have c1 := xv.c1
  have c2 := xv.c2
  have c3 := xv.c3
  have c4 := xv.c4
  have c5 := xv.c5
  have c6 := xv.c6
  have c7 := xv.c7
  have c8 := xv.c8
  have c9 := xv.c9
  clear xv
  have pq := Pt.row_pt (HR.out.pr hB1)
  go_wp2_with fail
  have HQ := Lib.hid (HR.out.right hB1)
  rw [hr] at HQ
  refine HQ.out.mono ?_
  rintro _ w2 ⟨rfl, hb2⟩
  have hB2 := hB1.trans (hb2.mono hB1.size)
  clear hb2 HQ
  clear c0 c1 c2 c3 c4 c5 c6 c7 c8 c9 pq
  dsimp only
  have xv := HR.out.vb hB2
  have c0 := xv.c0
  have c1 := xv.c1
  have c2 := xv.c2
  have c3 := xv.c3
  have c4 := xv.c4
  have c5 := xv.c5
  have c6 := xv.c6
  have c7 := xv.c7
  have c8 := xv.c8
  have c9 := xv.c9
  clear xv
  have pq := Pt.row_pt (HR.out.pr hB2)
  go_wp2_with (refine @wpList_loadG _ _ _ _ _ _ _ (by kernel_rfl) 37 (.tmp 4) rfl (w.heap.size + 1) 0 rfl (Pt.pV p) _ pq Pt.undP rfl (Pt.sizeP p) ?_; simp only [Act.put, List.setIfInBounds_toArray, List.set_cons_succ, List.set_cons_zero])
  have HQ := Lib.hid (HR.out.mine hB2)
  rw [hmn] at HQ
  refine HQ.out.mono ?_
  rintro _ w3 ⟨rfl, hb3⟩
  have hB3 := hB2.trans (hb3.mono hB2.size)
  clear hb3 HQ
  clear c0 c1 c2 c3 c4 c5 c6 c7 c8 c9 pq
  dsimp only
  have HNO : Hid (mn n ⟨m, S, C, fu, d⟩ ⟨gen, k, F, T⟩ A B Z kk f p = false ∨ alB c = false) := Lib.hid (.inl hmn)
  have xv := HR.out.vb hB3
  have c0 := xv.c0
  have c1 := xv.c1
  have c2 := xv.c2
  have c3 := xv.c3
  have c4 := xv.c4
  have c5 := xv.c5
  have c6 := xv.c6
  have c7 := xv.c7
  have c8 := xv.c8
  have c9 := xv.c9
  clear xv
  have pq := Pt.row_pt (HR.out.pr hB3)
  go_wp2_with (refine @wpList_loadG _ _ _ _ _ _ _ (by kernel_rfl) 37 (.tmp 4) rfl (w.heap.size + 1) 0 rfl (Pt.pV p) _ pq Pt.undP rfl (Pt.sizeP p) ?_; simp only [Act.put, List.setIfInBounds_toArray, List.set_cons_succ, List.set_cons_zero])
  refine (HR.out.copy hB3).mono ?_
  rintro _ w4 ⟨sb, sd, cb, cd, pb, cbp, bo, kd, rfl, hcm, hb4⟩
  have hB4 := hB3.trans (hb4.mono hB3.size)
  clear c0 c1 c2 c3 c4 c5 c6 c7 c8 c9 pq
  have far : w.heap.size < w3.heap.size := by have := hB3.size; omega
  generalize w3.heap.size = base at hcm far
  obtain ⟨w5, hW5⟩ : ∃ w5, w5 = w4.alloc (.cells #[.slice sb n sd, .slice cb m cd, .int .i64 fu, .bool d, .int .i64 gen, .slice pb k cbp, .int .i64 A, .int .i64 B, .int .i64 Z, .slice bo kk kd] 34) := ⟨_, rfl⟩
  have hb5 : Below w4.heap.size w4 w5 := by rw [hW5]; exact (Below.refl _ _).alloc (Nat.le_refl _) _
  have hs5 : w5.heap.size = w4.heap.size + 1 := by rw [hW5]; simp
  have hB5 := hB4.trans (hb5.mono hB4.size)
  have HV : Hid (HasVol w5 (Pl.own w4.heap.size 34) n ⟨m, S, C, fu, d⟩ ⟨gen, k, F, T⟩ A B Z kk f) := Lib.hid (by rw [hW5]; exact HR.out.has hB4 hcm (by have := HR.out.kp.2; have := hB4.size; omega))
  have hcm5 := hcm.below hb5
  have hx5 : Vb w5 w4.heap.size (.slice sb n sd) (.slice cb m cd) (.int .i64 fu) (.bool d) (.int .i64 gen) (.slice pb k cbp) (.int .i64 A) (.int .i64 B) (.int .i64 Z) (.slice bo kk kd) := by rw [hW5]; exact heap_alloc_new w4 _
  have HC := Lib.hid (fun w' (hb : Below w5.heap.size w5 w') => hcm5.below hb)
  have HY := Lib.hid (fun w' (hb : Below w5.heap.size w5 w') => hx5.below hb (show w4.heap.size < w5.heap.size by omega))
  clear hcm hb4 hb5 hcm5 hx5
  dsimp only
  have pq := Pt.row_pt (HR.out.pr hB5)
  go_wp2_with (first
    | (refine @wpList_store_row _ _ _ _ _ _ _ rfl 34 (.tmp 7) (.tmp 40) rfl w4.heap.size #[.slice sb n sd, .slice cb m cd, .int .i64 fu, .bool d, .int .i64 gen, .slice pb k cbp, .int .i64 A, .int .i64 B, .int .i64 Z, .slice bo kk kd] rfl rfl 34 _ (heap_alloc_new w4 _) (vol_size _ _ _ _ _ _ _ _ _ _) rfl (vol_one _ _ _ _ _ _ _ _ _ _ _ _ _ _ _ _ _ _) ?_; rw [World.setRow_alloc_new, ← hW5]; simp only [Act.put])
    | (refine @wpList_loadG _ _ _ _ _ _ _ (by kernel_rfl) 37 (.tmp 4) rfl (w.heap.size + 1) 0 rfl (Pt.pV p) _ pq Pt.undP rfl (Pt.sizeP p) ?_; simp only [Act.put, List.setIfInBounds_toArray, List.set_cons_succ, List.set_cons_zero])
    | (refine wpList_buildTo rfl 47 #[(0, .const (.int .u8 3))] rfl _ rfl (bl d3).toArray built_3 ?_; simp only [Act.put, List.setIfInBounds_toArray, List.set_cons_succ, List.set_cons_zero]))
  try rw [← hW5]
  clear hW5 pq
  generalize w4.heap.size = bq at HV HY hs5 ⊢
  have HSW := Lib.hid (swap_no HV.out HR.out.tab HR.out.hB p HR.out.hpA HR.out.hpB d3 c HNO.out)
  refine HSW.out.mono ?_
  rintro _ w6 ⟨rfl, hb6⟩
  clear HSW
  obtain ⟨w7, hW7⟩ : ∃ w7, w7 = w6.alloc (.cells (Pt.pV Pt.pz).toArray 37) := ⟨_, rfl⟩
  have hb7 : Below w6.heap.size w6 w7 := by rw [hW7]; exact (Below.refl _ _).alloc (Nat.le_refl _) _
  have hD7 : Below w5.heap.size w5 w7 := hb6.trans (hb7.mono hb6.size)
  have hB7 := hB5.trans (hD7.mono hB5.size)
  clear hb6 hb7
  dsimp only
  have xv := HR.out.vb hB7
  have c0 := xv.c0
  have c1 := xv.c1
  have c2 := xv.c2
  have c3 := xv.c3
  have c4 := xv.c4
  have c5 := xv.c5
  have c6 := xv.c6
  have c7 := xv.c7
  have c8 := xv.c8
  have c9 := xv.c9
  clear xv
  have pq := Pt.row_pt (HR.out.pr hB7)
  have xw := HR.out.vb hB7
  rw [hW7] at c0 c1 c2 c3 c4 c5 c6 c7 c8 c9 pq
  clear xw
  go_wp2_with (first
    | (refine @wpList_store_row _ _ _ _ _ _ _ rfl 37 (.tmp 8) (.tmp 46) rfl w6.heap.size (Pt.pV Pt.pz).toArray rfl rfl 37 _ (heap_alloc_new w6 _) (Pt.sizeP' _) rfl (Pt.pV_all _) ?_; rw [World.setRow_alloc_new]; simp only [Act.put])
    | (refine @wpList_loadG _ _ _ _ _ _ _ (by kernel_rfl) 37 (.tmp 4) rfl (w.heap.size + 1) 0 rfl (Pt.pV p) _ pq Pt.undP rfl (Pt.sizeP p) ?_; simp only [Act.put, List.setIfInBounds_toArray, List.set_cons_succ, List.set_cons_zero]))
  try rw [← hW7]
  clear hW7
  have HQ := Lib.hid (HR.out.mine hB7)
  rw [hmn] at HQ
  refine HQ.out.mono ?_
  rintro _ w8 ⟨rfl, hb8⟩
  have hD8 := hD7.trans (hb8.mono hD7.size)
  have hB8 := hB7.trans (hb8.mono hB7.size)
  clear hb8 HQ
  clear c0 c1 c2 c3 c4 c5 c6 c7 c8 c9 pq
  dsimp only
  have pq := Pt.row_pt (HR.out.pr hB8)
  go_wp2_with (refine @wpList_loadG _ _ _ _ _ _ _ (by kernel_rfl) 37 (.tmp 4) rfl (w.heap.size + 1) 0 rfl (Pt.pV p) _ pq Pt.undP rfl (Pt.sizeP p) ?_; simp only [Act.put, List.setIfInBounds_toArray, List.set_cons_succ, List.set_cons_zero])
  have HGE := Lib.hid (get_no (HV.out.below hD8) HR.out.tab HR.out.hB p HR.out.hpA HR.out.hpB hmn)
  refine HGE.out.mono ?_
  rintro _ w9 ⟨rfl, hb9⟩
  clear HGE pq
  obtain ⟨w10, hW10⟩ : ∃ w10, w10 = w9.alloc (.cells (bl fun _ => 0).toArray 47) := ⟨_, rfl⟩
  have hb10 : Below w9.heap.size w9 w10 := by rw [hW10]; exact (Below.refl _ _).alloc (Nat.le_refl _) _
  have hD10 := hD8.trans ((hb9.trans (hb10.mono hb9.size)).mono hD8.size)
  have hB10 := hB5.trans (hD10.mono hB5.size)
  clear hb9 hb10
  dsimp only
  have pq := Pt.row_pt (HR.out.pr hB10)
  rw [hW10] at pq
  go_wp2_with (first
    | (refine wpList_store_row rfl 47 (.tmp 11) (.tmp 57) rfl w9.heap.size (bl fun _ => 0).toArray rfl rfl 47 _ (heap_alloc_new w9 _) (size_bl' _) (by simp [bl_length]) (bl_all _) ?_; rw [World.setRow_alloc_new]; simp only [Act.put])
    | (refine @wpList_loadG _ _ _ _ _ _ _ (by kernel_rfl) 37 (.tmp 4) rfl (w.heap.size + 1) 0 rfl (Pt.pV p) _ pq Pt.undP rfl (Pt.sizeP p) ?_; simp only [Act.put, List.setIfInBounds_toArray, List.set_cons_succ, List.set_cons_zero]))
  try rw [← hW10]
  clear hW10 pq
  have HDR := Lib.hid (drop_no (HV.out.below hD10) HR.out.tab HR.out.hB p HR.out.hpA HR.out.hpB hmn)
  refine HDR.out.mono ?_
  rintro _ w11 ⟨rfl, hb11⟩
  clear HDR
  have hD11 := hD10.trans (hb11.mono hD10.size)
  have hB11 := hB10.trans (hb11.mono hB10.size)
  clear hb11
  dsimp only
  have xv := HR.out.vb hB11
  have c0 := xv.c0
  have c1 := xv.c1
  have c2 := xv.c2
  have c3 := xv.c3
  have c4 := xv.c4
  have c5 := xv.c5
  have c6 := xv.c6
  have c7 := xv.c7
  have c8 := xv.c8
  have c9 := xv.c9
  clear xv
  go_wp2_with fail
  have HQ := Lib.hid (HR.out.right hB11)
  rw [hr] at HQ
  refine HQ.out.mono ?_
  rintro _ w12 ⟨rfl, hb12⟩
  have hD12 := hD11.trans (hb12.mono hD11.size)
  have hB12 := hB11.trans (hb12.mono hB11.size)
  clear hb12 HQ
  clear c0 c1 c2 c3 c4 c5 c6 c7 c8 c9
  dsimp only
  have xv := HR.out.vb hB12
  have c0 := xv.c0
  have c1 := xv.c1
  have c2 := xv.c2
  have c3 := xv.c3
  have c4 := xv.c4
  have c5 := xv.c5
  have c6 := xv.c6
  have c7 := xv.c7
  have c8 := xv.c8
  have c9 := xv.c9
  clear xv
  have yv := HY.out w12 hD12
  have e0 := yv.c0
  have e1 := yv.c1
  have e2 := yv.c2
  have e3 := yv.c3
  have e4 := yv.c4
  have e5 := yv.c5
  have e6 := yv.c6
  have e7 := yv.c7
  have e8 := yv.c8
  have e9 := yv.c9
  clear yv
  go_wp2_with fail
  have HSA := Lib.hid (HR.out.same hB12 (HC.out w12 hD12) far)
  refine HSA.out.mono ?_
  rintro _ w15 ⟨rfl, hb15⟩
  clear c0 c1 c2 c3 c4 c5 c6 c7 c8 c9
  clear e0 e1 e2 e3 e4 e5 e6 e7 e8 e9
  dsimp only
  go_wp2_with fail
  go_ret
  exact ⟨rfl, HR.out.up.trans ((hB12.trans (hb15.mono hB12.size)).mono HR.out.up.size)⟩

set_option maxRecDepth 100000 in
set_option maxHeartbeats 8000000 in
theorem ref_B2_true (sa : Option Addr) (n sc : Nat) (ca : Option Addr) (m cc : Nat) (fu : Int) (d : Bool) (gen : Int) (pa : Option Addr) (k cap : Nat) (A B Z : Int) (ao : Option Addr) (kk kc : Nat) (S : Nat → Sec) (C : Nat → Wr) (F T : Nat → Int) (f : Nat → Int) (p : Pt.Pn) (c : Int) (w : World)
    (nb : n * 130 ≤ 140737488355328) (mb : m * 136 ≤ 140737488355328) (kb : k * 16 ≤ 140737488355328) (hF : ∀ i, i < k → Rm.i64 (F i) ∧ Rm.i64 (T i)) (hB : Sp.i64 B) (hpA : Sp.i64 p.A) (hpB : Sp.i64 p.B) (hkp : Rm.Kp w)
    (hss : Lay w w.heap.size w.heap.size sa n sc 130 (fun i => secV (S i))) (hc : Lay w w.heap.size w.heap.size ca m cc 129 (fun i => wrV (C i))) (hl : Lay w w.heap.size w.heap.size pa k cap 2 (Rm.prV F T)) (hs : Sp.St w w.heap.size ao kk kc f)
    (hr : rvB n m C gen k F T A B Z kk f = true) (hmn : mnB n m C gen k F T A B Z kk f p = false) (_h1 : (c == 1) = false) (_h2 : (c == 2) = true) (_n1 : (c != 1) = true) (_n2 : (c != 2) = false)  (hm3 : decide ((300 : Int) < (m : Int)) = true) :
    Calls Tryz.prog 4 #[.agg #[.slice sa n sc, .slice ca m cc, .int .i64 fu, .bool d, .int .i64 gen, .slice pa k cap, .int .i64 A, .int .i64 B, .int .i64 Z, .slice ao kk kc], .agg (Pt.pV p).toArray, .int .i64 c] w fun e w' => e = .returned (.bool true) ∧ Below w.heap.size w w' := by
  obtain ⟨W, hW, hB0, hs0, hX0, hP0⟩ := box_vp w (.slice sa n sc) (.slice ca m cc) (.int .i64 fu) (.bool d) (.int .i64 gen) (.slice pa k cap) (.int .i64 A) (.int .i64 B) (.int .i64 Z) (.slice ao kk kc) p
  have HR : Hid (Rf w W sa n sc ca m cc fu d gen pa k cap A B Z ao kk kc S C F T f p) := Lib.hid ⟨hB0, hs0, hX0, hP0, nb, mb, kb, hF, hB, hpA, hpB, hkp.below hB0, ((hss.below hB0).other' hB0 hs0), ((hc.below hB0).other' hB0 hs0), ((hl.below hB0).other' hB0 hs0), hs.later hB0⟩
  have HAL := Lib.hid (alive9_any W (hkp.below hB0))
  clear nb mb kb hF hB hpA hpB hkp hss hc hl hs hX0 hP0
  go_enter Tryz.func4, Tryz.ntmps4
  go_wp2_with fail
  rw [← hW]
  clear hW
  refine HAL.out.mono ?_
  rintro _ w1 ⟨rfl, hB1⟩
  clear HAL
  dsimp only
  have xv := HR.out.vb hB1
  have c0 := xv.c0
  have c1 := xv.c1
  have c2 := xv.c2
  have c3 := xv.c3
  have c4 := xv.c4
  have c5 := xv.c5
  have c6 := xv.c6
  have c7 := xv.c7
  have c8 := xv.c8
  have c9 := xv.c9
  clear xv
  have pq := Pt.row_pt (HR.out.pr hB1)
  go_wp2_with fail
  have HQ := Lib.hid (HR.out.right hB1)
  rw [hr] at HQ
  refine HQ.out.mono ?_
  rintro _ w2 ⟨rfl, hb2⟩
  have hB2 := hB1.trans (hb2.mono hB1.size)
  clear hb2 HQ
  clear c0 c1 c2 c3 c4 c5 c6 c7 c8 c9 pq
  dsimp only
  have xv := HR.out.vb hB2
  have c0 := xv.c0
  have c1 := xv.c1
  have c2 := xv.c2
  have c3 := xv.c3
  have c4 := xv.c4
  have c5 := xv.c5
  have c6 := xv.c6
  have c7 := xv.c7
  have c8 := xv.c8
  have c9 := xv.c9
  clear xv
  have pq := Pt.row_pt (HR.out.pr hB2)
  go_wp2_with (refine @wpList_loadG _ _ _ _ _ _ _ (by kernel_rfl) 37 (.tmp 4) rfl (w.heap.size + 1) 0 rfl (Pt.pV p) _ pq Pt.undP rfl (Pt.sizeP p) ?_; simp only [Act.put, List.setIfInBounds_toArray, List.set_cons_succ, List.set_cons_zero])
  have HQ := Lib.hid (HR.out.mine hB2)
  rw [hmn] at HQ
  refine HQ.out.mono ?_
  rintro _ w3 ⟨rfl, hb3⟩
  have hB3 := hB2.trans (hb3.mono hB2.size)
  clear hb3 HQ
  clear c0 c1 c2 c3 c4 c5 c6 c7 c8 c9 pq
  dsimp only
  have xv := HR.out.vb hB3
  have c0 := xv.c0
  have c1 := xv.c1
  have c2 := xv.c2
  have c3 := xv.c3
  have c4 := xv.c4
  have c5 := xv.c5
  have c6 := xv.c6
  have c7 := xv.c7
  have c8 := xv.c8
  have c9 := xv.c9
  clear xv
  go_wp2_with fail
  go_ret
  exact ⟨rfl, HR.out.up.trans (hB3.mono HR.out.up.size)⟩

set_option maxRecDepth 100000 in
set_option maxHeartbeats 8000000 in
theorem ref_B2_false (sa : Option Addr) (n sc : Nat) (ca : Option Addr) (m cc : Nat) (fu : Int) (d : Bool) (gen : Int) (pa : Option Addr) (k cap : Nat) (A B Z : Int) (ao : Option Addr) (kk kc : Nat) (S : Nat → Sec) (C : Nat → Wr) (F T : Nat → Int) (f : Nat → Int) (p : Pt.Pn) (c : Int) (w : World)
    (nb : n * 130 ≤ 140737488355328) (mb : m * 136 ≤ 140737488355328) (kb : k * 16 ≤ 140737488355328) (hF : ∀ i, i < k → Rm.i64 (F i) ∧ Rm.i64 (T i)) (hB : Sp.i64 B) (hpA : Sp.i64 p.A) (hpB : Sp.i64 p.B) (hkp : Rm.Kp w)
    (hss : Lay w w.heap.size w.heap.size sa n sc 130 (fun i => secV (S i))) (hc : Lay w w.heap.size w.heap.size ca m cc 129 (fun i => wrV (C i))) (hl : Lay w w.heap.size w.heap.size pa k cap 2 (Rm.prV F T)) (hs : Sp.St w w.heap.size ao kk kc f)
    (hr : rvB n m C gen k F T A B Z kk f = true) (hmn : mnB n m C gen k F T A B Z kk f p = false) (_h1 : (c == 1) = false) (_h2 : (c == 2) = true) (n1 : (c != 1) = true) (n2 : (c != 2) = false)  (hm3 : decide ((300 : Int) < (m : Int)) = false) :
    Calls Tryz.prog 4 #[.agg #[.slice sa n sc, .slice ca m cc, .int .i64 fu, .bool d, .int .i64 gen, .slice pa k cap, .int .i64 A, .int .i64 B, .int .i64 Z, .slice ao kk kc], .agg (Pt.pV p).toArray, .int .i64 c] w fun e w' => e = .returned (.bool true) ∧ Below w.heap.size w w' := by
  obtain ⟨W, hW, hB0, hs0, hX0, hP0⟩ := box_vp w (.slice sa n sc) (.slice ca m cc) (.int .i64 fu) (.bool d) (.int .i64 gen) (.slice pa k cap) (.int .i64 A) (.int .i64 B) (.int .i64 Z) (.slice ao kk kc) p
  have HR : Hid (Rf w W sa n sc ca m cc fu d gen pa k cap A B Z ao kk kc S C F T f p) := Lib.hid ⟨hB0, hs0, hX0, hP0, nb, mb, kb, hF, hB, hpA, hpB, hkp.below hB0, ((hss.below hB0).other' hB0 hs0), ((hc.below hB0).other' hB0 hs0), ((hl.below hB0).other' hB0 hs0), hs.later hB0⟩
  have HAL := Lib.hid (alive9_any W (hkp.below hB0))
  clear nb mb kb hF hB hpA hpB hkp hss hc hl hs hX0 hP0
  go_enter Tryz.func4, Tryz.ntmps4
  go_wp2_with fail
  rw [← hW]
  clear hW
  refine HAL.out.mono ?_
  rintro _ w1 ⟨rfl, hB1⟩
  clear HAL
  dsimp only
  have xv := HR.out.vb hB1
  have c0 := xv.c0
  have c1 := xv.c1
  have c2 := xv.c2
  have c3 := xv.c3
  have c4 := xv.c4
  have c5 := xv.c5
  have c6 := xv.c6
  have c7 := xv.c7
  have c8 := xv.c8
  have c9 := xv.c9
  clear xv
  have pq := Pt.row_pt (HR.out.pr hB1)
  go_wp2_with fail
  have HQ := Lib.hid (HR.out.right hB1)
  rw [hr] at HQ
  refine HQ.out.mono ?_
  rintro _ w2 ⟨rfl, hb2⟩
  have hB2 := hB1.trans (hb2.mono hB1.size)
  clear hb2 HQ
  clear c0 c1 c2 c3 c4 c5 c6 c7 c8 c9 pq
  dsimp only
  have xv := HR.out.vb hB2
  have c0 := xv.c0
  have c1 := xv.c1
  have c2 := xv.c2
  have c3 := xv.c3
  have c4 := xv.c4
  have c5 := xv.c5
  have c6 := xv.c6
  have c7 := xv.c7
  have c8 := xv.c8
  have c9 := xv.c9
  clear xv
  have pq := Pt.row_pt (HR.out.pr hB2)
  go_wp2_with (refine @wpList_loadG _ _ _ _ _ _ _ (by kernel_rfl) 37 (.tmp 4) rfl (w.heap.size + 1) 0 rfl (Pt.pV p) _ pq Pt.undP rfl (Pt.sizeP p) ?_; simp only [Act.put, List.setIfInBounds_toArray, List.set_cons_succ, List.set_cons_zero])
  have HQ := Lib.hid (HR.out.mine hB2)
  rw [hmn] at HQ
  refine HQ.out.mono ?_
  rintro _ w3 ⟨rfl, hb3⟩
  have hB3 := hB2.trans (hb3.mono hB2.size)
  clear hb3 HQ
  clear c0 c1 c2 c3 c4 c5 c6 c7 c8 c9 pq
  dsimp only
  have HNO : Hid (mn n ⟨m, S, C, fu, d⟩ ⟨gen, k, F, T⟩ A B Z kk f p = false ∨ alB c = false) := Lib.hid (.inl hmn)
  have xv := HR.out.vb hB3
  have c0 := xv.c0
  have c1 := xv.c1
  have c2 := xv.c2
  have c3 := xv.c3
  have c4 := xv.c4
  have c5 := xv.c5
  have c6 := xv.c6
  have c7 := xv.c7
  have c8 := xv.c8
  have c9 := xv.c9
  clear xv
  have pq := Pt.row_pt (HR.out.pr hB3)
  go_wp2_with (refine @wpList_loadG _ _ _ _ _ _ _ (by kernel_rfl) 37 (.tmp 4) rfl (w.heap.size + 1) 0 rfl (Pt.pV p) _ pq Pt.undP rfl (Pt.sizeP p) ?_; simp only [Act.put, List.setIfInBounds_toArray, List.set_cons_succ, List.set_cons_zero])
  refine (HR.out.copy hB3).mono ?_
  rintro _ w4 ⟨sb, sd, cb, cd, pb, cbp, bo, kd, rfl, hcm, hb4⟩
  have hB4 := hB3.trans (hb4.mono hB3.size)
  clear c0 c1 c2 c3 c4 c5 c6 c7 c8 c9 pq
  have far : w.heap.size < w3.heap.size := by have := hB3.size; omega
  generalize w3.heap.size = base at hcm far
  obtain ⟨w5, hW5⟩ : ∃ w5, w5 = w4.alloc (.cells #[.slice sb n sd, .slice cb m cd, .int .i64 fu, .bool d, .int .i64 gen, .slice pb k cbp, .int .i64 A, .int .i64 B, .int .i64 Z, .slice bo kk kd] 34) := ⟨_, rfl⟩
  have hb5 : Below w4.heap.size w4 w5 := by rw [hW5]; exact (Below.refl _ _).alloc (Nat.le_refl _) _
  have hs5 : w5.heap.size = w4.heap.size + 1 := by rw [hW5]; simp
  have hB5 := hB4.trans (hb5.mono hB4.size)
  have HV : Hid (HasVol w5 (Pl.own w4.heap.size 34) n ⟨m, S, C, fu, d⟩ ⟨gen, k, F, T⟩ A B Z kk f) := Lib.hid (by rw [hW5]; exact HR.out.has hB4 hcm (by have := HR.out.kp.2; have := hB4.size; omega))
  have hcm5 := hcm.below hb5
  have hx5 : Vb w5 w4.heap.size (.slice sb n sd) (.slice cb m cd) (.int .i64 fu) (.bool d) (.int .i64 gen) (.slice pb k cbp) (.int .i64 A) (.int .i64 B) (.int .i64 Z) (.slice bo kk kd) := by rw [hW5]; exact heap_alloc_new w4 _
  have HC := Lib.hid (fun w' (hb : Below w5.heap.size w5 w') => hcm5.below hb)
  have HY := Lib.hid (fun w' (hb : Below w5.heap.size w5 w') => hx5.below hb (show w4.heap.size < w5.heap.size by omega))
  clear hcm hb4 hb5 hcm5 hx5
  dsimp only
  have pq := Pt.row_pt (HR.out.pr hB5)
  go_wp2_with (first
    | (refine @wpList_store_row _ _ _ _ _ _ _ rfl 34 (.tmp 7) (.tmp 40) rfl w4.heap.size #[.slice sb n sd, .slice cb m cd, .int .i64 fu, .bool d, .int .i64 gen, .slice pb k cbp, .int .i64 A, .int .i64 B, .int .i64 Z, .slice bo kk kd] rfl rfl 34 _ (heap_alloc_new w4 _) (vol_size _ _ _ _ _ _ _ _ _ _) rfl (vol_one _ _ _ _ _ _ _ _ _ _ _ _ _ _ _ _ _ _) ?_; rw [World.setRow_alloc_new, ← hW5]; simp only [Act.put])
    | (refine @wpList_loadG _ _ _ _ _ _ _ (by kernel_rfl) 37 (.tmp 4) rfl (w.heap.size + 1) 0 rfl (Pt.pV p) _ pq Pt.undP rfl (Pt.sizeP p) ?_; simp only [Act.put, List.setIfInBounds_toArray, List.set_cons_succ, List.set_cons_zero])
    | (refine wpList_buildTo rfl 47 #[(0, .const (.int .u8 3))] rfl _ rfl (bl d3).toArray built_3 ?_; simp only [Act.put, List.setIfInBounds_toArray, List.set_cons_succ, List.set_cons_zero]))
  try rw [← hW5]
  clear hW5 pq
  generalize w4.heap.size = bq at HV HY hs5 ⊢
  have HSW := Lib.hid (swap_no HV.out HR.out.tab HR.out.hB p HR.out.hpA HR.out.hpB d3 c HNO.out)
  refine HSW.out.mono ?_
  rintro _ w6 ⟨rfl, hb6⟩
  clear HSW
  obtain ⟨w7, hW7⟩ : ∃ w7, w7 = w6.alloc (.cells (Pt.pV Pt.pz).toArray 37) := ⟨_, rfl⟩
  have hb7 : Below w6.heap.size w6 w7 := by rw [hW7]; exact (Below.refl _ _).alloc (Nat.le_refl _) _
  have hD7 : Below w5.heap.size w5 w7 := hb6.trans (hb7.mono hb6.size)
  have hB7 := hB5.trans (hD7.mono hB5.size)
  clear hb6 hb7
  dsimp only
  have xv := HR.out.vb hB7
  have c0 := xv.c0
  have c1 := xv.c1
  have c2 := xv.c2
  have c3 := xv.c3
  have c4 := xv.c4
  have c5 := xv.c5
  have c6 := xv.c6
  have c7 := xv.c7
  have c8 := xv.c8
  have c9 := xv.c9
  clear xv
  have pq := Pt.row_pt (HR.out.pr hB7)
  have xw := HR.out.vb hB7
  rw [hW7] at c0 c1 c2 c3 c4 c5 c6 c7 c8 c9 pq
  clear xw
  go_wp2_with (first
    | (refine @wpList_store_row _ _ _ _ _ _ _ rfl 37 (.tmp 8) (.tmp 46) rfl w6.heap.size (Pt.pV Pt.pz).toArray rfl rfl 37 _ (heap_alloc_new w6 _) (Pt.sizeP' _) rfl (Pt.pV_all _) ?_; rw [World.setRow_alloc_new]; simp only [Act.put])
    | (refine @wpList_loadG _ _ _ _ _ _ _ (by kernel_rfl) 37 (.tmp 4) rfl (w.heap.size + 1) 0 rfl (Pt.pV p) _ pq Pt.undP rfl (Pt.sizeP p) ?_; simp only [Act.put, List.setIfInBounds_toArray, List.set_cons_succ, List.set_cons_zero]))
  try rw [← hW7]
  clear hW7
  have HQ := Lib.hid (HR.out.mine hB7)
  rw [hmn] at HQ
  refine HQ.out.mono ?_
  rintro _ w8 ⟨rfl, hb8⟩
  have hD8 := hD7.trans (hb8.mono hD7.size)
  have hB8 := hB7.trans (hb8.mono hB7.size)
  clear hb8 HQ
  clear c0 c1 c2 c3 c4 c5 c6 c7 c8 c9 pq
  dsimp only
  have pq := Pt.row_pt (HR.out.pr hB8)
  go_wp2_with (refine @wpList_loadG _ _ _ _ _ _ _ (by kernel_rfl) 37 (.tmp 4) rfl (w.heap.size + 1) 0 rfl (Pt.pV p) _ pq Pt.undP rfl (Pt.sizeP p) ?_; simp only [Act.put, List.setIfInBounds_toArray, List.set_cons_succ, List.set_cons_zero])
  have HGE := Lib.hid (get_no (HV.out.below hD8) HR.out.tab HR.out.hB p HR.out.hpA HR.out.hpB hmn)
  refine HGE.out.mono ?_
  rintro _ w9 ⟨rfl, hb9⟩
  clear HGE pq
  obtain ⟨w10, hW10⟩ : ∃ w10, w10 = w9.alloc (.cells (bl fun _ => 0).toArray 47) := ⟨_, rfl⟩
  have hb10 : Below w9.heap.size w9 w10 := by rw [hW10]; exact (Below.refl _ _).alloc (Nat.le_refl _) _
  have hD10 := hD8.trans ((hb9.trans (hb10.mono hb9.size)).mono hD8.size)
  have hB10 := hB5.trans (hD10.mono hB5.size)
  clear hb9 hb10
  dsimp only
  have pq := Pt.row_pt (HR.out.pr hB10)
  rw [hW10] at pq
  go_wp2_with (first
    | (refine wpList_store_row rfl 47 (.tmp 11) (.tmp 57) rfl w9.heap.size (bl fun _ => 0).toArray rfl rfl 47 _ (heap_alloc_new w9 _) (size_bl' _) (by simp [bl_length]) (bl_all _) ?_; rw [World.setRow_alloc_new]; simp only [Act.put])
    | (refine @wpList_loadG _ _ _ _ _ _ _ (by kernel_rfl) 37 (.tmp 4) rfl (w.heap.size + 1) 0 rfl (Pt.pV p) _ pq Pt.undP rfl (Pt.sizeP p) ?_; simp only [Act.put, List.setIfInBounds_toArray, List.set_cons_succ, List.set_cons_zero]))
  try rw [← hW10]
  clear hW10 pq
  have HDR := Lib.hid (drop_no (HV.out.below hD10) HR.out.tab HR.out.hB p HR.out.hpA HR.out.hpB hmn)
  refine HDR.out.mono ?_
  rintro _ w11 ⟨rfl, hb11⟩
  clear HDR
  have hD11 := hD10.trans (hb11.mono hD10.size)
  have hB11 := hB10.trans (hb11.mono hB10.size)
  clear hb11
  dsimp only
  have xv := HR.out.vb hB11
  have c0 := xv.c0
  have c1 := xv.c1
  have c2 := xv.c2
  have c3 := xv.c3
  have c4 := xv.c4
  have c5 := xv.c5
  have c6 := xv.c6
  have c7 := xv.c7
  have c8 := xv.c8
  have c9 := xv.c9
  clear xv
  go_wp2_with fail
  have HQ := Lib.hid (HR.out.right hB11)
  rw [hr] at HQ
  refine HQ.out.mono ?_
  rintro _ w12 ⟨rfl, hb12⟩
  have hD12 := hD11.trans (hb12.mono hD11.size)
  have hB12 := hB11.trans (hb12.mono hB11.size)
  clear hb12 HQ
  clear c0 c1 c2 c3 c4 c5 c6 c7 c8 c9
  dsimp only
  have xv := HR.out.vb hB12
  have c0 := xv.c0
  have c1 := xv.c1
  have c2 := xv.c2
  have c3 := xv.c3
  have c4 := xv.c4
  have c5 := xv.c5
  have c6 := xv.c6
  have c7 := xv.c7
  have c8 := xv.c8
  have c9 := xv.c9
  clear xv
  have yv := HY.out w12 hD12
  have e0 := yv.c0
  have e1 := yv.c1
  have e2 := yv.c2
  have e3 := yv.c3
  have e4 := yv.c4
  have e5 := yv.c5
  have e6 := yv.c6
  have e7 := yv.c7
  have e8 := yv.c8
  have e9 := yv.c9
  clear yv
  go_wp2_with fail
  have HSA := Lib.hid (HR.out.same hB12 (HC.out w12 hD12) far)
  refine HSA.out.mono ?_
  rintro _ w15 ⟨rfl, hb15⟩
  clear c0 c1 c2 c3 c4 c5 c6 c7 c8 c9
  clear e0 e1 e2 e3 e4 e5 e6 e7 e8 e9
  dsimp only
  go_wp2_with fail
  go_ret
  exact ⟨rfl, HR.out.up.trans ((hB12.trans (hb15.mono hB12.size)).mono HR.out.up.size)⟩

set_option maxRecDepth 100000 in
set_option maxHeartbeats 8000000 in
theorem ref_C_true (sa : Option Addr) (n sc : Nat) (ca : Option Addr) (m cc : Nat) (fu : Int) (d : Bool) (gen : Int) (pa : Option Addr) (k cap : Nat) (A B Z : Int) (ao : Option Addr) (kk kc : Nat) (S : Nat → Sec) (C : Nat → Wr) (F T : Nat → Int) (f : Nat → Int) (p : Pt.Pn) (c : Int) (w : World)
    (nb : n * 130 ≤ 140737488355328) (mb : m * 136 ≤ 140737488355328) (kb : k * 16 ≤ 140737488355328) (hF : ∀ i, i < k → Rm.i64 (F i) ∧ Rm.i64 (T i)) (hB : Sp.i64 B) (hpA : Sp.i64 p.A) (hpB : Sp.i64 p.B) (hkp : Rm.Kp w)
    (hss : Lay w w.heap.size w.heap.size sa n sc 130 (fun i => secV (S i))) (hc : Lay w w.heap.size w.heap.size ca m cc 129 (fun i => wrV (C i))) (hl : Lay w w.heap.size w.heap.size pa k cap 2 (Rm.prV F T)) (hs : Sp.St w w.heap.size ao kk kc f)
    (hr : rvB n m C gen k F T A B Z kk f = true) (hmn : mnB n m C gen k F T A B Z kk f p = false) (_h1 : (c == 1) = false) (_h2 : (c == 2) = false) (_n1 : (c != 1) = true) (_n2 : (c != 2) = true) (_ha : alB c = false) (hm3 : decide ((300 : Int) < (m : Int)) = true) :
    Calls Tryz.prog 4 #[.agg #[.slice sa n sc, .slice ca m cc, .int .i64 fu, .bool d, .int .i64 gen, .slice pa k cap, .int .i64 A, .int .i64 B, .int .i64 Z, .slice ao kk kc], .agg (Pt.pV p).toArray, .int .i64 c] w fun e w' => e = .returned (.bool true) ∧ Below w.heap.size w w' := by
  obtain ⟨W, hW, hB0, hs0, hX0, hP0⟩ := box_vp w (.slice sa n sc) (.slice ca m cc) (.int .i64 fu) (.bool d) (.int .i64 gen) (.slice pa k cap) (.int .i64 A) (.int .i64 B) (.int .i64 Z) (.slice ao kk kc) p
  have HR : Hid (Rf w W sa n sc ca m cc fu d gen pa k cap A B Z ao kk kc S C F T f p) := Lib.hid ⟨hB0, hs0, hX0, hP0, nb, mb, kb, hF, hB, hpA, hpB, hkp.below hB0, ((hss.below hB0).other' hB0 hs0), ((hc.below hB0).other' hB0 hs0), ((hl.below hB0).other' hB0 hs0), hs.later hB0⟩
  have HAL := Lib.hid (alive9_any W (hkp.below hB0))
  clear nb mb kb hF hB hpA hpB hkp hss hc hl hs hX0 hP0
  go_enter Tryz.func4, Tryz.ntmps4
  go_wp2_with fail
  rw [← hW]
  clear hW
  refine HAL.out.mono ?_
  rintro _ w1 ⟨rfl, hB1⟩
  clear HAL
  dsimp only
  have xv := HR.out.vb hB1
  have c0 := xv.c0
  have c1 := xv.c1
  have c2 := xv.c2
  have c3 := xv.c3
  have c4 := xv.c4
  have c5 := xv.c5
  have c6 := xv.c6
  have c7 := xv.c7
  have c8 := xv.c8
  have c9 := xv.c9
  clear xv
  have pq := Pt.row_pt (HR.out.pr hB1)
  go_wp2_with fail
  have HQ := Lib.hid (HR.out.right hB1)
  rw [hr] at HQ
  refine HQ.out.mono ?_
  rintro _ w2 ⟨rfl, hb2⟩
  have hB2 := hB1.trans (hb2.mono hB1.size)
  clear hb2 HQ
  clear c0 c1 c2 c3 c4 c5 c6 c7 c8 c9 pq
  dsimp only
  have xv := HR.out.vb hB2
  have c0 := xv.c0
  have c1 := xv.c1
  have c2 := xv.c2
  have c3 := xv.c3
  have c4 := xv.c4
  have c5 := xv.c5
  have c6 := xv.c6
  have c7 := xv.c7
  have c8 := xv.c8
  have c9 := xv.c9
  clear xv
  have pq := Pt.row_pt (HR.out.pr hB2)
  go_wp2_with (refine @wpList_loadG _ _ _ _ _ _ _ (by kernel_rfl) 37 (.tmp 4) rfl (w.heap.size + 1) 0 rfl (Pt.pV p) _ pq Pt.undP rfl (Pt.sizeP p) ?_; simp only [Act.put, List.setIfInBounds_toArray, List.set_cons_succ, List.set_cons_zero])
  have HQ := Lib.hid (HR.out.mine hB2)
  rw [hmn] at HQ
  refine HQ.out.mono ?_
  rintro _ w3 ⟨rfl, hb3⟩
  have hB3 := hB2.trans (hb3.mono hB2.size)
  clear hb3 HQ
  clear c0 c1 c2 c3 c4 c5 c6 c7 c8 c9 pq
  dsimp only
  have xv := HR.out.vb hB3
  have c0 := xv.c0
  have c1 := xv.c1
  have c2 := xv.c2
  have c3 := xv.c3
  have c4 := xv.c4
  have c5 := xv.c5
  have c6 := xv.c6
  have c7 := xv.c7
  have c8 := xv.c8
  have c9 := xv.c9
  clear xv
  go_wp2_with fail
  go_ret
  exact ⟨rfl, HR.out.up.trans (hB3.mono HR.out.up.size)⟩

set_option maxRecDepth 100000 in
set_option maxHeartbeats 8000000 in
theorem ref_C_false (sa : Option Addr) (n sc : Nat) (ca : Option Addr) (m cc : Nat) (fu : Int) (d : Bool) (gen : Int) (pa : Option Addr) (k cap : Nat) (A B Z : Int) (ao : Option Addr) (kk kc : Nat) (S : Nat → Sec) (C : Nat → Wr) (F T : Nat → Int) (f : Nat → Int) (p : Pt.Pn) (c : Int) (w : World)
    (nb : n * 130 ≤ 140737488355328) (mb : m * 136 ≤ 140737488355328) (kb : k * 16 ≤ 140737488355328) (hF : ∀ i, i < k → Rm.i64 (F i) ∧ Rm.i64 (T i)) (hB : Sp.i64 B) (hpA : Sp.i64 p.A) (hpB : Sp.i64 p.B) (hkp : Rm.Kp w)
    (hss : Lay w w.heap.size w.heap.size sa n sc 130 (fun i => secV (S i))) (hc : Lay w w.heap.size w.heap.size ca m cc 129 (fun i => wrV (C i))) (hl : Lay w w.heap.size w.heap.size pa k cap 2 (Rm.prV F T)) (hs : Sp.St w w.heap.size ao kk kc f)
    (hr : rvB n m C gen k F T A B Z kk f = true) (hmn : mnB n m C gen k F T A B Z kk f p = false) (_h1 : (c == 1) = false) (_h2 : (c == 2) = false) (n1 : (c != 1) = true) (n2 : (c != 2) = true) (ha : alB c = false) (hm3 : decide ((300 : Int) < (m : Int)) = false) :
    Calls Tryz.prog 4 #[.agg #[.slice sa n sc, .slice ca m cc, .int .i64 fu, .bool d, .int .i64 gen, .slice pa k cap, .int .i64 A, .int .i64 B, .int .i64 Z, .slice ao kk kc], .agg (Pt.pV p).toArray, .int .i64 c] w fun e w' => e = .returned (.bool true) ∧ Below w.heap.size w w' := by
  obtain ⟨W, hW, hB0, hs0, hX0, hP0⟩ := box_vp w (.slice sa n sc) (.slice ca m cc) (.int .i64 fu) (.bool d) (.int .i64 gen) (.slice pa k cap) (.int .i64 A) (.int .i64 B) (.int .i64 Z) (.slice ao kk kc) p
  have HR : Hid (Rf w W sa n sc ca m cc fu d gen pa k cap A B Z ao kk kc S C F T f p) := Lib.hid ⟨hB0, hs0, hX0, hP0, nb, mb, kb, hF, hB, hpA, hpB, hkp.below hB0, ((hss.below hB0).other' hB0 hs0), ((hc.below hB0).other' hB0 hs0), ((hl.below hB0).other' hB0 hs0), hs.later hB0⟩
  have HAL := Lib.hid (alive9_any W (hkp.below hB0))
  clear nb mb kb hF hB hpA hpB hkp hss hc hl hs hX0 hP0
  go_enter Tryz.func4, Tryz.ntmps4
  go_wp2_with fail
  rw [← hW]
  clear hW
  refine HAL.out.mono ?_
  rintro _ w1 ⟨rfl, hB1⟩
  clear HAL
  dsimp only
  have xv := HR.out.vb hB1
  have c0 := xv.c0
  have c1 := xv.c1
  have c2 := xv.c2
  have c3 := xv.c3
  have c4 := xv.c4
  have c5 := xv.c5
  have c6 := xv.c6
  have c7 := xv.c7
  have c8 := xv.c8
  have c9 := xv.c9
  clear xv
  have pq := Pt.row_pt (HR.out.pr hB1)
  go_wp2_with fail
  have HQ := Lib.hid (HR.out.right hB1)
  rw [hr] at HQ
  refine HQ.out.mono ?_
  rintro _ w2 ⟨rfl, hb2⟩
  have hB2 := hB1.trans (hb2.mono hB1.size)
  clear hb2 HQ
  clear c0 c1 c2 c3 c4 c5 c6 c7 c8 c9 pq
  dsimp only
  have xv := HR.out.vb hB2
  have c0 := xv.c0
  have c1 := xv.c1
  have c2 := xv.c2
  have c3 := xv.c3
  have c4 := xv.c4
  have c5 := xv.c5
  have c6 := xv.c6
  have c7 := xv.c7
  have c8 := xv.c8
  have c9 := xv.c9
  clear xv
  have pq := Pt.row_pt (HR.out.pr hB2)
  go_wp2_with (refine @wpList_loadG _ _ _ _ _ _ _ (by kernel_rfl) 37 (.tmp 4) rfl (w.heap.size + 1) 0 rfl (Pt.pV p) _ pq Pt.undP rfl (Pt.sizeP p) ?_; simp only [Act.put, List.setIfInBounds_toArray, List.set_cons_succ, List.set_cons_zero])
  have HQ := Lib.hid (HR.out.mine hB2)
  rw [hmn] at HQ
  refine HQ.out.mono ?_
  rintro _ w3 ⟨rfl, hb3⟩
  have hB3 := hB2.trans (hb3.mono hB2.size)
  clear hb3 HQ
  clear c0 c1 c2 c3 c4 c5 c6 c7 c8 c9 pq
  dsimp only
  have HNO : Hid (mn n ⟨m, S, C, fu, d⟩ ⟨gen, k, F, T⟩ A B Z kk f p = false ∨ alB c = false) := Lib.hid (.inl hmn)
  have HA := Lib.hid ha
  clear ha
  have xv := HR.out.vb hB3
  have c0 := xv.c0
  have c1 := xv.c1
  have c2 := xv.c2
  have c3 := xv.c3
  have c4 := xv.c4
  have c5 := xv.c5
  have c6 := xv.c6
  have c7 := xv.c7
  have c8 := xv.c8
  have c9 := xv.c9
  clear xv
  have pq := Pt.row_pt (HR.out.pr hB3)
  go_wp2_with (refine @wpList_loadG _ _ _ _ _ _ _ (by kernel_rfl) 37 (.tmp 4) rfl (w.heap.size + 1) 0 rfl (Pt.pV p) _ pq Pt.undP rfl (Pt.sizeP p) ?_; simp only [Act.put, List.setIfInBounds_toArray, List.set_cons_succ, List.set_cons_zero])
  refine (HR.out.copy hB3).mono ?_
  rintro _ w4 ⟨sb, sd, cb, cd, pb, cbp, bo, kd, rfl, hcm, hb4⟩
  have hB4 := hB3.trans (hb4.mono hB3.size)
  clear c0 c1 c2 c3 c4 c5 c6 c7 c8 c9 pq
  have far : w.heap.size < w3.heap.size := by have := hB3.size; omega
  generalize w3.heap.size = base at hcm far
  obtain ⟨w5, hW5⟩ : ∃ w5, w5 = w4.alloc (.cells #[.slice sb n sd, .slice cb m cd, .int .i64 fu, .bool d, .int .i64 gen, .slice pb k cbp, .int .i64 A, .int .i64 B, .int .i64 Z, .slice bo kk kd] 34) := ⟨_, rfl⟩
  have hb5 : Below w4.heap.size w4 w5 := by rw [hW5]; exact (Below.refl _ _).alloc (Nat.le_refl _) _
  have hs5 : w5.heap.size = w4.heap.size + 1 := by rw [hW5]; simp
  have hB5 := hB4.trans (hb5.mono hB4.size)
  have HV : Hid (HasVol w5 (Pl.own w4.heap.size 34) n ⟨m, S, C, fu, d⟩ ⟨gen, k, F, T⟩ A B Z kk f) := Lib.hid (by rw [hW5]; exact HR.out.has hB4 hcm (by have := HR.out.kp.2; have := hB4.size; omega))
  have hcm5 := hcm.below hb5
  have hx5 : Vb w5 w4.heap.size (.slice sb n sd) (.slice cb m cd) (.int .i64 fu) (.bool d) (.int .i64 gen) (.slice pb k cbp) (.int .i64 A) (.int .i64 B) (.int .i64 Z) (.slice bo kk kd) := by rw [hW5]; exact heap_alloc_new w4 _
  have HC := Lib.hid (fun w' (hb : Below w5.heap.size w5 w') => hcm5.below hb)
  have HY := Lib.hid (fun w' (hb : Below w5.heap.size w5 w') => hx5.below hb (show w4.heap.size < w5.heap.size by omega))
  clear hcm hb4 hb5 hcm5 hx5
  dsimp only
  have pq := Pt.row_pt (HR.out.pr hB5)
  go_wp2_with (first
    | (refine @wpList_store_row _ _ _ _ _ _ _ rfl 34 (.tmp 7) (.tmp 40) rfl w4.heap.size #[.slice sb n sd, .slice cb m cd, .int .i64 fu, .bool d, .int .i64 gen, .slice pb k cbp, .int .i64 A, .int .i64 B, .int .i64 Z, .slice bo kk kd] rfl rfl 34 _ (heap_alloc_new w4 _) (vol_size _ _ _ _ _ _ _ _ _ _) rfl (vol_one _ _ _ _ _ _ _ _ _ _ _ _ _ _ _ _ _ _) ?_; rw [World.setRow_alloc_new, ← hW5]; simp only [Act.put])
    | (refine @wpList_loadG _ _ _ _ _ _ _ (by kernel_rfl) 37 (.tmp 4) rfl (w.heap.size + 1) 0 rfl (Pt.pV p) _ pq Pt.undP rfl (Pt.sizeP p) ?_; simp only [Act.put, List.setIfInBounds_toArray, List.set_cons_succ, List.set_cons_zero])
    | (refine wpList_buildTo rfl 47 #[(0, .const (.int .u8 3))] rfl _ rfl (bl d3).toArray built_3 ?_; simp only [Act.put, List.setIfInBounds_toArray, List.set_cons_succ, List.set_cons_zero]))
  try rw [← hW5]
  clear hW5 pq
  generalize w4.heap.size = bq at HV HY hs5 ⊢
  have HSW := Lib.hid (swap_no HV.out HR.out.tab HR.out.hB p HR.out.hpA HR.out.hpB d3 c HNO.out)
  refine HSW.out.mono ?_
  rintro _ w6 ⟨rfl, hb6⟩
  clear HSW
  obtain ⟨w7, hW7⟩ : ∃ w7, w7 = w6.alloc (.cells (Pt.pV Pt.pz).toArray 37) := ⟨_, rfl⟩
  have hb7 : Below w6.heap.size w6 w7 := by rw [hW7]; exact (Below.refl _ _).alloc (Nat.le_refl _) _
  have hD7 : Below w5.heap.size w5 w7 := hb6.trans (hb7.mono hb6.size)
  have hB7 := hB5.trans (hD7.mono hB5.size)
  clear hb6 hb7
  dsimp only
  have xv := HR.out.vb hB7
  have c0 := xv.c0
  have c1 := xv.c1
  have c2 := xv.c2
  have c3 := xv.c3
  have c4 := xv.c4
  have c5 := xv.c5
  have c6 := xv.c6
  have c7 := xv.c7
  have c8 := xv.c8
  have c9 := xv.c9
  clear xv
  have pq := Pt.row_pt (HR.out.pr hB7)
  have xw := HR.out.vb hB7
  rw [hW7] at c0 c1 c2 c3 c4 c5 c6 c7 c8 c9 pq
  clear xw
  go_wp2_with (first
    | (refine @wpList_store_row _ _ _ _ _ _ _ rfl 37 (.tmp 8) (.tmp 46) rfl w6.heap.size (Pt.pV Pt.pz).toArray rfl rfl 37 _ (heap_alloc_new w6 _) (Pt.sizeP' _) rfl (Pt.pV_all _) ?_; rw [World.setRow_alloc_new]; simp only [Act.put])
    | (refine @wpList_loadG _ _ _ _ _ _ _ (by kernel_rfl) 37 (.tmp 4) rfl (w.heap.size + 1) 0 rfl (Pt.pV p) _ pq Pt.undP rfl (Pt.sizeP p) ?_; simp only [Act.put, List.setIfInBounds_toArray, List.set_cons_succ, List.set_cons_zero]))
  try rw [← hW7]
  clear hW7
  have HQ := Lib.hid (HR.out.mine hB7)
  rw [hmn] at HQ
  refine HQ.out.mono ?_
  rintro _ w8 ⟨rfl, hb8⟩
  have hD8 := hD7.trans (hb8.mono hD7.size)
  have hB8 := hB7.trans (hb8.mono hB7.size)
  clear hb8 HQ
  clear c0 c1 c2 c3 c4 c5 c6 c7 c8 c9 pq
  dsimp only
  have pq := Pt.row_pt (HR.out.pr hB8)
  go_wp2_with (refine @wpList_loadG _ _ _ _ _ _ _ (by kernel_rfl) 37 (.tmp 4) rfl (w.heap.size + 1) 0 rfl (Pt.pV p) _ pq Pt.undP rfl (Pt.sizeP p) ?_; simp only [Act.put, List.setIfInBounds_toArray, List.set_cons_succ, List.set_cons_zero])
  have HGE := Lib.hid (get_no (HV.out.below hD8) HR.out.tab HR.out.hB p HR.out.hpA HR.out.hpB hmn)
  refine HGE.out.mono ?_
  rintro _ w9 ⟨rfl, hb9⟩
  clear HGE pq
  obtain ⟨w10, hW10⟩ : ∃ w10, w10 = w9.alloc (.cells (bl fun _ => 0).toArray 47) := ⟨_, rfl⟩
  have hb10 : Below w9.heap.size w9 w10 := by rw [hW10]; exact (Below.refl _ _).alloc (Nat.le_refl _) _
  have hD10 := hD8.trans ((hb9.trans (hb10.mono hb9.size)).mono hD8.size)
  have hB10 := hB5.trans (hD10.mono hB5.size)
  clear hb9 hb10
  dsimp only
  have pq := Pt.row_pt (HR.out.pr hB10)
  rw [hW10] at pq
  go_wp2_with (first
    | (refine wpList_store_row rfl 47 (.tmp 11) (.tmp 57) rfl w9.heap.size (bl fun _ => 0).toArray rfl rfl 47 _ (heap_alloc_new w9 _) (size_bl' _) (by simp [bl_length]) (bl_all _) ?_; rw [World.setRow_alloc_new]; simp only [Act.put])
    | (refine @wpList_loadG _ _ _ _ _ _ _ (by kernel_rfl) 37 (.tmp 4) rfl (w.heap.size + 1) 0 rfl (Pt.pV p) _ pq Pt.undP rfl (Pt.sizeP p) ?_; simp only [Act.put, List.setIfInBounds_toArray, List.set_cons_succ, List.set_cons_zero]))
  try rw [← hW10]
  clear hW10 pq
  have HDR := Lib.hid (drop_no (HV.out.below hD10) HR.out.tab HR.out.hB p HR.out.hpA HR.out.hpB hmn)
  refine HDR.out.mono ?_
  rintro _ w11 ⟨rfl, hb11⟩
  clear HDR
  have hD11 := hD10.trans (hb11.mono hD10.size)
  have hB11 := hB10.trans (hb11.mono hB10.size)
  clear hb11
  dsimp only
  have xv := HR.out.vb hB11
  have c0 := xv.c0
  have c1 := xv.c1
  have c2 := xv.c2
  have c3 := xv.c3
  have c4 := xv.c4
  have c5 := xv.c5
  have c6 := xv.c6
  have c7 := xv.c7
  have c8 := xv.c8
  have c9 := xv.c9
  clear xv
  go_wp2_with fail
  have HQ := Lib.hid (HR.out.right hB11)
  rw [hr] at HQ
  refine HQ.out.mono ?_
  rintro _ w12 ⟨rfl, hb12⟩
  have hD12 := hD11.trans (hb12.mono hD11.size)
  have hB12 := hB11.trans (hb12.mono hB11.size)
  clear hb12 HQ
  clear c0 c1 c2 c3 c4 c5 c6 c7 c8 c9
  dsimp only
  go_wp2_with (refine wpList_buildTo rfl 47 #[(0, .const (.int .u8 3))] rfl _ rfl (bl d3).toArray built_3 ?_; simp only [Act.put, List.setIfInBounds_toArray, List.set_cons_succ, List.set_cons_zero])
  have HAD := Lib.hid (add_no (HV.out.below hD12) HR.out.tab HR.out.hB d3 c (.inr HA.out))
  refine HAD.out.mono ?_
  rintro _ w13 ⟨rfl, hb13⟩
  clear HAD
  obtain ⟨w14, hW14⟩ : ∃ w14, w14 = w13.alloc (.cells (Pt.pV Pt.pz).toArray 37) := ⟨_, rfl⟩
  have hb14 : Below w13.heap.size w13 w14 := by rw [hW14]; exact (Below.refl _ _).alloc (Nat.le_refl _) _
  have hD14 := hD12.trans ((hb13.trans (hb14.mono hb13.size)).mono hD12.size)
  have hB14 := hB5.trans (hD14.mono hB5.size)
  clear hb13 hb14
  dsimp only
  have xv := HR.out.vb hB14
  have c0 := xv.c0
  have c1 := xv.c1
  have c2 := xv.c2
  have c3 := xv.c3
  have c4 := xv.c4
  have c5 := xv.c5
  have c6 := xv.c6
  have c7 := xv.c7
  have c8 := xv.c8
  have c9 := xv.c9
  clear xv
  have yv := HY.out w14 hD14
  have e0 := yv.c0
  have e1 := yv.c1
  have e2 := yv.c2
  have e3 := yv.c3
  have e4 := yv.c4
  have e5 := yv.c5
  have e6 := yv.c6
  have e7 := yv.c7
  have e8 := yv.c8
  have e9 := yv.c9
  clear yv
  rw [hW14] at c0 c1 c2 c3 c4 c5 c6 c7 c8 c9 e0 e1 e2 e3 e4 e5 e6 e7 e8 e9
  go_wp2_with (refine @wpList_store_row _ _ _ _ _ _ _ rfl 37 (.tmp 13) (.tmp 84) rfl w13.heap.size (Pt.pV Pt.pz).toArray rfl rfl 37 _ (heap_alloc_new w13 _) (Pt.sizeP' _) rfl (Pt.pV_all _) ?_; rw [World.setRow_alloc_new]; simp only [Act.put])
  try rw [← hW14]
  clear hW14
  have HSA := Lib.hid (HR.out.same hB14 (HC.out w14 hD14) far)
  refine HSA.out.mono ?_
  rintro _ w15 ⟨rfl, hb15⟩
  clear c0 c1 c2 c3 c4 c5 c6 c7 c8 c9
  clear e0 e1 e2 e3 e4 e5 e6 e7 e8 e9
  dsimp only
  go_wp2_with fail
  go_ret
  exact ⟨rfl, HR.out.up.trans ((hB14.trans (hb15.mono hB14.size)).mono HR.out.up.size)⟩

set_option maxRecDepth 100000 in
set_option maxHeartbeats 8000000 in
theorem ref_D_true (sa : Option Addr) (n sc : Nat) (ca : Option Addr) (m cc : Nat) (fu : Int) (d : Bool) (gen : Int) (pa : Option Addr) (k cap : Nat) (A B Z : Int) (ao : Option Addr) (kk kc : Nat) (S : Nat → Sec) (C : Nat → Wr) (F T : Nat → Int) (f : Nat → Int) (p : Pt.Pn) (c : Int) (w : World)
    (nb : n * 130 ≤ 140737488355328) (mb : m * 136 ≤ 140737488355328) (kb : k * 16 ≤ 140737488355328) (hF : ∀ i, i < k → Rm.i64 (F i) ∧ Rm.i64 (T i)) (hB : Sp.i64 B) (hpA : Sp.i64 p.A) (hpB : Sp.i64 p.B) (hkp : Rm.Kp w)
    (hss : Lay w w.heap.size w.heap.size sa n sc 130 (fun i => secV (S i))) (hc : Lay w w.heap.size w.heap.size ca m cc 129 (fun i => wrV (C i))) (hl : Lay w w.heap.size w.heap.size pa k cap 2 (Rm.prV F T)) (hs : Sp.St w w.heap.size ao kk kc f)
    (hr : rvB n m C gen k F T A B Z kk f = true) (hmn : mnB n m C gen k F T A B Z kk f p = true) (h1 : (c == 1) = false) (h2 : (c == 2) = false) (_n1 : (c != 1) = true) (_n2 : (c != 2) = true) (_ha : alB c = false) (hm3 : decide ((300 : Int) < (m : Int)) = true) :
    Calls Tryz.prog 4 #[.agg #[.slice sa n sc, .slice ca m cc, .int .i64 fu, .bool d, .int .i64 gen, .slice pa k cap, .int .i64 A, .int .i64 B, .int .i64 Z, .slice ao kk kc], .agg (Pt.pV p).toArray, .int .i64 c] w fun e w' => e = .returned (.bool true) ∧ Below w.heap.size w w' := by
  obtain ⟨W, hW, hB0, hs0, hX0, hP0⟩ := box_vp w (.slice sa n sc) (.slice ca m cc) (.int .i64 fu) (.bool d) (.int .i64 gen) (.slice pa k cap) (.int .i64 A) (.int .i64 B) (.int .i64 Z) (.slice ao kk kc) p
  have HR : Hid (Rf w W sa n sc ca m cc fu d gen pa k cap A B Z ao kk kc S C F T f p) := Lib.hid ⟨hB0, hs0, hX0, hP0, nb, mb, kb, hF, hB, hpA, hpB, hkp.below hB0, ((hss.below hB0).other' hB0 hs0), ((hc.below hB0).other' hB0 hs0), ((hl.below hB0).other' hB0 hs0), hs.later hB0⟩
  have HAL := Lib.hid (alive9_any W (hkp.below hB0))
  clear nb mb kb hF hB hpA hpB hkp hss hc hl hs hX0 hP0
  go_enter Tryz.func4, Tryz.ntmps4
  go_wp2_with fail
  rw [← hW]
  clear hW
  refine HAL.out.mono ?_
  rintro _ w1 ⟨rfl, hB1⟩
  clear HAL
  dsimp only
  have xv := HR.out.vb hB1
  have c0 := xv.c0
  have c1 := xv.c1
  have c2 := xv.c2
  have c3 := xv.c3
  have c4 := xv.c4
  have c5 := xv.c5
  have c6 := xv.c6
  have c7 := xv.c7
  have c8 := xv.c8
  have c9 := xv.c9
  clear xv
  have pq := Pt.row_pt (HR.out.pr hB1)
  go_wp2_with fail
  have HQ := Lib.hid (HR.out.right hB1)
  rw [hr] at HQ
  refine HQ.out.mono ?_
  rintro _ w2 ⟨rfl, hb2⟩
  have hB2 := hB1.trans (hb2.mono hB1.size)
  clear hb2 HQ
  clear c0 c1 c2 c3 c4 c5 c6 c7 c8 c9 pq
  dsimp only
  have xv := HR.out.vb hB2
  have c0 := xv.c0
  have c1 := xv.c1
  have c2 := xv.c2
  have c3 := xv.c3
  have c4 := xv.c4
  have c5 := xv.c5
  have c6 := xv.c6
  have c7 := xv.c7
  have c8 := xv.c8
  have c9 := xv.c9
  clear xv
  have pq := Pt.row_pt (HR.out.pr hB2)
  go_wp2_with (refine @wpList_loadG _ _ _ _ _ _ _ (by kernel_rfl) 37 (.tmp 4) rfl (w.heap.size + 1) 0 rfl (Pt.pV p) _ pq Pt.undP rfl (Pt.sizeP p) ?_; simp only [Act.put, List.setIfInBounds_toArray, List.set_cons_succ, List.set_cons_zero])
  have HQ := Lib.hid (HR.out.mine hB2)
  rw [hmn] at HQ
  refine HQ.out.mono ?_
  rintro _ w3 ⟨rfl, hb3⟩
  have hB3 := hB2.trans (hb3.mono hB2.size)
  clear hb3 HQ
  clear c0 c1 c2 c3 c4 c5 c6 c7 c8 c9 pq
  dsimp only
  have xv := HR.out.vb hB3
  have c0 := xv.c0
  have c1 := xv.c1
  have c2 := xv.c2
  have c3 := xv.c3
  have c4 := xv.c4
  have c5 := xv.c5
  have c6 := xv.c6
  have c7 := xv.c7
  have c8 := xv.c8
  have c9 := xv.c9
  clear xv
  go_wp2_with fail
  go_ret
  exact ⟨rfl, HR.out.up.trans (hB3.mono HR.out.up.size)⟩

set_option maxRecDepth 100000 in
set_option maxHeartbeats 8000000 in
theorem ref_D_false (sa : Option Addr) (n sc : Nat) (ca : Option Addr) (m cc : Nat) (fu : Int) (d : Bool) (gen : Int) (pa : Option Addr) (k cap : Nat) (A B Z : Int) (ao : Option Addr) (kk kc : Nat) (S : Nat → Sec) (C : Nat → Wr) (F T : Nat → Int) (f : Nat → Int) (p : Pt.Pn) (c : Int) (w : World)
    (nb : n * 130 ≤ 140737488355328) (mb : m * 136 ≤ 140737488355328) (kb : k * 16 ≤ 140737488355328) (hF : ∀ i, i < k → Rm.i64 (F i) ∧ Rm.i64 (T i)) (hB : Sp.i64 B) (hpA : Sp.i64 p.A) (hpB : Sp.i64 p.B) (hkp : Rm.Kp w)
    (hss : Lay w w.heap.size w.heap.size sa n sc 130 (fun i => secV (S i))) (hc : Lay w w.heap.size w.heap.size ca m cc 129 (fun i => wrV (C i))) (hl : Lay w w.heap.size w.heap.size pa k cap 2 (Rm.prV F T)) (hs : Sp.St w w.heap.size ao kk kc f)
    (hr : rvB n m C gen k F T A B Z kk f = true) (hmn : mnB n m C gen k F T A B Z kk f p = true) (h1 : (c == 1) = false) (h2 : (c == 2) = false) (n1 : (c != 1) = true) (n2 : (c != 2) = true) (ha : alB c = false) (hm3 : decide ((300 : Int) < (m : Int)) = false) :
    Calls Tryz.prog 4 #[.agg #[.slice sa n sc, .slice ca m cc, .int .i64 fu, .bool d, .int .i64 gen, .slice pa k cap, .int .i64 A, .int .i64 B, .int .i64 Z, .slice ao kk kc], .agg (Pt.pV p).toArray, .int .i64 c] w fun e w' => e = .returned (.bool true) ∧ Below w.heap.size w w' := by
  obtain ⟨W, hW, hB0, hs0, hX0, hP0⟩ := box_vp w (.slice sa n sc) (.slice ca m cc) (.int .i64 fu) (.bool d) (.int .i64 gen) (.slice pa k cap) (.int .i64 A) (.int .i64 B) (.int .i64 Z) (.slice ao kk kc) p
  have HR : Hid (Rf w W sa n sc ca m cc fu d gen pa k cap A B Z ao kk kc S C F T f p) := Lib.hid ⟨hB0, hs0, hX0, hP0, nb, mb, kb, hF, hB, hpA, hpB, hkp.below hB0, ((hss.below hB0).other' hB0 hs0), ((hc.below hB0).other' hB0 hs0), ((hl.below hB0).other' hB0 hs0), hs.later hB0⟩
  have HAL := Lib.hid (alive9_any W (hkp.below hB0))
  clear nb mb kb hF hB hpA hpB hkp hss hc hl hs hX0 hP0
  go_enter Tryz.func4, Tryz.ntmps4
  go_wp2_with fail
  rw [← hW]
  clear hW
  refine HAL.out.mono ?_
  rintro _ w1 ⟨rfl, hB1⟩
  clear HAL
  dsimp only
  have xv := HR.out.vb hB1
  have c0 := xv.c0
  have c1 := xv.c1
  have c2 := xv.c2
  have c3 := xv.c3
  have c4 := xv.c4
  have c5 := xv.c5
  have c6 := xv.c6
  have c7 := xv.c7
  have c8 := xv.c8
  have c9 := xv.c9
  clear xv
  have pq := Pt.row_pt (HR.out.pr hB1)
  go_wp2_with fail
  have HQ := Lib.hid (HR.out.right hB1)
  rw [hr] at HQ
  refine HQ.out.mono ?_
  rintro _ w2 ⟨rfl, hb2⟩
  have hB2 := hB1.trans (hb2.mono hB1.size)
  clear hb2 HQ
  clear c0 c1 c2 c3 c4 c5 c6 c7 c8 c9 pq
  dsimp only
  have xv := HR.out.vb hB2
  have c0 := xv.c0
  have c1 := xv.c1
  have c2 := xv.c2
  have c3 := xv.c3
  have c4 := xv.c4
  have c5 := xv.c5
  have c6 := xv.c6
  have c7 := xv.c7
  have c8 := xv.c8
  have c9 := xv.c9
  clear xv
  have pq := Pt.row_pt (HR.out.pr hB2)
  go_wp2_with (refine @wpList_loadG _ _ _ _ _ _ _ (by kernel_rfl) 37 (.tmp 4) rfl (w.heap.size + 1) 0 rfl (Pt.pV p) _ pq Pt.undP rfl (Pt.sizeP p) ?_; simp only [Act.put, List.setIfInBounds_toArray, List.set_cons_succ, List.set_cons_zero])
  have HQ := Lib.hid (HR.out.mine hB2)
  rw [hmn] at HQ
  refine HQ.out.mono ?_
  rintro _ w3 ⟨rfl, hb3⟩
  have hB3 := hB2.trans (hb3.mono hB2.size)
  clear hb3 HQ
  clear c0 c1 c2 c3 c4 c5 c6 c7 c8 c9 pq
  dsimp only
  have HNO : Hid (mn n ⟨m, S, C, fu, d⟩ ⟨gen, k, F, T⟩ A B Z kk f p = false ∨ alB c = false) := Lib.hid (.inr ha)
  have HA := Lib.hid ha
  clear ha
  have xv := HR.out.vb hB3
  have c0 := xv.c0
  have c1 := xv.c1
  have c2 := xv.c2
  have c3 := xv.c3
  have c4 := xv.c4
  have c5 := xv.c5
  have c6 := xv.c6
  have c7 := xv.c7
  have c8 := xv.c8
  have c9 := xv.c9
  clear xv
  have pq := Pt.row_pt (HR.out.pr hB3)
  go_wp2_with (refine @wpList_loadG _ _ _ _ _ _ _ (by kernel_rfl) 37 (.tmp 4) rfl (w.heap.size + 1) 0 rfl (Pt.pV p) _ pq Pt.undP rfl (Pt.sizeP p) ?_; simp only [Act.put, List.setIfInBounds_toArray, List.set_cons_succ, List.set_cons_zero])
  refine (HR.out.copy hB3).mono ?_
  rintro _ w4 ⟨sb, sd, cb, cd, pb, cbp, bo, kd, rfl, hcm, hb4⟩
  have hB4 := hB3.trans (hb4.mono hB3.size)
  clear c0 c1 c2 c3 c4 c5 c6 c7 c8 c9 pq
  have far : w.heap.size < w3.heap.size := by have := hB3.size; omega
  generalize w3.heap.size = base at hcm far
  obtain ⟨w5, hW5⟩ : ∃ w5, w5 = w4.alloc (.cells #[.slice sb n sd, .slice cb m cd, .int .i64 fu, .bool d, .int .i64 gen, .slice pb k cbp, .int .i64 A, .int .i64 B, .int .i64 Z, .slice bo kk kd] 34) := ⟨_, rfl⟩
  have hb5 : Below w4.heap.size w4 w5 := by rw [hW5]; exact (Below.refl _ _).alloc (Nat.le_refl _) _
  have hs5 : w5.heap.size = w4.heap.size + 1 := by rw [hW5]; simp
  have hB5 := hB4.trans (hb5.mono hB4.size)
  have HV : Hid (HasVol w5 (Pl.own w4.heap.size 34) n ⟨m, S, C, fu, d⟩ ⟨gen, k, F, T⟩ A B Z kk f) := Lib.hid (by rw [hW5]; exact HR.out.has hB4 hcm (by have := HR.out.kp.2; have := hB4.size; omega))
  have hcm5 := hcm.below hb5
  have hx5 : Vb w5 w4.heap.size (.slice sb n sd) (.slice cb m cd) (.int .i64 fu) (.bool d) (.int .i64 gen) (.slice pb k cbp) (.int .i64 A) (.int .i64 B) (.int .i64 Z) (.slice bo kk kd) := by rw [hW5]; exact heap_alloc_new w4 _
  have HC := Lib.hid (fun w' (hb : Below w5.heap.size w5 w') => hcm5.below hb)
  have HY := Lib.hid (fun w' (hb : Below w5.heap.size w5 w') => hx5.below hb (show w4.heap.size < w5.heap.size by omega))
  clear hcm hb4 hb5 hcm5 hx5
  dsimp only
  have pq := Pt.row_pt (HR.out.pr hB5)
  go_wp2_with (first
    | (refine @wpList_store_row _ _ _ _ _ _ _ rfl 34 (.tmp 7) (.tmp 40) rfl w4.heap.size #[.slice sb n sd, .slice cb m cd, .int .i64 fu, .bool d, .int .i64 gen, .slice pb k cbp, .int .i64 A, .int .i64 B, .int .i64 Z, .slice bo kk kd] rfl rfl 34 _ (heap_alloc_new w4 _) (vol_size _ _ _ _ _ _ _ _ _ _) rfl (vol_one _ _ _ _ _ _ _ _ _ _ _ _ _ _ _ _ _ _) ?_; rw [World.setRow_alloc_new, ← hW5]; simp only [Act.put])
    | (refine @wpList_loadG _ _ _ _ _ _ _ (by kernel_rfl) 37 (.tmp 4) rfl (w.heap.size + 1) 0 rfl (Pt.pV p) _ pq Pt.undP rfl (Pt.sizeP p) ?_; simp only [Act.put, List.setIfInBounds_toArray, List.set_cons_succ, List.set_cons_zero])
    | (refine wpList_buildTo rfl 47 #[(0, .const (.int .u8 3))] rfl _ rfl (bl d3).toArray built_3 ?_; simp only [Act.put, List.setIfInBounds_toArray, List.set_cons_succ, List.set_cons_zero]))
  try rw [← hW5]
  clear hW5 pq
  generalize w4.heap.size = bq at HV HY hs5 ⊢
  have HSW := Lib.hid (swap_no HV.out HR.out.tab HR.out.hB p HR.out.hpA HR.out.hpB d3 c HNO.out)
  refine HSW.out.mono ?_
  rintro _ w6 ⟨rfl, hb6⟩
  clear HSW
  obtain ⟨w7, hW7⟩ : ∃ w7, w7 = w6.alloc (.cells (Pt.pV Pt.pz).toArray 37) := ⟨_, rfl⟩
  have hb7 : Below w6.heap.size w6 w7 := by rw [hW7]; exact (Below.refl _ _).alloc (Nat.le_refl _) _
  have hD7 : Below w5.heap.size w5 w7 := hb6.trans (hb7.mono hb6.size)
  have hB7 := hB5.trans (hD7.mono hB5.size)
  clear hb6 hb7
  dsimp only
  have xv := HR.out.vb hB7
  have c0 := xv.c0
  have c1 := xv.c1
  have c2 := xv.c2
  have c3 := xv.c3
  have c4 := xv.c4
  have c5 := xv.c5
  have c6 := xv.c6
  have c7 := xv.c7
  have c8 := xv.c8
  have c9 := xv.c9
  clear xv
  have pq := Pt.row_pt (HR.out.pr hB7)
  have xw := HR.out.vb hB7
  rw [hW7] at c0 c1 c2 c3 c4 c5 c6 c7 c8 c9 pq
  clear xw
  go_wp2_with (first
    | (refine @wpList_store_row _ _ _ _ _ _ _ rfl 37 (.tmp 8) (.tmp 46) rfl w6.heap.size (Pt.pV Pt.pz).toArray rfl rfl 37 _ (heap_alloc_new w6 _) (Pt.sizeP' _) rfl (Pt.pV_all _) ?_; rw [World.setRow_alloc_new]; simp only [Act.put])
    | (refine @wpList_loadG _ _ _ _ _ _ _ (by kernel_rfl) 37 (.tmp 4) rfl (w.heap.size + 1) 0 rfl (Pt.pV p) _ pq Pt.undP rfl (Pt.sizeP p) ?_; simp only [Act.put, List.setIfInBounds_toArray, List.set_cons_succ, List.set_cons_zero]))
  try rw [← hW7]
  clear hW7
  have HQ := Lib.hid (HR.out.mine hB7)
  rw [hmn] at HQ
  refine HQ.out.mono ?_
  rintro _ w8 ⟨rfl, hb8⟩
  have hD8 := hD7.trans (hb8.mono hD7.size)
  have hB8 := hB7.trans (hb8.mono hB7.size)
  clear hb8 HQ
  clear c0 c1 c2 c3 c4 c5 c6 c7 c8 c9 pq
  dsimp only
  have xv := HR.out.vb hB8
  have c0 := xv.c0
  have c1 := xv.c1
  have c2 := xv.c2
  have c3 := xv.c3
  have c4 := xv.c4
  have c5 := xv.c5
  have c6 := xv.c6
  have c7 := xv.c7
  have c8 := xv.c8
  have c9 := xv.c9
  clear xv
  go_wp2_with fail
  have HQ := Lib.hid (HR.out.right hB8)
  rw [hr] at HQ
  refine HQ.out.mono ?_
  rintro _ w12 ⟨rfl, hb12⟩
  have hD12 := hD8.trans (hb12.mono hD8.size)
  have hB12 := hB8.trans (hb12.mono hB8.size)
  clear hb12 HQ
  clear c0 c1 c2 c3 c4 c5 c6 c7 c8 c9
  dsimp only
  go_wp2_with (refine wpList_buildTo rfl 47 #[(0, .const (.int .u8 3))] rfl _ rfl (bl d3).toArray built_3 ?_; simp only [Act.put, List.setIfInBounds_toArray, List.set_cons_succ, List.set_cons_zero])
  have HAD := Lib.hid (add_no (HV.out.below hD12) HR.out.tab HR.out.hB d3 c (.inr HA.out))
  refine HAD.out.mono ?_
  rintro _ w13 ⟨rfl, hb13⟩
  clear HAD
  obtain ⟨w14, hW14⟩ : ∃ w14, w14 = w13.alloc (.cells (Pt.pV Pt.pz).toArray 37) := ⟨_, rfl⟩
  have hb14 : Below w13.heap.size w13 w14 := by rw [hW14]; exact (Below.refl _ _).alloc (Nat.le_refl _) _
  have hD14 := hD12.trans ((hb13.trans (hb14.mono hb13.size)).mono hD12.size)
  have hB14 := hB5.trans (hD14.mono hB5.size)
  clear hb13 hb14
  dsimp only
  have xv := HR.out.vb hB14
  have c0 := xv.c0
  have c1 := xv.c1
  have c2 := xv.c2
  have c3 := xv.c3
  have c4 := xv.c4
  have c5 := xv.c5
  have c6 := xv.c6
  have c7 := xv.c7
  have c8 := xv.c8
  have c9 := xv.c9
  clear xv
  have yv := HY.out w14 hD14
  have e0 := yv.c0
  have e1 := yv.c1
  have e2 := yv.c2
  have e3 := yv.c3
  have e4 := yv.c4
  have e5 := yv.c5
  have e6 := yv.c6
  have e7 := yv.c7
  have e8 := yv.c8
  have e9 := yv.c9
  clear yv
  rw [hW14] at c0 c1 c2 c3 c4 c5 c6 c7 c8 c9 e0 e1 e2 e3 e4 e5 e6 e7 e8 e9
  go_wp2_with (refine @wpList_store_row _ _ _ _ _ _ _ rfl 37 (.tmp 13) (.tmp 84) rfl w13.heap.size (Pt.pV Pt.pz).toArray rfl rfl 37 _ (heap_alloc_new w13 _) (Pt.sizeP' _) rfl (Pt.pV_all _) ?_; rw [World.setRow_alloc_new]; simp only [Act.put])
  try rw [← hW14]
  clear hW14
  have HSA := Lib.hid (HR.out.same hB14 (HC.out w14 hD14) far)
  refine HSA.out.mono ?_
  rintro _ w15 ⟨rfl, hb15⟩
  clear c0 c1 c2 c3 c4 c5 c6 c7 c8 c9
  clear e0 e1 e2 e3 e4 e5 e6 e7 e8 e9
  dsimp only
  go_wp2_with fail
  go_ret
  exact ⟨rfl, HR.out.up.trans ((hB14.trans (hb15.mono hB14.size)).mono HR.out.up.size)⟩

theorem volrefuses_any (sa : Option Addr) (n sc : Nat) (ca : Option Addr) (m cc : Nat) (fu : Int) (d : Bool) (gen : Int) (pa : Option Addr) (k cap : Nat) (A B Z : Int) (ao : Option Addr) (kk kc : Nat) (S : Nat → Sec) (C : Nat → Wr) (F T : Nat → Int) (f : Nat → Int) (p : Pt.Pn) (c : Int) (w : World)
    (nb : n * 130 ≤ 140737488355328) (mb : m * 136 ≤ 140737488355328) (kb : k * 16 ≤ 140737488355328) (hF : ∀ i, i < k → Rm.i64 (F i) ∧ Rm.i64 (T i)) (hB : Sp.i64 B) (hpA : Sp.i64 p.A) (hpB : Sp.i64 p.B) (hkp : Rm.Kp w)
    (hss : Lay w w.heap.size w.heap.size sa n sc 130 (fun i => secV (S i))) (hc : Lay w w.heap.size w.heap.size ca m cc 129 (fun i => wrV (C i))) (hl : Lay w w.heap.size w.heap.size pa k cap 2 (Rm.prV F T)) (hs : Sp.St w w.heap.size ao kk kc f) :
    Calls Tryz.prog 4 #[.agg #[.slice sa n sc, .slice ca m cc, .int .i64 fu, .bool d, .int .i64 gen, .slice pa k cap, .int .i64 A, .int .i64 B, .int .i64 Z, .slice ao kk kc], .agg (Pt.pV p).toArray, .int .i64 c] w fun e w' => e = .returned (.bool true) ∧ Below w.heap.size w w' := by
  have h12 : ∀ {b1 b2 : Bool}, (c == 1) = b1 → (c == 2) = b2 → (c != 1) = !b1 ∧ (c != 2) = !b2 := fun e1 e2 => by
    rw [← e1, ← e2]
    exact ⟨rfl, rfl⟩
  cases hr : rvB n m C gen k F T A B Z kk f with
  | false =>
    have hmn : mnB n m C gen k F T A B Z kk f p = false := by unfold mnB; rw [hr]; rfl
    cases hm3 : decide ((300 : Int) < (m : Int)) with
    | true => exact ref_A_true sa n sc ca m cc fu d gen pa k cap A B Z ao kk kc S C F T f p c w nb mb kb hF hB hpA hpB hkp hss hc hl hs hr hmn hm3
    | false => exact ref_A_false sa n sc ca m cc fu d gen pa k cap A B Z ao kk kc S C F T f p c w nb mb kb hF hB hpA hpB hkp hss hc hl hs hr hmn hm3
  | true =>
    by_cases e1 : c = 1
    · have h1 : (c == 1) = true := by simpa using e1
      have h2 : (c == 2) = false := by simp; omega
      obtain ⟨n1, n2⟩ := h12 h1 h2
      cases hmn : mnB n m C gen k F T A B Z kk f p with
      | true => exact ref_all_one sa n sc ca m cc fu d gen pa k cap A B Z ao kk kc S C F T f p c w nb mb kb hF hB hpA hpB hkp hss hc hl hs hr hmn h1 h2
      | false =>
        cases hm3 : decide ((300 : Int) < (m : Int)) with
        | true => exact ref_B1_true sa n sc ca m cc fu d gen pa k cap A B Z ao kk kc S C F T f p c w nb mb kb hF hB hpA hpB hkp hss hc hl hs hr hmn h1 h2 n1 n2 hm3
        | false => exact ref_B1_false sa n sc ca m cc fu d gen pa k cap A B Z ao kk kc S C F T f p c w nb mb kb hF hB hpA hpB hkp hss hc hl hs hr hmn h1 h2 n1 n2 hm3
    · by_cases e2 : c = 2
      · have h1 : (c == 1) = false := by simpa using e1
        have h2 : (c == 2) = true := by simpa using e2
        obtain ⟨n1, n2⟩ := h12 h1 h2
        cases hmn : mnB n m C gen k F T A B Z kk f p with
        | true => exact ref_all_two sa n sc ca m cc fu d gen pa k cap A B Z ao kk kc S C F T f p c w nb mb kb hF hB hpA hpB hkp hss hc hl hs hr hmn h1 h2
        | false =>
          cases hm3 : decide ((300 : Int) < (m : Int)) with
          | true => exact ref_B2_true sa n sc ca m cc fu d gen pa k cap A B Z ao kk kc S C F T f p c w nb mb kb hF hB hpA hpB hkp hss hc hl hs hr hmn h1 h2 n1 n2 hm3
          | false => exact ref_B2_false sa n sc ca m cc fu d gen pa k cap A B Z ao kk kc S C F T f p c w nb mb kb hF hB hpA hpB hkp hss hc hl hs hr hmn h1 h2 n1 n2 hm3
      · have h1 : (c == 1) = false := by simpa using e1
        have h2 : (c == 2) = false := by simpa using e2
        obtain ⟨n1, n2⟩ := h12 h1 h2
        have ha : alB c = false := by
          unfold alB
          by_cases h : 1 ≤ c
          · rw [decide_eq_false (show ¬ c ≤ 2 by omega), Bool.and_false]
          · rw [decide_eq_false h]; rfl
        cases hmn : mnB n m C gen k F T A B Z kk f p with
        | true =>
          cases hm3 : decide ((300 : Int) < (m : Int)) with
          | true => exact ref_D_true sa n sc ca m cc fu d gen pa k cap A B Z ao kk kc S C F T f p c w nb mb kb hF hB hpA hpB hkp hss hc hl hs hr hmn h1 h2 n1 n2 ha hm3
          | false => exact ref_D_false sa n sc ca m cc fu d gen pa k cap A B Z ao kk kc S C F T f p c w nb mb kb hF hB hpA hpB hkp hss hc hl hs hr hmn h1 h2 n1 n2 ha hm3
        | false =>
          cases hm3 : decide ((300 : Int) < (m : Int)) with
          | true => exact ref_C_true sa n sc ca m cc fu d gen pa k cap A B Z ao kk kc S C F T f p c w nb mb kb hF hB hpA hpB hkp hss hc hl hs hr hmn h1 h2 n1 n2 ha hm3
          | false => exact ref_C_false sa n sc ca m cc fu d gen pa k cap A B Z ao kk kc S C F T f p c w nb mb kb hF hB hpA hpB hkp hss hc hl hs hr hmn h1 h2 n1 n2 ha hm3
end Vl
end Go.Proofs.YtebgaafaokiigaaGreatDoor
