import Derived.Test.YtonhedefjmkpcaaGreatDoorPJRb
import Derived.BigQuiet
import Derived.Test.YtonhedefjmkpcaaGreatDoorPJSh
import Derived.Deep.RegionHeld3
import Derived.Test.YtonhedefjmkpcaaGreatDoorPGmSec
import Derived.Test.YtonhedefjmkpcaaGreatDoorPVlI
import Derived.Test.YtonhedefjmkpcaaGreatDoorPVlN
import Derived.Test.YtonhedefjmkpcaaGreatDoorPSpTk
import Derived.Test.YtonhedefjmkpcaaGreatDoorPVlK
import Derived.Test.YtonhedefjmkpcaaGreatDoorPVlL
import Derived.Test.YtonhedefjmkpcaaGreatDoorPAl
/- remap: the reference's Right, by two loops. -/
namespace Go.Proofs.YtonhedefjmkpcaaGreatDoor
set_option maxRecDepth 20000
namespace Rm
open Go.RowKit Dk

end Rm
end Go.Proofs.YtonhedefjmkpcaaGreatDoor
/- remap: the reference's Seal. -/
namespace Go.Proofs.YtonhedefjmkpcaaGreatDoor
set_option maxRecDepth 20000
namespace Rm
open Go.RowKit Dk Byt

attribute [local go_sem] zv29
attribute [local go_sem] zc29
end Rm
end Go.Proofs.YtonhedefjmkpcaaGreatDoor
/- remap: the reference's Put. -/
namespace Go.Proofs.YtonhedefjmkpcaaGreatDoor
set_option maxRecDepth 20000
namespace Rm
open Go.RowKit Dk Byt

attribute [local go_sem] zv29
attribute [local go_sem] zc29
end Rm
end Go.Proofs.YtonhedefjmkpcaaGreatDoor
/- geom: the reference's ForSectors. -/
namespace Go.Proofs.YtonhedefjmkpcaaGreatDoor
set_option maxRecDepth 20000
namespace Gm
open Go.RowKit

end Gm
end Go.Proofs.YtonhedefjmkpcaaGreatDoor
/- vol: the reference's Right and Mine. -/
namespace Go.Proofs.YtonhedefjmkpcaaGreatDoor
set_option maxRecDepth 20000
namespace Vl
open Go.RowKit Dk Gm Eqb

end Vl
end Go.Proofs.YtonhedefjmkpcaaGreatDoor
/- vol: the reference's Mine (made by tools/gen_vlrmine.py). -/
namespace Go.Proofs.YtonhedefjmkpcaaGreatDoor
set_option maxRecDepth 20000
namespace Vl
open Go.RowKit Dk Gm Eqb

attribute [local irreducible] wpQuiet
/-- one sector of a pointer: none, or in use -/
def secU (A B Z : Int) (f : Nat → Int) (x : Int) : Bool := x == -1 || (decide (0 ≤ Sp.plI A B Z x) && Sp.us (f (Sp.plI A B Z x).toNat))
theorem dr_secs {A B Z : Int} {n : Nat} {f : Nat → Int} (hf : Sp.formB A B Z n f = true) (p : Pt.Pn) : Sp.drB A B Z n f p = (Pt.rightB p && (secU A B Z f p.A && secU A B Z f p.B)) := by
 unfold Sp.drB Sp.plB Sp.anyP Sp.pls Sp.pla Sp.okB secU
 rw [hf]
 generalize Pt.rightB p = r
 by_cases eA : p.A = -1
 ·rw [if_pos eA, eA]
  by_cases eB : p.B = -1
  ·rw [if_pos eB, eB]
   cases r <;> rfl
  ·have eB' : (p.B == -1) = false := by simpa using eB
   rw [if_neg eB, eB']
   generalize decide (0 ≤ Sp.plI A B Z p.B) = b
   simp only [List.nil_append, List.any_cons, List.any_nil]
   generalize Sp.us (f (Sp.plI A B Z p.B).toNat) = v
   cases r <;> cases b <;> cases v <;> rfl
 ·have eA' : (p.A == -1) = false := by simpa using eA
  rw [if_neg eA, eA']
  generalize decide (0 ≤ Sp.plI A B Z p.A) = a
  by_cases eB : p.B = -1
  ·rw [if_pos eB, eB]
   simp only [List.append_nil, List.any_cons, List.any_nil]
   generalize Sp.us (f (Sp.plI A B Z p.A).toNat) = u
   cases r <;> cases a <;> cases u <;> rfl
  ·have eB' : (p.B == -1) = false := by simpa using eB
   rw [if_neg eB, eB']
   generalize decide (0 ≤ Sp.plI A B Z p.B) = b
   simp only [List.cons_append, List.nil_append, List.any_cons, List.any_nil]
   generalize Sp.us (f (Sp.plI A B Z p.A).toNat) = u
   generalize Sp.us (f (Sp.plI A B Z p.B).toNat) = v
   cases r <;> cases a <;> cases b <;> cases u <;> cases v <;> rfl
end Vl
end Go.Proofs.YtonhedefjmkpcaaGreatDoor
/- vol: a space of quota 4, filled one by one: the numbers, each looked at. -/
namespace Go.Proofs.YtonhedefjmkpcaaGreatDoor
set_option maxRecDepth 20000
namespace Vm
open Go.RowKit Byt Sp

/-- the states behind i takings of one sector, of two -/
def e1 (i j : Nat) : Int := if j < i then 2 else 0
def e2 (i j : Nat) : Int := if j < i ∨ (128 ≤ j ∧ j < 128 + i) then 2 else 0
theorem form_e {f : Nat → Int} (h : ∀ i, i < 256 → f i ≤ 4) : formB 28 184 128 256 f = true := formB_iff.2 ⟨by omega, rfl, h⟩
theorem e1_bd (i j : Nat) : 0 ≤ e1 i j ∧ e1 i j ≤ 2 := by unfold e1; split <;> omega
theorem e2_bd (i j : Nat) : 0 ≤ e2 i j ∧ e2 i j ≤ 2 := by unfold e2; split <;> omega
theorem form1 (i : Nat) : formB 28 184 128 256 (e1 i) = true := form_e fun j _ => by have := e1_bd i j; omega
theorem form2 (i : Nat) : formB 28 184 128 256 (e2 i) = true := form_e fun j _ => by have := e2_bd i j; omega
def ck2 (i : Nat) : Bool := if i < 128 then tpOk 28 184 128 (e2 i) 2 && (tp0 28 184 128 (e2 i) 2 == 28 + i) && (tp1 184 128 (e2 i) 2 == 184 + i) && (tpL 28 184 128 (e2 i) 2 0 == i) && (tpL 28 184 128 (e2 i) 2 1 == 128 + i) else !tpOk 28 184 128 (e2 i) 2
theorem ck2_all : (List.range 129).all ck2 = true := by decide +kernel
theorem ap : Ap 28 184 128 := ap_of (form1 0)
theorem one_ok {f : Nat → Int} (hf : formB 28 184 128 256 f = true) {c : Int} (hc : c = 1 ∨ c = 2) : tkB 28 184 128 256 f c = true := by
 unfold tkB
 rw [hf]
 rcases hc with rfl | rfl <;> rfl
end Vm
end Go.Proofs.YtonhedefjmkpcaaGreatDoor
/- vol: a space of quota 4, filled one by one. -/
namespace Go.Proofs.YtonhedefjmkpcaaGreatDoor
set_option maxRecDepth 20000
namespace Vm
open Go.RowKit Byt Sp

theorem ck2_at {i : Nat} (h : i < 129) : ck2 i = true := List.all_eq_true.1 ck2_all i (List.mem_range.2 h)
theorem put_e2 {i : Nat} (hi : i < 128) : put (put (e2 i) i 2) (128 + i) 2 = e2 (i + 1) := by
 funext j
 unfold put e2
 by_cases h : j = 128 + i
 ·rw [if_pos h, if_pos (by omega)]
 ·rw [if_neg h]
  by_cases h2 : j = i
  ·rw [if_pos h2, if_pos (by omega)]
  ·rw [if_neg h2]
   by_cases h3 : j < i ∨ (128 ≤ j ∧ j < 128 + i)
   ·rw [if_pos h3, if_pos (by omega)]
   ·rw [if_neg h3, if_neg (by omega)]
/-- the i-th taking of two -/
theorem take2 {i : Nat} (h : i < 128) : tkE 28 184 128 256 (e2 i) 2 = 0 ∧ tkp 28 184 128 256 (e2 i) 2 = 28 + i ∧ tkq 28 184 128 256 (e2 i) 2 = 184 + i ∧ tkF 28 184 128 256 (e2 i) 2 = e2 (i + 1) := by
 have hc := ck2_at (i := i) (by omega)
 unfold ck2 at hc
 rw [if_pos h] at hc
 simp only [Bool.and_eq_true, beq_iff_eq] at hc
 obtain ⟨⟨⟨⟨h1, h2⟩, h3⟩, h4⟩, h5⟩ := hc
 have hb := one_ok (form2 i) (.inr rfl : (2 : Int) = 1 ∨ (2 : Int) = 2)
 have e : (tkB 28 184 128 256 (e2 i) 2 && tpOk 28 184 (128 : Int).toNat (e2 i) (2 : Int).toNat) = true := by rw [hb]; exact h1
 have hy := tpOk_yes h1 (.inr rfl)
 refine ⟨?_, ?_, ?_, ?_⟩
 ·unfold tkE; rw [if_pos hb]; exact if_pos h1
 ·unfold tkp; rw [if_pos e]; exact h2
 ·unfold tkq; rw [if_pos e]; exact h3
 ·unfold tkF; rw [if_pos e]
  show bec tkN (tpL 28 184 128 (e2 i) 2) (e2 i) 2 = _
  rw [tk_bec2 ap (hy 0 (by omega)) (hy 1 (by omega)), h4, h5, put_e2 h]
theorem ps2 {i : Nat} (h : i < 128) : Ps (28 + i) (184 + i) := ⟨by unfold Rg; omega, .inr ⟨by unfold Rg; omega, by omega⟩⟩
end Vm
end Go.Proofs.YtonhedefjmkpcaaGreatDoor
/- vol: a healthy volume of quota 4: it is right, what is its own: the numbers. -/
namespace Go.Proofs.YtonhedefjmkpcaaGreatDoor
set_option maxRecDepth 20000
namespace Vl
open Go.RowKit Dk Gm Eqb Rm Vm Di

theorem okQ4 : okQ 332 = true := by decide
theorem fsq4 : fsq ((332 : Nat) : Int) = 4 := by decide
theorem rv_up {X : Dst} {f : Nat → Int} (hu : Up X) (hf : Sp.formB 28 184 128 256 f = true) : rv 332 X vM 28 184 128 256 f = true := by
 unfold rv rvB lyB
 rw [show formedB 332 X.m X.C = true from hu.f, okQ4, rt0, hf, fsq4]
 rfl
theorem pl_rg {x : Int} (h : Rg x) : 0 ≤ Sp.plI 28 184 128 x ∧ Sp.plI 28 184 128 x < 256 := by
 unfold Rg at h
 unfold Sp.plI
 split
 ·omega
 ·split <;> omega
/-- where a sector's state lies -/
def ix (x : Int) : Nat := (Sp.plI 28 184 128 x).toNat
theorem secU_rg {f : Nat → Int} {x : Int} (h : Rg x) (hu : Sp.us (f (ix x)) = true) : secU 28 184 128 f x = true := by
 unfold secU
 rw [decide_eq_true (pl_rg h).1, show Sp.us (f (Sp.plI 28 184 128 x).toNat) = true from hu]
 simp
/-- a pointer whose sectors are in use is one of the volume -/
theorem mn_up {X : Dst} {f : Nat → Int} (hu : Up X) (hf : Sp.formB 28 184 128 256 f = true) {a c : Int} (hp : Ps a c) (ha : Sp.us (f (ix a)) = true) (hc : c ≠ -1 → Sp.us (f (ix c)) = true) (q : Nat → Int) : mn 332 X vM 28 184 128 256 f ⟨a, c, q⟩ = true := by
 have h1 := rv_up hu hf
 unfold rv at h1
 unfold mn mnB
 rw [h1, dr_secs hf, hp.right]
 dsimp only
 rw [secU_rg hp.fa ha]
 rcases hp.fc with rfl | ⟨hcr, _⟩
 ·rfl
 ·rw [secU_rg hcr (hc (by have := hcr.bd; omega))]
  rfl
/-- a hole is, too -/
theorem mn_hole {X : Dst} {f : Nat → Int} (hu : Up X) (hf : Sp.formB 28 184 128 256 f = true) : mn 332 X vM 28 184 128 256 f Pt.hole = true := by
 have h1 := rv_up hu hf
 unfold rv at h1
 unfold mn mnB
 rw [h1, dr_secs hf]
 rfl
theorem tabM : TabOk vM := ⟨by show 0 ≤ _; omega, fun i hi => by have hi' : i < 0 := hi; omega⟩
theorem i64_184 : Sp.i64 184 := by constructor <;> decide
/-- what Put comes to, as Add wants it -/
theorem put_res {X : Dst} {D : Nat → Int} {a c : Int} (hu : Up X) (hc : Vm.Clean X) (hp : Ps a c) (hm : X.m ≤ 1000) : ∃ X', pRes 332 X vM D a c = ⟨⟨a, c, Pt.sumD D⟩, 0, X', vM⟩ ∧ Up X' ∧ Vm.Clean X' ∧ X'.m ≤ X.m + 2 ∧ Vm.Good X' D a ∧ (c ≠ -1 → Vm.Good X' D c) ∧
  (∀ b y, y ≠ a → y ≠ c → Vm.Good X b y → Vm.Good X' b y) ∧ Ok 23 (wRes 332 X vM a D).2.1 ∧ TabOk (wRes 332 X vM a D).2.2 := by
 obtain ⟨hl, hw⟩ := put_up (V := D) hu hc hp
 obtain ⟨_, u1, m1, _⟩ := hu.wr hp.fa.bd (hc a hp.fa) D
 refine ⟨(pRes 332 X vM D a c).X, ?_, hl.u, hl.cl, hl.m, hl.ga, hl.gc, hl.old, ?_, ?_⟩
 ·have e1 := hl.p
  have e2 := hl.e
  have e3 := hl.M
  generalize pRes 332 X vM D a c = R at e1 e2 e3 ⊢
  obtain ⟨p, e, X', M'⟩ := R
  simp only at e1 e2 e3
  subst e1 e2 e3
  rfl
 ·rw [hw]
  exact u1.ok (by rw [m1]; omega)
 ·rw [hw]
  exact tabM
theorem fits_hole (D : Nat → Int) : Pt.fitsB Pt.hole D = Wd.zeroB D 128 := rfl
end Vl
end Go.Proofs.YtonhedefjmkpcaaGreatDoor
/- vol: New(4). -/
namespace Go.Proofs.YtonhedefjmkpcaaGreatDoor
set_option maxRecDepth 20000
namespace Vl
open Go.RowKit Dk Gm Eqb Rm Vm Di

/-- the lists of a new volume -/
structure Nv (w : World) (sa : Option Addr) (sc : Nat) (ca : Option Addr) (cc : Nat) (ao : Option Addr) (kc : Nat) : Prop where
 ss : Lay w w.heap.size w.heap.size sa 332 sc 130 (fun i => secV (vX1.S i))
 cs : Lay w w.heap.size w.heap.size ca 0 cc 129 (fun i => wrV (vX1.C i))
 ts : Ty w 332 sa 63
 st : Sp.St w w.heap.size ao 256 kc (fun _ => 0)
def nvC (sa : Option Addr) (sc : Nat) (ca : Option Addr) (cc : Nat) (ao : Option Addr) (kc : Nat) : Array Value := #[.slice sa 332 sc, .slice ca 0 cc, .int .i64 (-1), .bool false, .int .i64 0, .slice none 0 0, .int .i64 28, .int .i64 184, .int .i64 128, .slice ao 256 kc]
/-- stored into a variable of its own -/
theorem Nv.has {w : World} {sa ca ao : Option Addr} {sc cc kc : Nat} (h : Nv w sa sc ca cc ao kc) (h0 : w.heap.size ≠ 0) {w' : World} (hw : w' = w.alloc (.cells (nvC sa sc ca cc ao kc) 36)) : HasVol w' (Pl.own w.heap.size 36) 332 vX1 vM 28 184 128 256 (fun _ => 0) := by
 obtain ⟨_, hu, hm, _⟩ := fresh_up
 have hb : Below w.heap.size w w' := by rw [hw]; exact (Below.refl _ _).alloc (Nat.le_refl _) _
 refine Vx.has (sa := sa) (sc := sc) (ca := ca) (cc := cc) (pa := none) (cap := 0) (ao := ao) (kc := kc) ⟨?_, (h.ss.below hb).more hb.size, ?_, Lay.empty _ _ _ 0 _ _, h.st.later hb, by omega, by omega, h.ts.below h.ss hb, by rw [hm]; exact .zero _ _ _⟩ (Pl.own_noB _ _) h0
 ·rw [hm, hu.n, hu.d, hw]
  exact heap_alloc_new w _
 ·rw [hm]
  exact (h.cs.below hb).more hb.size

/-- a box of another type is written -/
theorem lay_row {w : World} {b g : Nat} {ao : Option Addr} {n cap k : Nat} {T : Nat → List Value} {t t' : TypeId} {cur : Array Value} {fr : Nat × Nat} (hl : Lay w w.heap.size g ao n cap k T) (ht : Ty w n ao t) (hb : w.heap[b]? = some (.cells cur t' fr)) (hne : t' ≠ t) (c : Array Value) :
  Lay (w.setRow b c) (w.setRow b c).heap.size (w.setRow b c).heap.size ao n cap k T ∧ Ty (w.setRow b c) n ao t := by
 have hg : w.grownBy (w.setRow b c) (some b) := grown_row c
 have hz := ht.ne hb hne
 constructor
 ·refine Lay.more (B := w.heap.size) ⟨hl.room, hl.nil, ?_⟩ hg.size
  rcases hl.rows with h0 | ⟨q, off, e, hq, _, hr⟩
  ·exact .inl h0
  ·rcases hz with h0 | hz
   ·exact .inl h0
   ·exact .inr ⟨q, off, e, hq, by have := hg.size; omega, fun i hi j v hv => (World.cell?_of_block (hg.block q hq (by simpa using hz q off _ e))).trans (hr i hi j v hv)⟩
 ·rcases hz with h0 | hz
  ·exact .inl h0
  ·exact ht.grown2 (g := g) hg hl fun q o e => .inr (by simpa using hz q o _ e)
theorem ok4 : Dk.newOk 332 = true := by decide
theorem er4 : er 4 = 0 := er_in in4

set_option maxRecDepth 100000 in
set_option maxHeartbeats 4000000 in
theorem new_v (w : World) (hk : Rm.Kp w) : Calls Tryz.prog 13 #[.int .i64 4] w fun e w' => ∃ sa sc ca cc ao kc, e = .returned (.tuple #[.agg (nvC sa sc ca cc ao kc), .int .i64 0]) ∧ Nv w' sa sc ca cc ao kc ∧ Below w.heap.size w w' := by
 have HK := Lib.hid (fun W (hb : Below w.heap.size w W) => hk.below hb)
 obtain ⟨he1, hup, hm1, _⟩ := fresh_up
 have HM1 := Lib.hid hm1
 have HN1 := Lib.hid hup.n
 have HD1 := Lib.hid hup.d
 have HFQ := Lib.hid (fun w' => forq_any 4 w')
 rw [geo_in in4, er4, g4_lay] at HFQ
 obtain ⟨W, hW, hB0, hs0, hV0⟩ : ∃ W, W = w.alloc (.cells #[.slice none 0 0, .slice none 0 0, .int .i64 0, .bool false, .int .i64 0, .slice none 0 0, .int .i64 0, .int .i64 0, .int .i64 0, .slice none 0 0] 36) ∧ Below w.heap.size w W ∧ W.heap.size = w.heap.size + 1 ∧ Vb W w.heap.size (.slice none 0 0) (.slice none 0 0) (.int .i64 0) (.bool false) (.int .i64 0) (.slice none 0 0) (.int .i64 0) (.int .i64 0) (.int .i64 0) (.slice none 0 0) :=
  ⟨_, rfl, (Below.refl _ _).alloc (Nat.le_refl _) _, by simp, heap_alloc_new _ _⟩
 clear hk hup hm1
 dsimp only [g4] at HFQ
 go_enter Tryz.func13, Tryz.ntmps13
 go_wp2_with fail
 rw [← hW]
 clear hW
 refine (HFQ.out W).mono ?_
 rintro _ w1 ⟨rfl, hb1⟩
 have hV1 := hV0.below hb1 (by omega)
 have hB1 := hB0.trans (hb1.mono hB0.size)
 have hs1 := hb1.size
 clear HFQ hV0 hb1 hB0
 obtain ⟨w2, hW2⟩ : ∃ w2, w2 = w1.alloc (.cells #[.int .i64 332, .int .i64 156, .int .i64 2, .int .i64 4, .int .i64 28, .int .i64 128] 107) := ⟨_, rfl⟩
 have hb2 : Below w1.heap.size w1 w2 := by rw [hW2]; exact (Below.refl _ _).alloc (Nat.le_refl _) _
 have hG2 : w2.heap[w1.heap.size]? = some (.cells g4 107 (0, 0)) := by rw [hW2]; exact heap_alloc_new w1 _
 have hs2 : w2.heap.size = w1.heap.size + 1 := by rw [hW2]; simp
 have hV2 := hV1.below hb2 (by omega)
 have hB2 := hB1.trans (hb2.mono hB1.size)
 dsimp only
 go_wp2_with (rw [← hW2])
 clear hW2 hV1 hB1 hb2
 have hgl : w1.heap.size < w2.heap.size := by omega
 generalize w1.heap.size = bg at hG2 hs1 hgl ⊢
 refine (new_any 332 w2).mono ?_
 intro e w3 hn
 obtain ⟨hb3, hn⟩ := hn
 rw [if_pos ok4] at hn
 obtain ⟨bl1, rfl, hl, hty⟩ := hn
 have hs3 := hb3.size
 have hG3 := (hb3.block bg hgl).trans hG2
 have hV3 := hV2.below hb3 (by omega)
 have hB3 := hB2.trans (hb3.mono hB2.size)
 clear hG2 hV2 hB2 hb3
 dsimp only
 go_wp2_with (refine wpList_store_row rfl 27 (.tmp 6) (.tmp 21) rfl w3.heap.size #[.slice (some ⟨bl1, 0, none⟩) 332 332, .slice none 0 0, .int .i64 (-1), .bool false] rfl rfl 27 _ (heap_alloc_new w3 _) (by kernel_rfl) rfl (disk_one _ _ _ _ _ _ _ _) ?_; rw [World.setRow_alloc_new]; simp only [Act.put])
 generalize hW4 : w3.alloc (.cells #[.slice (some ⟨bl1, 0, none⟩) 332 332, .slice none 0 0, .int .i64 (-1), .bool false] 27) = w4
 have hH4 : HasD w4 (Pl.own w3.heap.size 27) 332 vX0 := ⟨_, _, _, _, new_has (k := 332) (by omega) hl hty hW4.symm⟩
 have hb4 : Below w3.heap.size w3 w4 := by rw [← hW4]; exact (Below.refl _ _).alloc (Nat.le_refl _) _
 have hs4 : w4.heap.size = w3.heap.size + 1 := by rw [← hW4]; simp
 have hB4 := hB3.trans (hb4.mono hB3.size)
 have hG4 := (hb4.block bg (by omega)).trans hG3
 have hV4 := hV3.below hb4 (by omega)
 have hgl4 : w.heap.size < w3.heap.size ∧ bg < w3.heap.size ∧ w3.heap.size < w4.heap.size := by omega
 clear hW4 hl hty hG3 hV3 hB3 hb4
 generalize w3.heap.size = g at hH4 hgl4 hs4 ⊢
 refine (format_d hH4 (vX0_up.ok (k := 2) (by decide)) (HK.out w4 hB4)).mono ?_
 rw [he1]
 rintro _ w5 ⟨rfl, hg5, hD5⟩
 have hB5 : Below w.heap.size w w5 := below_only hB4 (by show w.heap.size ≤ g; omega) hg5
 have hs5 := hg5.size
 have hG5 := (hg5.block bg (by omega) (by show some bg ≠ some g; simp; omega)).trans hG4
 have hV5 := hV4.block (hg5.block w.heap.size (by omega) (by show some w.heap.size ≠ some g; simp; omega))
 have hD5' : HasD w5 (Pl.own g 27) 332 vX1 := hD5
 clear hg5 hB4 hD5 hH4 hG4 hV4
 obtain ⟨w6, hW6⟩ : ∃ w6, w6 = w5.alloc (.cells #[.int .i64 0, .slice none 0 0] 30) := ⟨_, rfl⟩
 have hb6 : Below w5.heap.size w5 w6 := by rw [hW6]; exact (Below.refl _ _).alloc (Nat.le_refl _) _
 have ht6 : w6.heap[w5.heap.size]? = some (.cells #[.int .i64 0, .slice none 0 0] 30 (0, 0)) := by rw [hW6]; exact heap_alloc_new _ _
 have hs6 : w6.heap.size = w5.heap.size + 1 := by rw [hW6]; simp
 obtain ⟨sa, sc, ca, cc, hH6⟩ := hD5'.below hb6
 rw [HM1.out, HN1.out, HD1.out] at hH6
 have hB6 := hB5.trans (hb6.mono hB5.size)
 have hG6 := (hb6.block bg (by omega)).trans hG5
 have hV6 := hV5.below hb6 (by omega)
 have HH6 := Lib.hid hH6
 have HB6 := Lib.hid hB6
 have HV6 := Lib.hid hV6
 have hbx := hH6.bx
 have c0 : w6.cell? ⟨g, 0, none⟩ = _ := hbx.c0
 have c1 : w6.cell? ⟨g, 1, none⟩ = _ := hbx.c1
 have c2 : w6.cell? ⟨g, 2, none⟩ = _ := hbx.c2
 have c3 : w6.cell? ⟨g, 3, none⟩ = _ := hbx.c3
 have k0 : w6.cell? ⟨bg, 0, none⟩ = some (.int .i64 332) := by rw [cell_of_row _ _ _ _ _ _ hG6]; rfl
 have k1 : w6.cell? ⟨bg, 1, none⟩ = some (.int .i64 156) := by rw [cell_of_row _ _ _ _ _ _ hG6]; rfl
 have k2 : w6.cell? ⟨bg, 2, none⟩ = some (.int .i64 2) := by rw [cell_of_row _ _ _ _ _ _ hG6]; rfl
 have k3 : w6.cell? ⟨bg, 3, none⟩ = some (.int .i64 4) := by rw [cell_of_row _ _ _ _ _ _ hG6]; rfl
 have k4 : w6.cell? ⟨bg, 4, none⟩ = some (.int .i64 28) := by rw [cell_of_row _ _ _ _ _ _ hG6]; rfl
 have k5 : w6.cell? ⟨bg, 5, none⟩ = some (.int .i64 128) := by rw [cell_of_row _ _ _ _ _ _ hG6]; rfl
 have b0 : w5.cell? ⟨g, 0, none⟩ = _ := (hb6.cell (p := ⟨g, 0, none⟩) (by show g < w5.heap.size; omega)).symm.trans c0
 have b1 : w5.cell? ⟨g, 1, none⟩ = _ := (hb6.cell (p := ⟨g, 1, none⟩) (by show g < w5.heap.size; omega)).symm.trans c1
 have b2 : w5.cell? ⟨g, 2, none⟩ = _ := (hb6.cell (p := ⟨g, 2, none⟩) (by show g < w5.heap.size; omega)).symm.trans c2
 have b3 : w5.cell? ⟨g, 3, none⟩ = _ := (hb6.cell (p := ⟨g, 3, none⟩) (by show g < w5.heap.size; omega)).symm.trans c3
 have j0 : w5.cell? ⟨bg, 0, none⟩ = some (.int .i64 332) := by rw [cell_of_row _ _ _ _ _ _ hG5]; rfl
 have j1 : w5.cell? ⟨bg, 1, none⟩ = some (.int .i64 156) := by rw [cell_of_row _ _ _ _ _ _ hG5]; rfl
 have j2 : w5.cell? ⟨bg, 2, none⟩ = some (.int .i64 2) := by rw [cell_of_row _ _ _ _ _ _ hG5]; rfl
 have j3 : w5.cell? ⟨bg, 3, none⟩ = some (.int .i64 4) := by rw [cell_of_row _ _ _ _ _ _ hG5]; rfl
 have j4 : w5.cell? ⟨bg, 4, none⟩ = some (.int .i64 28) := by rw [cell_of_row _ _ _ _ _ _ hG5]; rfl
 have j5 : w5.cell? ⟨bg, 5, none⟩ = some (.int .i64 128) := by rw [cell_of_row _ _ _ _ _ _ hG5]; rfl
 obtain ⟨m0, m1⟩ : w6.cell? ⟨w5.heap.size, 0, none⟩ = some (.int .i64 0) ∧ w6.cell? ⟨w5.heap.size, 1, none⟩ = some (.slice none 0 0) := tab_cells ht6
 clear hD5' hb6 ht6 hB5 hG5 hV5 hH6 hB6 hG6 hV6 hbx
 dsimp only
 rw [hW6] at c0 c1 c2 c3 k0 k1 k2 k3 k4 k5 m0 m1
 go_wp2_with (rw [← hW6])
 refine (unused4 sa 332 sc ca 0 cc (-1) false 0 none 0 0 w6).mono ?_
 rintro _ w7 ⟨ao, kc, rfl, hO, hb7⟩
 have hV7 := HV6.out.below hb7 (by omega)
 have hH7 := HH6.out.below hb7
 have hB7 := HB6.out.trans (hb7.mono HB6.out.size)
 clear c0 c1 c2 c3 k0 k1 k2 k3 k4 k5 m0 m1 b0 b1 b2 b3 j0 j1 j2 j3 j4 j5 hW6
 have HH7 := Lib.hid hH7
 have HB7 := Lib.hid hB7
 have HO7 := Lib.hid hO
 clear hH7 hB7 hO hb7
 dsimp only
 go_wp2_with (refine @wpList_store_row _ _ _ _ _ _ _ rfl 36 (.tmp 2) (.tmp 39) rfl w.heap.size (nvC sa sc ca cc ao kc) rfl rfl 36 _ hV7 (vol_size _ _ _ _ _ _ _ _ _ _) rfl (vol_one _ _ _ _ _ _ _ _ _ _ _ _ _ _ _ _ _ _) ?_; simp only [Act.put])
 have hrow : Vb _ w.heap.size _ _ _ _ _ _ _ _ _ _ := setRow_heap w7 w.heap.size _ (nvC sa sc ca cc ao kc) 36 (0, 0) hV7
 refine bodyPost_ret (hrow.results2 rfl rfl rfl) rfl ?_
 obtain ⟨l1, t1⟩ := lay_row HH7.out.ss HH7.out.ts hV7 (by decide) (nvC sa sc ca cc ao kc)
 obtain ⟨l2, _⟩ := lay_row HH7.out.cs HH7.out.tc hV7 (by decide) (nvC sa sc ca cc ao kc)
 exact ⟨sa, sc, ca, cc, ao, kc, rfl, ⟨l1, l2, t1, Sp.OwnS.st (own_only HO7.out (grown_row _) (by omega)) (fun _ _ => by decide) (by omega)⟩, below_only HB7.out (Nat.le_refl _) (grown_row _)⟩
end Vl
end Go.Proofs.YtonhedefjmkpcaaGreatDoor
/- vol: the fixed fact. -/
namespace Go.Proofs.YtonhedefjmkpcaaGreatDoor
set_option maxRecDepth 20000
namespace Vl
open Go.RowKit Dk Gm Eqb Rm Vm Di

attribute [local go_sem] zv29
attribute [local go_sem] Pt.zvP
attribute [local go_sem] zc29
def d7 (j : Nat) : Int := if j = 0 then 7 else 0
theorem VlQ_below {a w w' : World} {V : Pl} (hb : Below a.heap.size a w) (hg : w.grownBy w' (some V.b)) (hk : a.heap.size ≤ V.b) : Below a.heap.size a w' := below_row hb hg hk
theorem built_7 : Tryz.prog.built 45 [(0, .int .u8 7)] = some (bl d7).toArray := by kernel_rfl
theorem d7_byt : byt d7 := fun i _ => by unfold d7; split <;> omega
theorem d7_zero : Pt.fitsB Pt.hole d7 = false := by rw [fits_hole]; exact Wd.zeroB_false (i := 0) (by omega) (by decide)
theorem e2_0 : e2 0 = fun _ => 0 := by
 funext j
 unfold e2
 rw [if_neg (by omega)]
theorem ix28 : ix 28 = 0 := by decide
theorem ix184 : ix 184 = 128 := by decide

theorem bl_same {D E : Nat → Int} (h : ∀ i, i < 128 → D i = E i) : bl D = bl E := by
 unfold bl
 exact List.map_congr_left fun i hi => by rw [h i (List.mem_range.1 hi)]
theorem cell0_bl {w : World} {b : Nat} {D : Nat → Int} {t : TypeId} (h : w.heap[b]? = some (.cells (bl D).toArray t (0, 0))) : w.cell? ⟨b, 0, none⟩ = some (.int .u8 (D 0)) := by
 rw [cell_of_row w b 0 _ _ _ h]
 simp [bl]
theorem ptr_cells {w : World} {b : Nat} {p : Pt.Pn} {t : TypeId} (h : w.heap[b]? = some (.cells (Pt.pV p).toArray t (0, 0))) : w.cell? ⟨b, 0, none⟩ = some (.int .i64 p.A) ∧ w.cell? ⟨b, 1, none⟩ = some (.int .i64 p.B) :=
 ⟨by rw [cell_of_row w b 0 _ _ _ h]; rfl, by rw [cell_of_row w b 1 _ _ _ h]; rfl⟩

set_option maxRecDepth 100000 in
set_option maxHeartbeats 4000000 in
theorem alive9_any (w : World) (hk : Rm.Kp w) : Calls Tryz.prog 12 #[] w fun e w' => e = .returned (.bool true) ∧ Below w.heap.size w w' := by
 obtain ⟨_, hu, hm, hcl, _⟩ := fresh_up
 obtain ⟨hp0, hk0, hk1, hk2⟩ := take2 (i := 0) (by omega)
 replace hk0 : Sp.tkp 28 184 128 256 (e2 0) 2 = 28 := by simpa using hk0
 replace hk1 : Sp.tkq 28 184 128 256 (e2 0) 2 = 184 := by simpa using hk1
 have hps : Ps 28 184 := ps2 (i := 0) (by omega)
 obtain ⟨X', hres, hu', hcl', hm', hga, hgc, _, hok2, hm2⟩ := put_res (D := d7) hu hcl hps (by omega)
 have hf0 : Sp.formB 28 184 128 256 (e2 0) = true := form2 0
 have hf1 : Sp.formB 28 184 128 256 (e2 1) = true := form2 1
 obtain ⟨hget, hgv⟩ := get_up hu' hps hga
 have hmn := mn_up hu' hf1 hps (by rw [ix28]; rfl) (fun _ => by rw [ix184]; rfl) (Pt.sumD d7)
 have hcr : Rg 184 := hps.fc.resolve_left (by decide) |>.1
 have HNW := Lib.hid (new_v w hk)
 have HNH := Lib.hid (fun (w1 : World) (sa ca ao : Option Addr) (sc cc kc : Nat) (h : Nv w1 sa sc ca cc ao kc) (h0 : w1.heap.size ≠ 0) => h.has h0 rfl)
 rw [← e2_0] at HNH
 have HAD := Lib.hid (fun (w1 : World) (V : Pl) (h : HasVol w1 V 332 vX1 vM 28 184 128 256 (e2 0)) (hkp : Rm.Kp w1) => add_ok h tabM i64_184 hkp d7 2 d7_byt (rv_up hu hf0) rfl (by omega) (hu.ok (by omega)) d7_zero rfl hp0 hk0 hk1 hres hok2 hm2)
 rw [hk2] at HAD
 have HGT := Lib.hid (fun (w1 : World) (V : Pl) (h : HasVol w1 V 332 X' vM 28 184 128 256 (e2 1)) (hkp : Rm.Kp w1) => get_ok h tabM i64_184 hkp (hu'.ok (by omega)) (by omega) ⟨28, 184, Pt.sumD d7⟩ (by constructor <;> decide) (by constructor <;> decide) hmn (hga.bts hu' hps.fa d7_byt) ((hgc (by decide)).bts hu' hcr d7_byt) hget ⟨_, rt0⟩)
 rw [bl_same hgv] at HGT
 have HRV : Hid (rvB 332 X'.m X'.C vM.gen vM.k vM.F vM.T 28 184 128 256 (e2 1) = true) := Lib.hid (rv_up hu' hf1)
 have HKP := Lib.hid hk
 clear hu hm hcl hp0 hk0 hk1 hk2 hps hres hu' hcl' hm' hga hgc hok2 hm2 hf0 hf1 hget hgv hmn hcr hk
 generalize Pt.sumD d7 = q at *
 go_enter Tryz.func12, Tryz.ntmps12
 go_wp2_with fail
 refine HNW.out.mono ?_
 rintro _ w1 ⟨sa, sc, ca, cc, ao, kc, rfl, hn1, hb1⟩
 have h0 : w.heap.size ≠ 0 := by have := HKP.out.2; omega
 have hV2 := HNH.out _ _ _ _ _ _ _ hn1 (by have := hb1.size; omega)
 have hb2 : Below w1.heap.size w1 (w1.alloc (.cells (nvC sa sc ca cc ao kc) 36)) := (Below.refl _ _).alloc (Nat.le_refl _) _
 have hB2 := hb1.trans (hb2.mono hb1.size)
 have HA2 := Lib.hid (HAD.out _ _ hV2 (HKP.out.below hB2))
 have HV2 := Lib.hid hV2
 have HB2 := Lib.hid hB2
 have hs1 := hb1.size
 clear HNW HNH HAD hn1 hV2 hB2 hb2
 dsimp only
 go_wp2_with (first
  | (refine wpList_buildTo rfl 45 #[(0, .const (.int .u8 7))] rfl _ rfl (bl d7).toArray built_7 ?_; simp only [Act.put, aI, aS, aZ])
  | (refine @wpList_store_row _ _ _ _ _ _ _ rfl 36 (.tmp 1) (.tmp 9) rfl w1.heap.size (nvC sa sc ca cc ao kc) rfl rfl 36 _ (heap_alloc_new w1 _) (vol_size _ _ _ _ _ _ _ _ _ _) rfl (vol_one _ _ _ _ _ _ _ _ _ _ _ _ _ _ _ _ _ _) ?_; rw [World.setRow_alloc_new]; simp only [Act.put]; generalize w1.alloc (.cells (nvC sa sc ca cc ao kc) 36) = w2 at HA2 HV2 HB2 ⊢))
 generalize w1.heap.size = B at HA2 HV2 hs1 ⊢
 refine HA2.out.mono ?_
 rintro _ w3 ⟨rfl, hT3⟩
 have hB3 : Below w.heap.size w w3 := VlQ_below HB2.out hT3.g hs1
 have HT3 := Lib.hid hT3
 have hB3' := Lib.hid hB3
 obtain ⟨w4, hW4⟩ : ∃ w4, w4 = w3.alloc (.cells (Pt.pV ⟨28, 184, q⟩).toArray 50) := ⟨_, rfl⟩
 have hb4 : Below w3.heap.size w3 w4 := by rw [hW4]; exact (Below.refl _ _).alloc (Nat.le_refl _) _
 have hp4 : w4.heap[w3.heap.size]? = some (.cells (Pt.pV ⟨28, 184, q⟩).toArray 50 (0, 0)) := by rw [hW4]; exact heap_alloc_new _ _
 have hs4 : w4.heap.size = w3.heap.size + 1 := by rw [hW4]; simp
 have hB4 := hB3.trans (hb4.mono hB3.size)
 have HG4 := Lib.hid (HGT.out w4 _ (hT3.v.below hb4) (HKP.out.below hB4))
 have hr4 := Pt.row_pt hp4
 have hBl : B < w3.heap.size := hT3.v.lt
 have HP4 := Lib.hid hp4
 have HV4 := Lib.hid (hT3.v.below hb4)
 have HB4 := Lib.hid hB4
 clear HA2 HV2 HB2 hT3 HT3 hB3 hB3' hb4 hp4 hB4 HGT
 dsimp only
 go_wp2_with (first
  | (refine @wpList_store_row _ _ _ _ _ _ _ rfl 50 (.tmp 3) (.tmp 14) rfl w3.heap.size (Pt.pV ⟨28, 184, q⟩).toArray rfl rfl 50 _ (heap_alloc_new w3 _) (Pt.sizeP' _) rfl (Pt.pV_all _) ?_; rw [World.setRow_alloc_new, ← hW4]; simp only [Act.put])
  | (refine @wpList_loadG _ _ _ _ _ _ _ (by kernel_rfl) 50 (.tmp 3) rfl w3.heap.size 0 rfl (Pt.pV ⟨28, 184, q⟩) _ hr4 Pt.undP rfl (Pt.sizeP _) ?_; simp only [Act.put, aI, aS, aZ]))
 try rw [← hW4]
 clear hW4 hr4
 refine HG4.out.mono ?_
 rintro _ w5 ⟨rfl, hT5⟩
 have hp5 := (hT5.g.block w3.heap.size (by omega) (by show some w3.heap.size ≠ some B; simp; omega)).trans HP4.out
 have hB5 : Below w.heap.size w w5 := VlQ_below HB4.out hT5.g hs1
 obtain ⟨w6, hW6⟩ : ∃ w6, w6 = w5.alloc (.cells (bl d7).toArray 45) := ⟨_, rfl⟩
 have hb6 : Below w5.heap.size w5 w6 := by rw [hW6]; exact (Below.refl _ _).alloc (Nat.le_refl _) _
 have hq6 : w6.cell? ⟨w5.heap.size, 0, none⟩ = some (.int .u8 7) := by rw [hW6]; exact cell0_bl (heap_alloc_new w5 _)
 have hs5 := hT5.g.size
 obtain ⟨p0, p1⟩ := ptr_cells ((hb6.block w3.heap.size (by omega)).trans hp5)
 dsimp only at p0 p1
 obtain ⟨sb, sd, cb, cd, pb, cbp, bo, kd, hx⟩ := HasVol.open' (hT5.v.below hb6)
 have hB6 := Lib.hid (hB5.trans (hb6.mono hB5.size))
 have HR6 := Lib.hid (Right_any sb 332 sd cb X'.m cd X'.f X'.d vM.gen pb vM.k cbp 28 184 128 bo 256 kd _ X'.C vM.F vM.T (e2 1) w6 (by omega) (by have := hx.mb; omega) hx.cs hx.ls tabM.1 tabM.2 i64_184 hx.st)
 rw [HRV.out] at HR6
 have c0 : w6.cell? ⟨B, 0, none⟩ = some _ := hx.c0
 have c1 : w6.cell? ⟨B, 1, none⟩ = some _ := hx.c1
 have c2 : w6.cell? ⟨B, 2, none⟩ = some _ := hx.c2
 have c3 : w6.cell? ⟨B, 3, none⟩ = some _ := hx.c3
 have c4 : w6.cell? ⟨B, 4, none⟩ = some _ := hx.c4
 have c5 : w6.cell? ⟨B, 5, none⟩ = some _ := hx.c5
 have c6 : w6.cell? ⟨B, 6, none⟩ = some _ := hx.c6
 have c7 : w6.cell? ⟨B, 7, none⟩ = some _ := hx.c7
 have c8 : w6.cell? ⟨B, 8, none⟩ = some _ := hx.c8
 have c9 : w6.cell? ⟨B, 9, none⟩ = some _ := hx.c9
 obtain ⟨r0, r1⟩ := ptr_cells hp5
 dsimp only at r0 r1
 have b0 : w5.cell? ⟨B, 0, none⟩ = _ := (hb6.cell (p := ⟨B, 0, none⟩) (by show B < w5.heap.size; omega)).symm.trans c0
 have b1 : w5.cell? ⟨B, 1, none⟩ = _ := (hb6.cell (p := ⟨B, 1, none⟩) (by show B < w5.heap.size; omega)).symm.trans c1
 have b2 : w5.cell? ⟨B, 2, none⟩ = _ := (hb6.cell (p := ⟨B, 2, none⟩) (by show B < w5.heap.size; omega)).symm.trans c2
 have b3 : w5.cell? ⟨B, 3, none⟩ = _ := (hb6.cell (p := ⟨B, 3, none⟩) (by show B < w5.heap.size; omega)).symm.trans c3
 have b4 : w5.cell? ⟨B, 4, none⟩ = _ := (hb6.cell (p := ⟨B, 4, none⟩) (by show B < w5.heap.size; omega)).symm.trans c4
 have b5 : w5.cell? ⟨B, 5, none⟩ = _ := (hb6.cell (p := ⟨B, 5, none⟩) (by show B < w5.heap.size; omega)).symm.trans c5
 have b6 : w5.cell? ⟨B, 6, none⟩ = _ := (hb6.cell (p := ⟨B, 6, none⟩) (by show B < w5.heap.size; omega)).symm.trans c6
 have b7 : w5.cell? ⟨B, 7, none⟩ = _ := (hb6.cell (p := ⟨B, 7, none⟩) (by show B < w5.heap.size; omega)).symm.trans c7
 have b8 : w5.cell? ⟨B, 8, none⟩ = _ := (hb6.cell (p := ⟨B, 8, none⟩) (by show B < w5.heap.size; omega)).symm.trans c8
 have b9 : w5.cell? ⟨B, 9, none⟩ = _ := (hb6.cell (p := ⟨B, 9, none⟩) (by show B < w5.heap.size; omega)).symm.trans c9
 rw [hW6] at p0 p1 hq6 c0 c1 c2 c3 c4 c5 c6 c7 c8 c9
 clear hx hp5 hB5 hb6 hT5 HG4 HP4 HV4 HB4 HRV HKP
 dsimp only
 go_wp2_with (refine wpList_store_row rfl 45 (.tmp 5) (.tmp 19) rfl w5.heap.size (bl d7).toArray rfl rfl 45 _ (heap_alloc_new w5 _) (size_bl' _) (by simp [bl_length]) (bl_all _) ?_; rw [World.setRow_alloc_new, ← hW6]; simp only [Act.put])
 try rw [← hW6]
 refine HR6.out.mono ?_
 rintro _ w7 ⟨rfl, hb7⟩
 clear c0 c1 c2 c3 c4 c5 c6 c7 c8 c9 b0 b1 b2 b3 b4 b5 b6 b7 b8 b9 p0 p1 r0 r1 hq6
 dsimp only
 go_wp2_with fail
 go_ret
 exact ⟨rfl, hB6.out.trans (hb7.mono hB6.out.size)⟩
end Vl
end Go.Proofs.YtonhedefjmkpcaaGreatDoor
