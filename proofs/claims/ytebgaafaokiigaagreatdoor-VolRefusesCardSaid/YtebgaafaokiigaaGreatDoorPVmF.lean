import Derived.Test.YtebgaafaokiigaaGreatDoorPVlN
import Derived.Test.YtebgaafaokiigaaGreatDoorPSpTk
import Derived.Test.YtebgaafaokiigaaGreatDoorPVlF
import Derived.Test.YtebgaafaokiigaaGreatDoorPVlI
import Derived.Test.YtebgaafaokiigaaGreatDoorPVlK
import Derived.Test.YtebgaafaokiigaaGreatDoorPVlL
import Derived.Test.YtebgaafaokiigaaGreatDoorPVlO
/- vol: a space of quota 4, filled one by one: the numbers, each looked at. -/
namespace Go.Proofs.YtebgaafaokiigaaGreatDoor
set_option maxRecDepth 20000
namespace Vm
open Go.RowKit Byt Sp

/-- the states behind i takings of one sector, of two -/
def e1 (i j : Nat) : Int := if j < i then 2 else 0
def e2 (i j : Nat) : Int := if j < i ∨ (128 ≤ j ∧ j < 128 + i) then 2 else 0
/-- the sector of the i-th taking of one -/
def s1 (i : Nat) : Int := if i < 128 then 28 + i else 184 + (i - 128)
theorem form_e {f : Nat → Int} (h : ∀ i, i < 256 → f i ≤ 4) : formB 28 184 128 256 f = true := formB_iff.2 ⟨by omega, rfl, h⟩
theorem e1_bd (i j : Nat) : 0 ≤ e1 i j ∧ e1 i j ≤ 2 := by unfold e1; split <;> omega
theorem e2_bd (i j : Nat) : 0 ≤ e2 i j ∧ e2 i j ≤ 2 := by unfold e2; split <;> omega
theorem form1 (i : Nat) : formB 28 184 128 256 (e1 i) = true := form_e fun j _ => by have := e1_bd i j; omega
theorem form2 (i : Nat) : formB 28 184 128 256 (e2 i) = true := form_e fun j _ => by have := e2_bd i j; omega
/-- what is asked of the i-th taking -/
def ck1 (i : Nat) : Bool := if i < 256 then tpOk 28 184 128 (e1 i) 1 && (tp0 28 184 128 (e1 i) 1 == s1 i) && (tpL 28 184 128 (e1 i) 1 0 == i) else !tpOk 28 184 128 (e1 i) 1
def ck2 (i : Nat) : Bool := if i < 128 then tpOk 28 184 128 (e2 i) 2 && (tp0 28 184 128 (e2 i) 2 == 28 + i) && (tp1 184 128 (e2 i) 2 == 184 + i) && (tpL 28 184 128 (e2 i) 2 0 == i) && (tpL 28 184 128 (e2 i) 2 1 == 128 + i) else !tpOk 28 184 128 (e2 i) 2
def ckU (i : Nat) : Bool := (usN (e1 i) 256 == i) && (if i ≤ 128 then usN (e2 i) 256 == 2 * i else true)
theorem ck1_all : (List.range 257).all ck1 = true := by decide +kernel
theorem ck2_all : (List.range 129).all ck2 = true := by decide +kernel
theorem ckU_all : (List.range 257).all ckU = true := by decide +kernel
theorem ap : Ap 28 184 128 := ap_of (form1 0)
theorem one_ok {f : Nat → Int} (hf : formB 28 184 128 256 f = true) {c : Int} (hc : c = 1 ∨ c = 2) : tkB 28 184 128 256 f c = true := by
  unfold tkB
  rw [hf]
  rcases hc with rfl | rfl <;> rfl
end Vm
end Go.Proofs.YtebgaafaokiigaaGreatDoor
/- vol: a space of quota 4, filled one by one. -/
namespace Go.Proofs.YtebgaafaokiigaaGreatDoor
set_option maxRecDepth 20000
namespace Vm
open Go.RowKit Byt Sp

theorem ck1_at {i : Nat} (h : i < 257) : ck1 i = true := List.all_eq_true.1 ck1_all i (List.mem_range.2 h)
theorem ck2_at {i : Nat} (h : i < 129) : ck2 i = true := List.all_eq_true.1 ck2_all i (List.mem_range.2 h)
theorem ckU_at {i : Nat} (h : i < 257) : ckU i = true := List.all_eq_true.1 ckU_all i (List.mem_range.2 h)
theorem put_e1 (i : Nat) : put (e1 i) i 2 = e1 (i + 1) := by
  funext j
  unfold put e1
  by_cases h : j = i
  · subst h; simp
  · rw [if_neg h]
    by_cases h2 : j < i
    · rw [if_pos h2, if_pos (by omega)]
    · rw [if_neg h2, if_neg (by omega)]
theorem put_e2 {i : Nat} (hi : i < 128) : put (put (e2 i) i 2) (128 + i) 2 = e2 (i + 1) := by
  funext j
  unfold put e2
  by_cases h : j = 128 + i
  · rw [if_pos h, if_pos (by omega)]
  · rw [if_neg h]
    by_cases h2 : j = i
    · rw [if_pos h2, if_pos (by omega)]
    · rw [if_neg h2]
      by_cases h3 : j < i ∨ (128 ≤ j ∧ j < 128 + i)
      · rw [if_pos h3, if_pos (by omega)]
      · rw [if_neg h3, if_neg (by omega)]
/-- the i-th taking of one sector -/
theorem take1 {i : Nat} (h : i < 256) : tkE 28 184 128 256 (e1 i) 1 = 0 ∧ tkp 28 184 128 256 (e1 i) 1 = s1 i ∧ tkq 28 184 128 256 (e1 i) 1 = -1 ∧ tkF 28 184 128 256 (e1 i) 1 = e1 (i + 1) := by
  have hc := ck1_at (i := i) (by omega)
  unfold ck1 at hc
  rw [if_pos h] at hc
  simp only [Bool.and_eq_true, beq_iff_eq] at hc
  obtain ⟨⟨h1, h2⟩, h3⟩ := hc
  have hb := one_ok (form1 i) (.inl rfl : (1 : Int) = 1 ∨ (1 : Int) = 2)
  have e : (tkB 28 184 128 256 (e1 i) 1 && tpOk 28 184 (128 : Int).toNat (e1 i) (1 : Int).toNat) = true := by rw [hb]; exact h1
  refine ⟨?_, ?_, ?_, ?_⟩
  · unfold tkE; rw [if_pos hb]; exact if_pos h1
  · unfold tkp; rw [if_pos e]; exact h2
  · unfold tkq; rw [if_pos e]; rfl
  · unfold tkF; rw [if_pos e]
    show bec tkN (tpL 28 184 128 (e1 i) 1) (e1 i) 1 = _
    rw [tk_bec1 ap (tpOk_yes h1 (.inl rfl) 0 (by omega)), h3, put_e1]
/-- .. where none is left -/
theorem full1 : tkE 28 184 128 256 (e1 256) 1 = 9 ∧ tkF 28 184 128 256 (e1 256) 1 = e1 256 := by
  have hc := ck1_at (i := 256) (by omega)
  unfold ck1 at hc
  rw [if_neg (by omega)] at hc
  have h1 : tpOk 28 184 128 (e1 256) 1 = false := by simpa using hc
  have hb := one_ok (form1 256) (.inl rfl : (1 : Int) = 1 ∨ (1 : Int) = 2)
  have e : ¬ (tkB 28 184 128 256 (e1 256) 1 && tpOk 28 184 (128 : Int).toNat (e1 256) (1 : Int).toNat) = true := by
    rw [hb]
    show ¬ (true && tpOk 28 184 128 (e1 256) 1) = true
    rw [h1]; decide
  exact ⟨by unfold tkE; rw [if_pos hb]; exact if_neg (by show ¬ tpOk 28 184 128 (e1 256) 1 = true; rw [h1]; decide), by unfold tkF; rw [if_neg e]⟩
/-- the i-th taking of two -/
theorem take2 {i : Nat} (h : i < 128) : tkE 28 184 128 256 (e2 i) 2 = 0 ∧ tkp 28 184 128 256 (e2 i) 2 = 28 + i ∧ tkq 28 184 128 256 (e2 i) 2 = 184 + i ∧ tkF 28 184 128 256 (e2 i) 2 = e2 (i + 1) := by
  have hc := ck2_at (i := i) (by omega)
  unfold ck2 at hc
  rw [if_pos h] at hc
  simp only [Bool.and_eq_true, beq_iff_eq] at hc
  obtain ⟨⟨⟨⟨h1, h2⟩, h3⟩, h4⟩, h5⟩ := hc
  have hb := one_ok (form2 i) (.inr rfl : (2 : Int) = 1 ∨ (2 : Int) = 2)
  have e : (tkB 28 184 128 256 (e2 i) 2 && tpOk 28 184 (128 : Int).toNat (e2 i) (2 : Int).toNat) = true := by rw [hb]; exact h1
  have hy := tpOk_yes h1 (.inr rfl)
  refine ⟨?_, ?_, ?_, ?_⟩
  · unfold tkE; rw [if_pos hb]; exact if_pos h1
  · unfold tkp; rw [if_pos e]; exact h2
  · unfold tkq; rw [if_pos e]; exact h3
  · unfold tkF; rw [if_pos e]
    show bec tkN (tpL 28 184 128 (e2 i) 2) (e2 i) 2 = _
    rw [tk_bec2 ap (hy 0 (by omega)) (hy 1 (by omega)), h4, h5, put_e2 h]
theorem full2 : tkE 28 184 128 256 (e2 128) 2 = 9 ∧ tkF 28 184 128 256 (e2 128) 2 = e2 128 := by
  have hc := ck2_at (i := 128) (by omega)
  unfold ck2 at hc
  rw [if_neg (by omega)] at hc
  have h1 : tpOk 28 184 128 (e2 128) 2 = false := by simpa using hc
  have hb := one_ok (form2 128) (.inr rfl : (2 : Int) = 1 ∨ (2 : Int) = 2)
  have e : ¬ (tkB 28 184 128 256 (e2 128) 2 && tpOk 28 184 (128 : Int).toNat (e2 128) (2 : Int).toNat) = true := by
    rw [hb]
    show ¬ (true && tpOk 28 184 128 (e2 128) 2) = true
    rw [h1]; decide
  exact ⟨by unfold tkE; rw [if_pos hb]; exact if_neg (by show ¬ tpOk 28 184 128 (e2 128) 2 = true; rw [h1]; decide), by unfold tkF; rw [if_neg e]⟩
theorem used1 {i : Nat} (h : i ≤ 256) : usedN 28 184 128 256 (e1 i) = i := by
  have hc := ckU_at (i := i) (by omega)
  unfold ckU at hc
  simp only [Bool.and_eq_true, beq_iff_eq] at hc
  unfold usedN
  rw [form1, if_pos rfl, hc.1]
theorem used2 {i : Nat} (h : i ≤ 128) : usedN 28 184 128 256 (e2 i) = 2 * i := by
  have hc := ckU_at (i := i) (by omega)
  unfold ckU at hc
  rw [if_pos h] at hc
  simp only [Bool.and_eq_true, beq_iff_eq] at hc
  unfold usedN
  rw [form2, if_pos rfl, hc.2]
/-- where they are put -/
theorem ps1 {i : Nat} (h : i < 256) : Ps (s1 i) (-1) := by
  refine ⟨?_, .inl rfl⟩
  unfold Rg s1
  split <;> omega
theorem ps2 {i : Nat} (h : i < 128) : Ps (28 + i) (184 + i) := ⟨by unfold Rg; omega, .inr ⟨by unfold Rg; omega, by omega⟩⟩
end Vm
end Go.Proofs.YtebgaafaokiigaaGreatDoor
/- vol: a healthy volume of quota 4: it is right, what is its own: the numbers. -/
namespace Go.Proofs.YtebgaafaokiigaaGreatDoor
set_option maxRecDepth 20000
namespace Vl
open Go.RowKit Dk Gm Eqb Rm Vm Di

theorem okQ4 : okQ 332 = true := by decide
theorem fsq4 : fsq ((332 : Nat) : Int) = 4 := by decide
theorem rv_up {X : Dst} {f : Nat → Int} (hu : Up X) (hf : Sp.formB 28 184 128 256 f = true) : rv 332 X vM 28 184 128 256 f = true := by
  unfold rv rvB lyB
  rw [show formedB 332 X.m X.C = true from hu.f, okQ4, rt0, hf, fsq4]
  rfl
theorem pl_rg {x : Int} (h : Rg x) : 0 ≤ Sp.plI 28 184 128 x ∧ Sp.plI 28 184 128 x < 256 := by
  unfold Rg at h
  unfold Sp.plI
  split
  · omega
  · split <;> omega
/-- where a sector's state lies -/
def ix (x : Int) : Nat := (Sp.plI 28 184 128 x).toNat
theorem secU_rg {f : Nat → Int} {x : Int} (h : Rg x) (hu : Sp.us (f (ix x)) = true) : secU 28 184 128 f x = true := by
  unfold secU
  rw [decide_eq_true (pl_rg h).1, show Sp.us (f (Sp.plI 28 184 128 x).toNat) = true from hu]
  simp
/-- a pointer whose sectors are in use is one of the volume -/
theorem mn_up {X : Dst} {f : Nat → Int} (hu : Up X) (hf : Sp.formB 28 184 128 256 f = true) {a c : Int} (hp : Ps a c) (ha : Sp.us (f (ix a)) = true) (hc : c ≠ -1 → Sp.us (f (ix c)) = true) (q : Nat → Int) : mn 332 X vM 28 184 128 256 f ⟨a, c, q⟩ = true := by
  have h1 := rv_up hu hf
  unfold rv at h1
  unfold mn mnB
  rw [h1, dr_secs hf, hp.right]
  dsimp only
  rw [secU_rg hp.fa ha]
  rcases hp.fc with rfl | ⟨hcr, _⟩
  · rfl
  · rw [secU_rg hcr (hc (by have := hcr.bd; omega))]
    rfl
theorem tabM : TabOk vM := ⟨by show 0 ≤ _; omega, fun i hi => by have hi' : i < 0 := hi; omega⟩
theorem i64_184 : Sp.i64 184 := by constructor <;> decide
/-- what Put comes to, as Add wants it -/
theorem put_res {X : Dst} {D : Nat → Int} {a c : Int} (hu : Up X) (hc : Vm.Clean X) (hp : Ps a c) (hm : X.m ≤ 1000) : ∃ X', pRes 332 X vM D a c = ⟨⟨a, c, Pt.sumD D⟩, 0, X', vM⟩ ∧ Up X' ∧ Vm.Clean X' ∧ X'.m ≤ X.m + 2 ∧ Vm.Good X' D a ∧ (c ≠ -1 → Vm.Good X' D c) ∧
    (∀ b y, y ≠ a → y ≠ c → Vm.Good X b y → Vm.Good X' b y) ∧ Ok 23 (wRes 332 X vM a D).2.1 ∧ TabOk (wRes 332 X vM a D).2.2 := by
  obtain ⟨hl, hw⟩ := put_up (V := D) hu hc hp
  obtain ⟨_, u1, m1, _⟩ := hu.wr hp.fa.bd (hc a hp.fa) D
  refine ⟨(pRes 332 X vM D a c).X, ?_, hl.u, hl.cl, hl.m, hl.ga, hl.gc, hl.old, ?_, ?_⟩
  · have e1 := hl.p
    have e2 := hl.e
    have e3 := hl.M
    generalize pRes 332 X vM D a c = R at e1 e2 e3 ⊢
    obtain ⟨p, e, X', M'⟩ := R
    simp only at e1 e2 e3
    subst e1 e2 e3
    rfl
  · rw [hw]
    exact u1.ok (by rw [m1]; omega)
  · rw [hw]
    exact tabM
theorem fits_hole (D : Nat → Int) : Pt.fitsB Pt.hole D = Wd.zeroB D 128 := rfl
end Vl
end Go.Proofs.YtebgaafaokiigaaGreatDoor
/- vol: the fixed fact. -/
namespace Go.Proofs.YtebgaafaokiigaaGreatDoor
set_option maxRecDepth 20000
namespace Vl
open Go.RowKit Dk Gm Eqb Rm Vm Di

attribute [local go_sem] zv29
attribute [local go_sem] Pt.zvP
attribute [local go_sem] zc29
def d7 (j : Nat) : Int := if j = 0 then 7 else 0
theorem VlQ_below {a w w' : World} {V : Pl} (hb : Below a.heap.size a w) (hg : w.grownBy w' (some V.b)) (hk : a.heap.size ≤ V.b) : Below a.heap.size a w' := below_row hb hg hk
theorem built_7 : Tryz.prog.built 47 [(0, .int .u8 7)] = some (bl d7).toArray := by kernel_rfl
theorem d7_byt : byt d7 := fun i _ => by unfold d7; split <;> omega
theorem d7_zero : Pt.fitsB Pt.hole d7 = false := by rw [fits_hole]; exact Wd.zeroB_false (i := 0) (by omega) (by decide)
theorem e2_0 : e2 0 = fun _ => 0 := by
  funext j
  unfold e2
  rw [if_neg (by omega)]
theorem ix28 : ix 28 = 0 := by decide
theorem ix184 : ix 184 = 128 := by decide

theorem bl_same {D E : Nat → Int} (h : ∀ i, i < 128 → D i = E i) : bl D = bl E := by
  unfold bl
  exact List.map_congr_left fun i hi => by rw [h i (List.mem_range.1 hi)]
theorem cell0_bl {w : World} {b : Nat} {D : Nat → Int} {t : TypeId} (h : w.heap[b]? = some (.cells (bl D).toArray t (0, 0))) : w.cell? ⟨b, 0, none⟩ = some (.int .u8 (D 0)) := by
  rw [cell_of_row w b 0 _ _ _ h]
  simp [bl]
theorem ptr_cells {w : World} {b : Nat} {p : Pt.Pn} {t : TypeId} (h : w.heap[b]? = some (.cells (Pt.pV p).toArray t (0, 0))) : w.cell? ⟨b, 0, none⟩ = some (.int .i64 p.A) ∧ w.cell? ⟨b, 1, none⟩ = some (.int .i64 p.B) :=
  ⟨by rw [cell_of_row w b 0 _ _ _ h]; rfl, by rw [cell_of_row w b 1 _ _ _ h]; rfl⟩

set_option maxRecDepth 100000 in
set_option maxHeartbeats 4000000 in
theorem alive9_any (w : World) (hk : Rm.Kp w) : Calls Tryz.prog 8 #[] w fun e w' => e = .returned (.bool true) ∧ Below w.heap.size w w' := by
  obtain ⟨_, hu, hm, hcl, _⟩ := fresh_up
  obtain ⟨hp0, hk0, hk1, hk2⟩ := take2 (i := 0) (by omega)
  replace hk0 : Sp.tkp 28 184 128 256 (e2 0) 2 = 28 := by simpa using hk0
  replace hk1 : Sp.tkq 28 184 128 256 (e2 0) 2 = 184 := by simpa using hk1
  have hps : Ps 28 184 := ps2 (i := 0) (by omega)
  obtain ⟨X', hres, hu', hcl', hm', hga, hgc, _, hok2, hm2⟩ := put_res (D := d7) hu hcl hps (by omega)
  have hf0 : Sp.formB 28 184 128 256 (e2 0) = true := form2 0
  have hf1 : Sp.formB 28 184 128 256 (e2 1) = true := form2 1
  obtain ⟨hget, hgv⟩ := get_up hu' hps hga
  have hmn := mn_up hu' hf1 hps (by rw [ix28]; rfl) (fun _ => by rw [ix184]; rfl) (Pt.sumD d7)
  have hcr : Rg 184 := hps.fc.resolve_left (by decide) |>.1
  have HNW := Lib.hid (new_v w hk)
  have HNH := Lib.hid (fun (w1 : World) (sa ca ao : Option Addr) (sc cc kc : Nat) (h : Nv w1 sa sc ca cc ao kc) (h0 : w1.heap.size ≠ 0) => h.has h0 rfl)
  rw [← e2_0] at HNH
  have HAD := Lib.hid (fun (w1 : World) (V : Pl) (h : HasVol w1 V 332 vX1 vM 28 184 128 256 (e2 0)) (hkp : Rm.Kp w1) => add_ok h tabM i64_184 hkp d7 2 d7_byt (rv_up hu hf0) rfl (by omega) (hu.ok (by omega)) d7_zero rfl hp0 hk0 hk1 hres hok2 hm2)
  rw [hk2] at HAD
  have HGT := Lib.hid (fun (w1 : World) (V : Pl) (h : HasVol w1 V 332 X' vM 28 184 128 256 (e2 1)) (hkp : Rm.Kp w1) => get_ok h tabM i64_184 hkp (hu'.ok (by omega)) (by omega) ⟨28, 184, Pt.sumD d7⟩ (by constructor <;> decide) (by constructor <;> decide) hmn (hga.bts hu' hps.fa d7_byt) ((hgc (by decide)).bts hu' hcr d7_byt) hget ⟨_, rt0⟩)
  rw [bl_same hgv] at HGT
  have HRV : Hid (rvB 332 X'.m X'.C vM.gen vM.k vM.F vM.T 28 184 128 256 (e2 1) = true) := Lib.hid (rv_up hu' hf1)
  have HKP := Lib.hid hk
  clear hu hm hcl hp0 hk0 hk1 hk2 hps hres hu' hcl' hm' hga hgc hok2 hm2 hf0 hf1 hget hgv hmn hcr hk
  generalize Pt.sumD d7 = q at *
  go_enter Tryz.func8, Tryz.ntmps8
  go_wp2_with fail
  refine HNW.out.mono ?_
  rintro _ w1 ⟨sa, sc, ca, cc, ao, kc, rfl, hn1, hb1⟩
  have h0 : w.heap.size ≠ 0 := by have := HKP.out.2; omega
  have hV2 := HNH.out _ _ _ _ _ _ _ hn1 (by have := hb1.size; omega)
  have hb2 : Below w1.heap.size w1 (w1.alloc (.cells (nvC sa sc ca cc ao kc) 34)) := (Below.refl _ _).alloc (Nat.le_refl _) _
  have hB2 := hb1.trans (hb2.mono hb1.size)
  have HA2 := Lib.hid (HAD.out _ _ hV2 (HKP.out.below hB2))
  have HV2 := Lib.hid hV2
  have HB2 := Lib.hid hB2
  have hs1 := hb1.size
  clear HNW HNH HAD hn1 hV2 hB2 hb2
  dsimp only
  go_wp2_with (first
    | (refine wpList_buildTo rfl 47 #[(0, .const (.int .u8 7))] rfl _ rfl (bl d7).toArray built_7 ?_; simp only [Act.put, List.setIfInBounds_toArray, List.set_cons_succ, List.set_cons_zero])
    | (refine @wpList_store_row _ _ _ _ _ _ _ rfl 34 (.tmp 1) (.tmp 9) rfl w1.heap.size (nvC sa sc ca cc ao kc) rfl rfl 34 _ (heap_alloc_new w1 _) (vol_size _ _ _ _ _ _ _ _ _ _) rfl (vol_one _ _ _ _ _ _ _ _ _ _ _ _ _ _ _ _ _ _) ?_; rw [World.setRow_alloc_new]; simp only [Act.put]; generalize w1.alloc (.cells (nvC sa sc ca cc ao kc) 34) = w2 at HA2 HV2 HB2 ⊢))
  generalize w1.heap.size = B at HA2 HV2 hs1 ⊢
  refine HA2.out.mono ?_
  rintro _ w3 ⟨rfl, hT3⟩
  have hB3 : Below w.heap.size w w3 := VlQ_below HB2.out hT3.g hs1
  have HT3 := Lib.hid hT3
  have hB3' := Lib.hid hB3
  obtain ⟨w4, hW4⟩ : ∃ w4, w4 = w3.alloc (.cells (Pt.pV ⟨28, 184, q⟩).toArray 37) := ⟨_, rfl⟩
  have hb4 : Below w3.heap.size w3 w4 := by rw [hW4]; exact (Below.refl _ _).alloc (Nat.le_refl _) _
  have hp4 : w4.heap[w3.heap.size]? = some (.cells (Pt.pV ⟨28, 184, q⟩).toArray 37 (0, 0)) := by rw [hW4]; exact heap_alloc_new _ _
  have hs4 : w4.heap.size = w3.heap.size + 1 := by rw [hW4]; simp
  have hB4 := hB3.trans (hb4.mono hB3.size)
  have HG4 := Lib.hid (HGT.out w4 _ (hT3.v.below hb4) (HKP.out.below hB4))
  have hr4 := Pt.row_pt hp4
  have hBl : B < w3.heap.size := hT3.v.lt
  have HP4 := Lib.hid hp4
  have HV4 := Lib.hid (hT3.v.below hb4)
  have HB4 := Lib.hid hB4
  clear HA2 HV2 HB2 hT3 HT3 hB3 hB3' hb4 hp4 hB4 HGT
  dsimp only
  go_wp2_with (first
    | (refine @wpList_store_row _ _ _ _ _ _ _ rfl 37 (.tmp 3) (.tmp 14) rfl w3.heap.size (Pt.pV ⟨28, 184, q⟩).toArray rfl rfl 37 _ (heap_alloc_new w3 _) (Pt.sizeP' _) rfl (Pt.pV_all _) ?_; rw [World.setRow_alloc_new, ← hW4]; simp only [Act.put])
    | (refine @wpList_loadG _ _ _ _ _ _ _ (by kernel_rfl) 37 (.tmp 3) rfl w3.heap.size 0 rfl (Pt.pV ⟨28, 184, q⟩) _ hr4 Pt.undP rfl (Pt.sizeP _) ?_; simp only [Act.put, List.setIfInBounds_toArray, List.set_cons_succ, List.set_cons_zero]))
  try rw [← hW4]
  clear hW4 hr4
  refine HG4.out.mono ?_
  rintro _ w5 ⟨rfl, hT5⟩
  have hp5 := (hT5.g.block w3.heap.size (by omega) (by show some w3.heap.size ≠ some B; simp; omega)).trans HP4.out
  have hB5 : Below w.heap.size w w5 := VlQ_below HB4.out hT5.g hs1
  obtain ⟨w6, hW6⟩ : ∃ w6, w6 = w5.alloc (.cells (bl d7).toArray 47) := ⟨_, rfl⟩
  have hb6 : Below w5.heap.size w5 w6 := by rw [hW6]; exact (Below.refl _ _).alloc (Nat.le_refl _) _
  have hq6 : w6.cell? ⟨w5.heap.size, 0, none⟩ = some (.int .u8 7) := by rw [hW6]; exact cell0_bl (heap_alloc_new w5 _)
  have hs5 := hT5.g.size
  obtain ⟨p0, p1⟩ := ptr_cells ((hb6.block w3.heap.size (by omega)).trans hp5)
  dsimp only at p0 p1
  obtain ⟨sb, sd, cb, cd, pb, cbp, bo, kd, hx⟩ := HasVol.open' (hT5.v.below hb6)
  have hB6 := Lib.hid (hB5.trans (hb6.mono hB5.size))
  have HR6 := Lib.hid (Right_any sb 332 sd cb X'.m cd X'.f X'.d vM.gen pb vM.k cbp 28 184 128 bo 256 kd _ X'.C vM.F vM.T (e2 1) w6 (by omega) (by have := hx.mb; omega) hx.cs hx.ls tabM.1 tabM.2 i64_184 hx.st)
  rw [HRV.out] at HR6
  have c0 : w6.cell? ⟨B, 0, none⟩ = some _ := hx.c0
  have c1 : w6.cell? ⟨B, 1, none⟩ = some _ := hx.c1
  have c2 : w6.cell? ⟨B, 2, none⟩ = some _ := hx.c2
  have c3 : w6.cell? ⟨B, 3, none⟩ = some _ := hx.c3
  have c4 : w6.cell? ⟨B, 4, none⟩ = some _ := hx.c4
  have c5 : w6.cell? ⟨B, 5, none⟩ = some _ := hx.c5
  have c6 : w6.cell? ⟨B, 6, none⟩ = some _ := hx.c6
  have c7 : w6.cell? ⟨B, 7, none⟩ = some _ := hx.c7
  have c8 : w6.cell? ⟨B, 8, none⟩ = some _ := hx.c8
  have c9 : w6.cell? ⟨B, 9, none⟩ = some _ := hx.c9
  obtain ⟨r0, r1⟩ := ptr_cells hp5
  dsimp only at r0 r1
  have b0 : w5.cell? ⟨B, 0, none⟩ = _ := (hb6.cell (p := ⟨B, 0, none⟩) (by show B < w5.heap.size; omega)).symm.trans c0
  have b1 : w5.cell? ⟨B, 1, none⟩ = _ := (hb6.cell (p := ⟨B, 1, none⟩) (by show B < w5.heap.size; omega)).symm.trans c1
  have b2 : w5.cell? ⟨B, 2, none⟩ = _ := (hb6.cell (p := ⟨B, 2, none⟩) (by show B < w5.heap.size; omega)).symm.trans c2
  have b3 : w5.cell? ⟨B, 3, none⟩ = _ := (hb6.cell (p := ⟨B, 3, none⟩) (by show B < w5.heap.size; omega)).symm.trans c3
  have b4 : w5.cell? ⟨B, 4, none⟩ = _ := (hb6.cell (p := ⟨B, 4, none⟩) (by show B < w5.heap.size; omega)).symm.trans c4
  have b5 : w5.cell? ⟨B, 5, none⟩ = _ := (hb6.cell (p := ⟨B, 5, none⟩) (by show B < w5.heap.size; omega)).symm.trans c5
  have b6 : w5.cell? ⟨B, 6, none⟩ = _ := (hb6.cell (p := ⟨B, 6, none⟩) (by show B < w5.heap.size; omega)).symm.trans c6
  have b7 : w5.cell? ⟨B, 7, none⟩ = _ := (hb6.cell (p := ⟨B, 7, none⟩) (by show B < w5.heap.size; omega)).symm.trans c7
  have b8 : w5.cell? ⟨B, 8, none⟩ = _ := (hb6.cell (p := ⟨B, 8, none⟩) (by show B < w5.heap.size; omega)).symm.trans c8
  have b9 : w5.cell? ⟨B, 9, none⟩ = _ := (hb6.cell (p := ⟨B, 9, none⟩) (by show B < w5.heap.size; omega)).symm.trans c9
  rw [hW6] at p0 p1 hq6 c0 c1 c2 c3 c4 c5 c6 c7 c8 c9
  clear hx hp5 hB5 hb6 hT5 HG4 HP4 HV4 HB4 HRV HKP
  dsimp only
  go_wp2_with (refine wpList_store_row rfl 47 (.tmp 5) (.tmp 19) rfl w5.heap.size (bl d7).toArray rfl rfl 47 _ (heap_alloc_new w5 _) (size_bl' _) (by simp [bl_length]) (bl_all _) ?_; rw [World.setRow_alloc_new, ← hW6]; simp only [Act.put])
  try rw [← hW6]
  refine HR6.out.mono ?_
  rintro _ w7 ⟨rfl, hb7⟩
  clear c0 c1 c2 c3 c4 c5 c6 c7 c8 c9 b0 b1 b2 b3 b4 b5 b6 b7 b8 b9 p0 p1 r0 r1 hq6
  dsimp only
  go_wp2_with fail
  go_ret
  exact ⟨rfl, hB6.out.trans (hb7.mono hB6.out.size)⟩
end Vl
end Go.Proofs.YtebgaafaokiigaaGreatDoor
