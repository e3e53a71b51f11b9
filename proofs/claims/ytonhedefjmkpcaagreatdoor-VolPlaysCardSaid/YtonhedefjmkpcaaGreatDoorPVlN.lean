import Derived.Test.YtonhedefjmkpcaaGreatDoorPJDiA
import Derived.Test.YtonhedefjmkpcaaGreatDoorPDiPut
import Derived.Test.YtonhedefjmkpcaaGreatDoorPDiGet
import Derived.Test.YtonhedefjmkpcaaGreatDoorPJPt
import Derived.Test.YtonhedefjmkpcaaGreatDoorPVlJ
import Derived.Test.YtonhedefjmkpcaaGreatDoorPRmRepl
/- vol: a healthy volume of quota 4 (332 sectors): what Put and Get come to: the numbers alone. -/
namespace Go.Proofs.YtonhedefjmkpcaaGreatDoor
set_option maxRecDepth 20000
namespace Vm
open Go.RowKit Dk Byt Eqb Rm Di

theorem act_neg {f : Int} (h : f < 0) : actE f false = 0 ∧ actF f false = f ∧ actD f false = false := by
 unfold actE actF actD
 refine ⟨?_, ?_, ?_⟩
 ·rw [if_neg (by simp; omega)]
 ·simp; omega
 ·simp; omega
theorem wr_well {n : Nat} {X : Dst} {a : Int} (hf : formed n X) (hd : X.d = false) (hn : X.f < 0) (ha : 0 ≤ a ∧ a < n) (hw : (X.S a.toNat).noWrite = false) : dWrE n X a = 0 := by
 obtain ⟨e1, _, _⟩ := act_neg hn
 have ho : wrOk n X.m X.C a = true := by
  unfold wrOk hasB
  rw [show formedB n X.m X.C = true from hf, decide_eq_true ha.1, decide_eq_true ha.2]
  rfl
 unfold dWrE wrE
 rw [ho, if_pos rfl, hd, e1, if_pos rfl, hw]
 rfl
theorem fl_well {n : Nat} {X : Dst} (hf : formed n X) (hd : X.d = false) (hn : X.f < 0) : dFlE n X = 0 := by
 unfold dFlE flE
 rw [show formedB n X.m X.C = true from hf, if_pos rfl, hd]
 exact (act_neg hn).1
/-- formed, with power, no fuse -/
structure Up (X : Dst) : Prop where
 f : formed 332 X
 d : X.d = false
 n : X.f = -1
def nw (X : Dst) (a : Int) : Bool := (X.S a.toNat).noWrite
theorem Up.ok {X : Dst} (h : Up X) {k : Nat} (hk : X.m + k ≤ 100000) : Ok k X := ⟨by omega, by rw [h.n]; unfold i64; omega⟩
theorem st_nw {S : Nat → Sec} {C : Nat → Wr} {kp : Nat → Bool} (i : Nat) : ∀ m, (stS S C kp m i).noWrite = (S i).noWrite
 | 0 => rfl
 | m + 1 => by
  have ih := st_nw (S := S) (C := C) (kp := kp) i m
  simp only [stS]
  split
  ·unfold upd
   split
   ·rename_i e
    rw [← e]
    exact ih
   ·exact ih
  ·exact ih
theorem Up.wr {X : Dst} (h : Up X) {a : Int} (ha : 0 ≤ a ∧ a < 332) (hw : nw X a = false) (D : Nat → Int) :
  dWrE 332 X a = 0 ∧ Up (dWr 332 X a D) ∧ (dWr 332 X a D).m = X.m + 1 ∧ ∀ c, nw (dWr 332 X a D) c = nw X c := by
 have hE : dWrE 332 X a = 0 := wr_well h.f h.d (by rw [h.n]; decide) ⟨ha.1, by have := ha.2; omega⟩ hw
 obtain ⟨h1, _, h3⟩ := dWr_yes (D := D) hE
 refine ⟨hE, ⟨h.f.wr _ _, up_wr (.inl hE), ?_⟩, h1, fun c => by unfold nw; rw [h3]⟩
 show wrF 332 X.m X.C X.f X.d a = -1
 unfold wrF
 rw [h.d, h.n, (act_neg (f := -1) (by decide)).2.1]
 split <;> rfl
theorem Up.fl {X : Dst} (h : Up X) : dFlE 332 X = 0 ∧ Up (dFl 332 X) ∧ (dFl 332 X).m = 0 ∧ ∀ c, nw (dFl 332 X) c = nw X c := by
 have hE : dFlE 332 X = 0 := fl_well h.f h.d (by rw [h.n]; decide)
 obtain ⟨h1, _, h3⟩ := up_fl hE
 refine ⟨hE, ⟨h.f.fl, h3, ?_⟩, ?_, fun c => ?_⟩
 ·show flF 332 X.m X.C X.f X.d = -1
  unfold flF
  rw [h.d, h.n, (act_neg (f := -1) (by decide)).2.1]
  split <;> rfl
 ·show flM 332 X.m X.C X.f X.d = 0
  unfold flM
  rw [if_pos h1]
 ·show (flS 332 X.m X.S X.C X.f X.d c.toNat).noWrite = _
  unfold flS
  rw [if_pos h1]
  exact st_nw _ _
/-- a copy that is good -/
structure Good (X : Dst) (b : Nat → Int) (a : Int) : Prop where
 r : (lk X a).1 = false
 v : ∀ i, i < 128 → (lk X a).2 i = b i
theorem sum_same {D E : Nat → Int} (h : ∀ i, i < 128 → D i = E i) : Pt.sumD D = Pt.sumD E := by
 have e : tab 128 D = tab 128 E := List.map_congr_left fun i hi => h i (List.mem_range.1 hi)
 unfold Pt.sumD
 rw [e]
/-- the sectors of the regions -/
def Rg (x : Int) : Prop := (28 ≤ x ∧ x < 156) ∨ (184 ≤ x ∧ x < 312)
theorem half332 : halfN ((332 : Nat) : Int) = 156 := by decide
theorem Rg.lent {x : Int} (h : Rg x) : lentB (halfN ((332 : Nat) : Int)) x = true := by
 rw [half332]
 unfold lentB
 unfold Rg at h
 simp only [Bool.and_eq_true, decide_eq_true_eq]
 omega
theorem Rg.bd {x : Int} (h : Rg x) : 0 ≤ x ∧ x < 332 := by unfold Rg at h; omega
/-- the pointer's sectors -/
structure Ps (a c : Int) : Prop where
 fa : Rg a
 fc : c = -1 ∨ (Rg c ∧ c ≠ a)
theorem Ps.hole {a c : Int} (h : Ps a c) (q : Nat → Int) : Pt.isHole ⟨a, c, q⟩ = false := by
 have := h.fa.bd
 have : (a == -1) = false := by simp; omega
 simp [Pt.isHole, Pt.eqP, Pt.hole, this]
theorem Ps.fits {a c : Int} (h : Ps a c) (q D : Nat → Int) : Pt.fitsB ⟨a, c, q⟩ D = eqB 32 q (Pt.sumD D) := by
 unfold Pt.fitsB
 rw [h.hole]
 rfl
theorem Ps.right {a c : Int} (h : Ps a c) (q : Nat → Int) : Pt.rightB ⟨a, c, q⟩ = true := by
 have ha := h.fa.bd
 have sa : Pt.secB a = true := Pt.secB_iff.2 (by omega)
 unfold Pt.rightB
 rw [h.hole]
 rcases h.fc with rfl | ⟨hc, hne⟩
 ·simp [sa]
 ·have hc' := hc.bd
  have sc : Pt.secB c = true := Pt.secB_iff.2 (by omega)
  simp [sa, sc, hne]
def vM : Tab := ⟨0, 0, fun _ => 0, fun _ => 0⟩
theorem rt0 : Rm.rightB ((332 : Nat) : Int) vM.gen vM.k vM.F vM.T = true := by decide
theorem at0 (x : Int) : atT vM.F vM.T vM.k x = x := rfl
theorem Ps.home {X : Dst} {a c : Int} (h : Ps a c) (hu : Up X) (q : Nat → Int) : homB 332 X vM ⟨a, c, q⟩ = true := by
 unfold homB
 rw [show formedB 332 X.m X.C = true from hu.f, h.right, rt0]
 dsimp only
 rw [h.fa.lent]
 rcases h.fc with rfl | ⟨hc, _⟩
 ·simp
 ·rw [hc.lent]; simp
theorem t_lk {X : Dst} (h : Up X) {x : Int} (hx : Rg x) : tE 332 X vM x = (if (lk X x).1 then 2 else 0) ∧ tV 332 X vM x = if (lk X x).1 then fun _ => 0 else (lk X x).2 := by
 have := rE_lk (y := x) (rm_home (M := vM) h.f rt0 hx.lent) h.d
 rw [at0] at this
 exact this
theorem Good.t {X : Dst} {b : Nat → Int} {x a c : Int} (h : Good X b x) (hu : Up X) (hx : Rg x) (hp : Ps a c) : tE 332 X vM x = 0 ∧ (∀ i, i < 128 → tV 332 X vM x i = b i) ∧ gdB 332 X vM ⟨a, c, Pt.sumD b⟩ x = true := by
 obtain ⟨e1, e2⟩ := t_lk hu hx
 rw [h.r] at e1 e2
 have hv : ∀ i, i < 128 → tV 332 X vM x i = b i := fun i hi => by rw [e2]; exact h.v i hi
 refine ⟨by rw [e1]; rfl, hv, ?_⟩
 unfold gdB
 rw [e1, hp.fits, sum_same hv, eqB_same]
 rfl
theorem Good.bts {X : Dst} {b : Nat → Int} {x : Int} (h : Good X b x) (hu : Up X) (hx : Rg x) (hb : Di.byt b) : Di.byt (tV 332 X vM x) := by
 rw [(t_lk hu hx).2, h.r]
 exact fun i hi => by
  rw [if_neg (by decide), h.v i hi]
  exact hb i hi
theorem w_up {X : Dst} (hu : Up X) {x : Int} (hx : Rg x) (hw : nw X x = false) (V : Nat → Int) : wRes 332 X vM x V = (0, dWr 332 X x V, vM) := by
 have hE := (hu.wr hx.bd hw V).1
 have e : dWrE 332 X (wA vM x) = 0 := hE
 rw [w_c1 (rm_home (M := vM) hu.f rt0 hx.lent) (by rw [e]; decide), e]
 rfl
theorem Good.new {X : Dst} {V : Nat → Int} {x : Int} (hu : Up X) (hx : Rg x) (hw : nw X x = false) : Good (dWr 332 X x V) V x := by
 have := lk_same (D := V) (hu.wr hx.bd hw V).1
 exact ⟨by rw [this], fun i hi => by rw [this]⟩
theorem Good.old {X : Dst} {b V : Nat → Int} {x y : Int} (h : Good X b y) (hxy : y ≠ x) : Good (dWr 332 X x V) b y := by
 have := lk_other (n := 332) (X := X) (D := V) hxy
 exact ⟨by rw [this]; exact h.r, fun i hi => by rw [this]; exact h.v i hi⟩
/-- all the regions' sectors can be written -/
def Clean (X : Dst) : Prop := ∀ x, Rg x → nw X x = false

/-- what Put leaves -/
structure Laid (X : Dst) (V : Nat → Int) (a c : Int) (R : PR) : Prop where
 p : R.p = ⟨a, c, Pt.sumD V⟩
 e : R.e = 0
 M : R.M = vM
 u : Up R.X
 cl : Clean R.X
 m : R.X.m ≤ X.m + 2
 ga : Good R.X V a
 gc : c ≠ -1 → Good R.X V c
 old : ∀ b y, y ≠ a → y ≠ c → Good X b y → Good R.X b y
theorem put_up {X : Dst} {V : Nat → Int} {a c : Int} (hu : Up X) (hc : Clean X) (hp : Ps a c) : Laid X V a c (pRes 332 X vM V a c) ∧ wRes 332 X vM a V = (0, dWr 332 X a V, vM) := by
 have hO : Pt.ofE V a c = 0 := by
  unfold Pt.ofE
  rw [if_pos ⟨hp.hole _, hp.right _⟩]
 have w1 := w_up hu hp.fa (hc a hp.fa) V
 obtain ⟨_, u1, m1, n1⟩ := hu.wr hp.fa.bd (hc a hp.fa) V
 have g1 : Good (dWr 332 X a V) V a := Good.new hu hp.fa (hc a hp.fa)
 have c1 : Clean (dWr 332 X a V) := fun x hx => by rw [n1]; exact hc x hx
 refine ⟨?_, w1⟩
 rcases hp.fc with rfl | ⟨hcr, hne⟩
 ·rw [p_one (M := vM) hO (hp.home hu _) (by rw [w1]) rfl, w1]
  exact ⟨rfl, rfl, rfl, u1, c1, by show (dWr 332 X a V).m ≤ _; omega, g1, fun h => absurd rfl h, fun b y h1 _ hg => hg.old h1⟩
 ·have w2 := w_up u1 hcr (c1 c hcr) V
  obtain ⟨_, u2, m2, n2⟩ := u1.wr hcr.bd (c1 c hcr) V
  have hcn : c ≠ -1 := by have := hcr.bd; omega
  rw [p_two (M := vM) hO (hp.home hu _) (by rw [w1]) hcn (by rw [w1]; dsimp only; rw [w2]), w1]
  dsimp only
  rw [w2]
  exact ⟨rfl, rfl, rfl, u2, fun x hx => by show nw (dWr 332 (dWr 332 X a V) c V) x = false; rw [n2]; exact c1 x hx, by show (dWr 332 (dWr 332 X a V) c V).m ≤ _; omega, g1.old (Ne.symm hne), fun _ => Good.new u1 hcr (c1 c hcr), fun b y h1 h2 hg => (hg.old h1).old h2⟩
/-- a block whose first copy is good is got -/
theorem get_up {X : Dst} {b : Nat → Int} {a c : Int} (hu : Up X) (hp : Ps a c) (h : Good X b a) : gRes 332 X vM ⟨a, c, Pt.sumD b⟩ = ⟨tV 332 X vM a, 0, 0, X, vM⟩ ∧ ∀ i, i < 128 → tV 332 X vM a i = b i := by
 obtain ⟨_, v1, g1⟩ := h.t hu hp.fa hp
 have ha := hp.fa.bd
 exact ⟨g_one (hp.home hu _) (show a ≠ -1 by omega) hu.d g1, v1⟩

/-- a new disk of 332 sectors with its first table -/
def vX0 : Dst := ⟨0, fun _ => sec0, fun _ => wr0, -1, false⟩
def vX1 : Dst := fmX 332 vX0
theorem vX0_up : Up vX0 := ⟨by show formedB 332 0 _ = true; rfl, rfl, rfl⟩
theorem fresh_up : fmE 332 vX0 = 0 ∧ Up vX1 ∧ vX1.m = 0 ∧ Clean vX1 ∧ ∀ x, Rg x → Good vX1 (fun _ => 0) x := by
 have hh : hfN 332 vX0 = 156 := by rw [vX0_up.f.hf]; exact half332
 obtain ⟨e0, u1, m1, w1⟩ := vX0_up.wr (a := ((0 : Nat) : Int) * 156) (by decide) rfl (tab0 332)
 obtain ⟨e1, u2, m2, w2⟩ := u1.wr (a := ((1 : Nat) : Int) * 156) (by decide) (by rw [w1]; rfl) (tab0 332)
 obtain ⟨e2, u3, m3, w3⟩ := u2.fl
 have hc : ∀ c', c' < 2 → fmC 332 (hfN 332 vX0) (tab0 332) vX0 c' = 0 := fun c' h => by
  rw [hh]
  match c', h with
  | 0, _ => exact e0
  | 1, _ => exact e1
 obtain ⟨h1, h2⟩ := (fm_cases 332 vX0).2.2 (by rw [hh]; decide) hc
 rw [hh] at h1 h2
 have hX : vX1 = dFl 332 (dWr 332 (dWr 332 vX0 (((0 : Nat) : Int) * 156) (tab0 332)) (((1 : Nat) : Int) * 156) (tab0 332)) := h2
 refine ⟨by rw [h1]; exact e2, by rw [hX]; exact u3, by rw [hX]; exact m3, fun x hx => ?_, fun x hx => ?_⟩
 ·rw [hX, w3, w2, w1]
  rfl
 ·have hb := hx.bd
  unfold Rg at hx
  have e : lk vX1 x = (false, fun _ => 0) := by
   rw [hX, lk_flush e2 u2.f hb.1, lk_other (by omega), lk_other (by omega)]
   rfl
  exact ⟨by rw [e], fun i _ => by rw [e]⟩
end Vm
end Go.Proofs.YtonhedefjmkpcaaGreatDoor
/- vol: unused, and New of quota 4. -/
namespace Go.Proofs.YtonhedefjmkpcaaGreatDoor
set_option maxRecDepth 20000
namespace Vl
open Go.RowKit Dk Gm Eqb Rm Vm Di

def g4 : Array Value := #[.int .i64 332, .int .i64 156, .int .i64 2, .int .i64 4, .int .i64 28, .int .i64 128]
theorem g4_lay : gA (lay 4) = g4 := by simp [gA, lay, g4]
theorem in4 : inQ 4 := by unfold inQ; omega
theorem first4 (w : World) : Calls Tryz.prog 61 #[.agg g4] w fun e w' => e = .returned (.agg #[.int .i64 28, .int .i64 184]) ∧ Below w.heap.size w w' := by
 have := firsts_any (lay 4) w (by constructor <;> decide)
 rw [(pl_at in4).1, (pl_at in4).2, g4_lay] at this
 exact this
theorem new4 (w : World) : Calls Tryz.prog 119 #[.int .i64 28, .int .i64 184, .int .i64 128] w fun e w' => ∃ ao cap, e = .returned (.tuple #[.agg #[.int .i64 28, .int .i64 184, .int .i64 128, .slice ao 256 cap], .int .i64 0]) ∧ Sp.OwnS w' w.heap.size ao 256 cap (fun _ => 0) ∧ Below w.heap.size w w' := by
 have := Sp.New_any 28 184 128 w (by constructor <;> decide)
 rw [show Sp.nwS 28 184 128 28 = 28 by decide, show Sp.nwS 28 184 128 184 = 184 by decide, show Sp.nwS 28 184 128 128 = 128 by decide, show Sp.nwN 28 184 128 = 256 by decide, show Sp.nwE 28 184 128 = 0 by decide] at this
 exact this
theorem vol_one (sa : Option Addr) (n sc : Nat) (ca : Option Addr) (m cc : Nat) (fu : Int) (d : Bool) (gen : Int) (pa : Option Addr) (k cap : Nat) (A B Z : Int) (ao : Option Addr) (kk kc : Nat) :
  (#[.slice sa n sc, .slice ca m cc, .int .i64 fu, .bool d, .int .i64 gen, .slice pa k cap, .int .i64 A, .int .i64 B, .int .i64 Z, .slice ao kk kc] : Array Value).all (·.oneCell') = true := by simp [Value.oneCell']
theorem vol_size (v0 v1 v2 v3 v4 v5 v6 v7 v8 v9 : Value) : (Tryz.prog.info? 36).map (·.size) = some (#[v0, v1, v2, v3, v4, v5, v6, v7, v8, v9] : Array Value).size := by show _ = some 10; kernel_rfl
theorem Vb.results2 {w : World} {b : Nat} {v0 v1 v2 v3 v4 v5 v6 v7 v8 v9 : Value} {e : Int} (h : Vb w b v0 v1 v2 v3 v4 v5 v6 v7 v8 v9) {tmps : Array Value} {fn : Func} {s r : Nat} (hf : fn.results = #[.cell s 36, .tmp r]) (h2 : tmps.getD s undef = .pointer (some ⟨b, 0, none⟩)) (h3 : tmps.getD r undef = .int .i64 e) :
  (Go.results fn tmps).run Tryz.prog w = .ok (.tuple #[.agg #[v0, v1, v2, v3, v4, v5, v6, v7, v8, v9], .int .i64 e]) w := by
 have h2' : tmps[s]?.getD undef = .pointer (some ⟨b, 0, none⟩) := by simpa using h2
 have h3' : tmps[r]?.getD undef = .int .i64 e := by simpa using h3
 have hv := run_loadVar_row (P := Tryz.prog) w b 36 36 #[v0, v1, v2, v3, v4, v5, v6, v7, v8, v9] (0, 0) _ h undV rfl (by show _ = some 10; kernel_rfl)
 simp [Go.results, hf, h2', h3', asAddr, hv]
/-- the boxes of unused -/
structure Ub (w : World) (d0 d1 d2 d3 m0 m1 : Value) (w' : World) : Prop where
 be : Below w.heap.size w w'
 sz : w.heap.size + 4 ≤ w'.heap.size
 g : w'.heap[w.heap.size]? = some (.cells g4 107 (0, 0))
 d : w'.heap[w.heap.size + 1]? = some (.cells #[d0, d1, d2, d3] 27 (0, 0))
 m : w'.heap[w.heap.size + 1 + 1]? = some (.cells #[m0, m1] 30 (0, 0))
 v : Vb w' (w.heap.size + 1 + 1 + 1) (.slice none 0 0) (.slice none 0 0) (.int .i64 0) (.bool false) (.int .i64 0) (.slice none 0 0) (.int .i64 0) (.int .i64 0) (.int .i64 0) (.slice none 0 0)
theorem Ub.below {w w' w'' : World} {d0 d1 d2 d3 m0 m1 : Value} (h : Ub w d0 d1 d2 d3 m0 m1 w') (hb : Below w'.heap.size w' w'') : Ub w d0 d1 d2 d3 m0 m1 w'' :=
 ⟨h.be.trans (hb.mono h.be.size), Nat.le_trans h.sz hb.size, (hb.block _ (by have := h.sz; omega)).trans h.g, (hb.block _ (by have := h.sz; omega)).trans h.d, (hb.block _ (by have := h.sz; omega)).trans h.m, h.v.below hb (by have := h.sz; omega)⟩
theorem ub_start (w : World) (d0 d1 d2 d3 m0 m1 : Value) : ∃ W, W = (((w.alloc (.cells g4 107)).alloc (.cells #[d0, d1, d2, d3] 27)).alloc (.cells #[m0, m1] 30)).alloc (.cells #[.slice none 0 0, .slice none 0 0, .int .i64 0, .bool false, .int .i64 0, .slice none 0 0, .int .i64 0, .int .i64 0, .int .i64 0, .slice none 0 0] 36) ∧ Ub w d0 d1 d2 d3 m0 m1 W := by
 have b1 : Below w.heap.size w (w.alloc (.cells g4 107)) := (Below.refl _ _).alloc (Nat.le_refl _) _
 have h1 := heap_alloc_new w (.cells g4 107)
 have s1 : (w.alloc (.cells g4 107)).heap.size = w.heap.size + 1 := by simp
 generalize w.alloc (.cells g4 107) = w1 at *
 have b2 : Below w1.heap.size w1 (w1.alloc (.cells #[d0, d1, d2, d3] 27)) := (Below.refl _ _).alloc (Nat.le_refl _) _
 have h2 := heap_alloc_new w1 (.cells #[d0, d1, d2, d3] 27)
 have s2 : (w1.alloc (.cells #[d0, d1, d2, d3] 27)).heap.size = w.heap.size + 2 := by simp [s1]
 generalize w1.alloc (.cells #[d0, d1, d2, d3] 27) = w2 at *
 have b3 : Below w2.heap.size w2 (w2.alloc (.cells #[m0, m1] 30)) := (Below.refl _ _).alloc (Nat.le_refl _) _
 have h3 := heap_alloc_new w2 (.cells #[m0, m1] 30)
 have s3 : (w2.alloc (.cells #[m0, m1] 30)).heap.size = w.heap.size + 3 := by simp [s2]
 generalize w2.alloc (.cells #[m0, m1] 30) = w3 at *
 refine ⟨_, rfl, ?_⟩
 have b4 : Below w3.heap.size w3 (w3.alloc (.cells #[.slice none 0 0, .slice none 0 0, .int .i64 0, .bool false, .int .i64 0, .slice none 0 0, .int .i64 0, .int .i64 0, .int .i64 0, .slice none 0 0] 36)) := (Below.refl _ _).alloc (Nat.le_refl _) _
 have h4 := heap_alloc_new w3 (.cells #[.slice none 0 0, .slice none 0 0, .int .i64 0, .bool false, .int .i64 0, .slice none 0 0, .int .i64 0, .int .i64 0, .int .i64 0, .slice none 0 0] 36)
 have s4 : (w3.alloc (.cells #[.slice none 0 0, .slice none 0 0, .int .i64 0, .bool false, .int .i64 0, .slice none 0 0, .int .i64 0, .int .i64 0, .int .i64 0, .slice none 0 0] 36)).heap.size = w.heap.size + 4 := by simp [s3]
 rw [s1] at h2
 rw [s2] at h3
 rw [s3] at h4
 refine ⟨((b1.trans (b2.mono (by omega))).trans (b3.mono (by omega))).trans (b4.mono (by omega)), by omega, ?_, ?_, ?_, h4⟩
 ·exact (b4.block _ (by omega)).trans ((b3.block _ (by omega)).trans ((b2.block _ (by omega)).trans h1))
 ·exact (b4.block _ (by omega)).trans ((b3.block _ (by omega)).trans h2)
 ·exact (b4.block _ (by omega)).trans h3

set_option maxRecDepth 100000 in
set_option maxHeartbeats 4000000 in
theorem unused4 (sa : Option Addr) (n sc : Nat) (ca : Option Addr) (m cc : Nat) (fu : Int) (d : Bool) (gen : Int) (pa : Option Addr) (k cap : Nat) (w : World) :
  Calls Tryz.prog 52 #[.agg g4, .agg #[.slice sa n sc, .slice ca m cc, .int .i64 fu, .bool d], .agg #[.int .i64 gen, .slice pa k cap]] w fun e w' => ∃ ao kc,
   e = .returned (.tuple #[.agg #[.slice sa n sc, .slice ca m cc, .int .i64 fu, .bool d, .int .i64 gen, .slice pa k cap, .int .i64 28, .int .i64 184, .int .i64 128, .slice ao 256 kc], .int .i64 0]) ∧ Sp.OwnS w' w.heap.size ao 256 kc (fun _ => 0) ∧ Below w.heap.size w w' := by
 obtain ⟨W, hW, hU⟩ := ub_start w (.slice sa n sc) (.slice ca m cc) (.int .i64 fu) (.bool d) (.int .i64 gen) (.slice pa k cap)
 have HU := Lib.hid (fun w' (hb : Below W.heap.size W w') => hU.below hb)
 have gc := fun w' (hb : Below W.heap.size W w') (j : Nat) => cell_of_row w' w.heap.size j _ _ _ (hU.below hb).g
 have HGC := Lib.hid gc
 have hsz := hU.sz
 clear hU gc
 have k0 : W.cell? ⟨w.heap.size, 0, none⟩ = some (.int .i64 332) := HGC.out W (Below.refl _ _) 0
 have k1 : W.cell? ⟨w.heap.size, 1, none⟩ = some (.int .i64 156) := HGC.out W (Below.refl _ _) 1
 have k2 : W.cell? ⟨w.heap.size, 2, none⟩ = some (.int .i64 2) := HGC.out W (Below.refl _ _) 2
 have k3 : W.cell? ⟨w.heap.size, 3, none⟩ = some (.int .i64 4) := HGC.out W (Below.refl _ _) 3
 have k4 : W.cell? ⟨w.heap.size, 4, none⟩ = some (.int .i64 28) := HGC.out W (Below.refl _ _) 4
 have k5 : W.cell? ⟨w.heap.size, 5, none⟩ = some (.int .i64 128) := HGC.out W (Below.refl _ _) 5
 dsimp only [g4] at hW ⊢
 go_enter Tryz.func52, Tryz.ntmps52
 go_wp2_with (rw [← hW])
 clear hW
 refine (first4 W).mono ?_
 rintro _ w1 ⟨rfl, hb1⟩
 clear k0 k1 k2 k3 k4 k5
 have hs1 := hb1.size
 have k5 : w1.cell? ⟨w.heap.size, 5, none⟩ = some (.int .i64 128) := HGC.out w1 hb1 5
 have hb2 : Below w1.heap.size w1 (w1.alloc (.cells #[.int .i64 28, .int .i64 184] 31)) := (Below.refl _ _).alloc (Nat.le_refl _) _
 have k5' : (w1.alloc (.cells #[.int .i64 28, .int .i64 184] 31)).cell? ⟨w.heap.size, 5, none⟩ = some (.int .i64 128) := HGC.out _ (hb1.trans (hb2.mono hs1)) 5
 have hB2 := hb1.trans (hb2.mono hs1)
 dsimp only
 go_wp2_with fail
 refine (new4 _).mono ?_
 rintro _ w3 ⟨ao, kc, rfl, hO, hb3⟩
 have hB3 := hB2.trans (hb3.mono hB2.size)
 have hO3 := Lib.hid hO
 clear k5 k5' hb2 hB2 hO hb3
 have hb4 : Below w3.heap.size w3 (w3.alloc (.cells #[.int .i64 28, .int .i64 184, .int .i64 128, .slice ao 256 kc] 34)) := (Below.refl _ _).alloc (Nat.le_refl _) _
 have hB4 := hB3.trans (hb4.mono hB3.size)
 have hU3 := HU.out w3 hB3
 have hU4 := HU.out _ hB4
 have d0 : w3.cell? ⟨w.heap.size + 1, 0, none⟩ = some (.slice sa n sc) := by rw [cell_of_row _ _ _ _ _ _ hU3.d]; rfl
 have d1 : w3.cell? ⟨w.heap.size + 1, 1, none⟩ = some (.slice ca m cc) := by rw [cell_of_row _ _ _ _ _ _ hU3.d]; rfl
 have d2 : w3.cell? ⟨w.heap.size + 1, 2, none⟩ = some (.int .i64 fu) := by rw [cell_of_row _ _ _ _ _ _ hU3.d]; rfl
 have d3 : w3.cell? ⟨w.heap.size + 1, 3, none⟩ = some (.bool d) := by rw [cell_of_row _ _ _ _ _ _ hU3.d]; rfl
 have m0 : w3.cell? ⟨w.heap.size + 1 + 1, 0, none⟩ = some (.int .i64 gen) := by rw [cell_of_row _ _ _ _ _ _ hU3.m]; rfl
 have m1 : w3.cell? ⟨w.heap.size + 1 + 1, 1, none⟩ = some (.slice pa k cap) := by rw [cell_of_row _ _ _ _ _ _ hU3.m]; rfl
 have d0a : (w3.alloc (.cells #[.int .i64 28, .int .i64 184, .int .i64 128, .slice ao 256 kc] 34)).cell? ⟨w.heap.size + 1, 0, none⟩ = some (.slice sa n sc) := by rw [cell_of_row _ _ _ _ _ _ hU4.d]; rfl
 have d1a : (w3.alloc (.cells #[.int .i64 28, .int .i64 184, .int .i64 128, .slice ao 256 kc] 34)).cell? ⟨w.heap.size + 1, 1, none⟩ = some (.slice ca m cc) := by rw [cell_of_row _ _ _ _ _ _ hU4.d]; rfl
 have d2a : (w3.alloc (.cells #[.int .i64 28, .int .i64 184, .int .i64 128, .slice ao 256 kc] 34)).cell? ⟨w.heap.size + 1, 2, none⟩ = some (.int .i64 fu) := by rw [cell_of_row _ _ _ _ _ _ hU4.d]; rfl
 have d3a : (w3.alloc (.cells #[.int .i64 28, .int .i64 184, .int .i64 128, .slice ao 256 kc] 34)).cell? ⟨w.heap.size + 1, 3, none⟩ = some (.bool d) := by rw [cell_of_row _ _ _ _ _ _ hU4.d]; rfl
 have m0a : (w3.alloc (.cells #[.int .i64 28, .int .i64 184, .int .i64 128, .slice ao 256 kc] 34)).cell? ⟨w.heap.size + 1 + 1, 0, none⟩ = some (.int .i64 gen) := by rw [cell_of_row _ _ _ _ _ _ hU4.m]; rfl
 have m1a : (w3.alloc (.cells #[.int .i64 28, .int .i64 184, .int .i64 128, .slice ao 256 kc] 34)).cell? ⟨w.heap.size + 1 + 1, 1, none⟩ = some (.slice pa k cap) := by rw [cell_of_row _ _ _ _ _ _ hU4.m]; rfl
 have hv4 := hU4.v
 have hbe := hU4.be
 have hlt3 := hB3.size
 clear hU3 hU4
 dsimp only
 go_wp2_with (refine @wpList_store_row _ _ _ _ _ _ _ rfl 36 (.tmp 6) (.tmp 30) rfl (w.heap.size + 1 + 1 + 1) #[.slice sa n sc, .slice ca m cc, .int .i64 fu, .bool d, .int .i64 gen, .slice pa k cap, .int .i64 28, .int .i64 184, .int .i64 128, .slice ao 256 kc] rfl rfl 36 _ hv4 (vol_size _ _ _ _ _ _ _ _ _ _) rfl (vol_one _ _ _ _ _ _ _ _ _ _ _ _ _ _ _ _ _ _) ?_; simp only [Act.put])
 have hrow : Vb _ (w.heap.size + 1 + 1 + 1) _ _ _ _ _ _ _ _ _ _ := setRow_heap (w3.alloc (.cells #[.int .i64 28, .int .i64 184, .int .i64 128, .slice ao 256 kc] 34)) (w.heap.size + 1 + 1 + 1) _ #[.slice sa n sc, .slice ca m cc, .int .i64 fu, .bool d, .int .i64 gen, .slice pa k cap, .int .i64 28, .int .i64 184, .int .i64 128, .slice ao 256 kc] 36 (0, 0) hv4
 refine bodyPost_ret (hrow.results2 rfl rfl rfl) rfl ?_
 refine ⟨ao, kc, rfl, ?_, below_only hbe (by omega) (grown_row _)⟩
 have h1 : Sp.OwnS (w3.alloc (.cells #[.int .i64 28, .int .i64 184, .int .i64 128, .slice ao 256 kc] 34)) _ ao 256 kc (fun _ => 0) := hO3.out.below hb4
 exact owns_more (own_only h1 (grown_row _) (by simp; omega)) (by simp; omega)
end Vl
end Go.Proofs.YtonhedefjmkpcaaGreatDoor
