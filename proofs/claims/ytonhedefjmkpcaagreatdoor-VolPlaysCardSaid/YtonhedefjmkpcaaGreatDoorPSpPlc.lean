import Derived.Test.YtonhedefjmkpcaaGreatDoorPSpTk
import Derived.Test.YtonhedefjmkpcaaGreatDoorPJPt
import Derived.Test.YtonhedefjmkpcaaGreatDoorPAl
/- space: a pointer's sectors, in numbers; what stands there asked by a closure. -/
namespace Go.Proofs.YtonhedefjmkpcaaGreatDoor
set_option maxRecDepth 20000
namespace Sp
open Go.RowKit Dk Eqb Byt

/-- a sector's place, if there is one -/
def pla (A B Z x : Int) : List Int := if x = -1 then [] else [plI A B Z x]
def sec1 (x : Int) : List Int := if x = -1 then [] else [x]
def okB (A B Z x : Int) : Bool := x == -1 || decide (0 ≤ plI A B Z x)
def pls (A B Z : Int) (p : Pt.Pn) : List Int := pla A B Z p.A ++ pla A B Z p.B
def secs (p : Pt.Pn) : List Int := sec1 p.A ++ sec1 p.B
/-- is the pointer right, and of the space -/
def plB (A B Z : Int) (p : Pt.Pn) : Bool := Pt.rightB p && (okB A B Z p.A && okB A B Z p.B)
def plL (A B Z : Int) (p : Pt.Pn) (i : Nat) : Nat := ((pls A B Z p).getD i 0).toNat
theorem pla_map (A B Z x : Int) : pla A B Z x = (sec1 x).map (plI A B Z) := by
 unfold pla sec1
 split <;> rfl
theorem pls_map (A B Z : Int) (p : Pt.Pn) : pls A B Z p = (secs p).map (plI A B Z) := by
 unfold pls secs
 rw [List.map_append, pla_map, pla_map]
theorem pls_len (A B Z : Int) (p : Pt.Pn) : (pls A B Z p).length ≤ 2 := by
 unfold pls pla
 split <;> split <;> simp
theorem pla_mem {A B Z x y : Int} (h : y ∈ pla A B Z x) : x ≠ -1 ∧ y = plI A B Z x := by
 unfold pla at h
 split at h
 ·cases h
 ·exact ⟨by assumption, by simpa using h⟩
theorem pls_ok {A B Z : Int} {p : Pt.Pn} (h : plB A B Z p = true) : ∀ y, y ∈ pls A B Z p → 0 ≤ y := by
 intro y hy
 simp only [plB, Bool.and_eq_true] at h
 unfold pls at hy
 rw [List.mem_append] at hy
 rcases hy with hy | hy
 ·obtain ⟨h1, rfl⟩ := pla_mem hy
  simpa [okB, h1] using h.2.1
 ·obtain ⟨h1, rfl⟩ := pla_mem hy
  simpa [okB, h1] using h.2.2
theorem pls_lt {A B Z : Int} {p : Pt.Pn} (ha : Ap A B Z) : ∀ y, y ∈ pls A B Z p → y < 2 * Z := by
 intro y hy
 unfold pls at hy
 rw [List.mem_append] at hy
 rcases hy with hy | hy
 ·obtain ⟨_, rfl⟩ := pla_mem hy
  exact plI_lt ha
 ·obtain ⟨_, rfl⟩ := pla_mem hy
  exact plI_lt ha
/-- two sectors stand in two places -/
theorem plI_inj {A B Z x y : Int} (ha : Ap A B Z) (hx : 0 ≤ plI A B Z x) (h : plI A B Z x = plI A B Z y) : x = y := by
 obtain ⟨h1, h2, h3, h4, h5⟩ := ha
 unfold plI at hx h
 split at h
 ·split at h
  ·omega
  ·split at h <;> omega
 ·split at h
  ·split at h
   ·omega
   ·split at h <;> omega
  ·rename_i h6 h7
   rw [if_neg h6, if_neg h7] at hx
   omega
theorem plL_lt {A B Z : Int} {n : Nat} {p : Pt.Pn} (ha : Ap A B Z) (hn : (n : Int) = 2 * Z) (h : plB A B Z p = true) : ∀ i, i < (pls A B Z p).length → plL A B Z p i < n ∧ (pls A B Z p).getD i 0 = (plL A B Z p i : Int) := by
 intro i hi
 have hm : (pls A B Z p).getD i 0 ∈ pls A B Z p := by
  rw [List.getD_eq_getElem?_getD, List.getElem?_eq_getElem hi]
  exact List.getElem_mem hi
 have h0 := pls_ok h _ hm
 have h1 := pls_lt ha _ hm
 unfold plL
 omega
/-- all sectors of it -/
def anyP (A B Z : Int) (p : Pt.Pn) (T : Nat → Bool) : Bool := (pls A B Z p).any fun x => T x.toNat

def drB (A B Z : Int) (n : Nat) (f : Nat → Int) (p : Pt.Pn) : Bool := formB A B Z n f && (plB A B Z p && !anyP A B Z p fun i => !us (f i))
def drE (A B Z : Int) (n : Nat) (f : Nat → Int) (p : Pt.Pn) : Int := if drB A B Z n f p then 0 else 1
def drN : Nat → Int := nx 0 3 4 0 0
def drF (A B Z : Int) (n : Nat) (f : Nat → Int) (p : Pt.Pn) : Nat → Int := if drB A B Z n f p then bec drN (plL A B Z p) f (pls A B Z p).length else f
/-- the closures -/
theorem idle_any (q : Nat) (g : Pl) (b off n cap i : Nat) (A B Z : Int) (f : Nat → Int) (w : World) (hq : w.cell? ⟨q, 0, none⟩ = some (.pointer (some ⟨g.b, g.o, none⟩))) (hx : Bs w g A B Z (some ⟨b, off, none⟩) n cap) (hi : i < n) (hc : w.cell? ⟨b, off + i, none⟩ = some (.int .u8 (f i))) :
  Calls Tryz.prog 136 #[.int .i64 i, .pointer (some ⟨q, 0, none⟩)] w fun e w' => e = .returned (.bool (!us (f i))) ∧ w = w' := by
 have c3 := hx.c3
 have HU := Lib.hid (used_any (f i) w)
 have hi0 : (0 : Int) ≤ (i : Int) := by omega
 have hin : (i : Int) < (n : Int) := by omega
 generalize f i = v at hc HU
 generalize us v = u at HU
 go_enter Tryz.func136, Tryz.ntmps136
 go_wp2_with fail
 refine HU.out.mono ?_
 rintro _ w2 ⟨rfl, rfl⟩
 dsimp only
 go_wp2_with fail
 go_ret
 exact ⟨rfl, rfl⟩
theorem any_take {xs : List Int} {T : Int → Bool} {j : Nat} (h : (xs.take j).any T = false) (hj : j < xs.length) (hT : T (xs.getD j 0) = false) : (xs.take (j + 1)).any T = false := by
 rw [List.take_add_one, List.any_append, h, Bool.false_or]
 rw [List.getElem?_eq_getElem hj]
 rw [List.getD_eq_getElem?_getD, List.getElem?_eq_getElem hj] at hT
 simpa using hT
theorem any_here {xs : List Int} {T : Int → Bool} {j : Nat} (hj : j < xs.length) (hT : T (xs.getD j 0) = true) : xs.any T = true := by
 rw [List.getD_eq_getElem?_getD, List.getElem?_eq_getElem hj] at hT
 exact List.any_eq_true.2 ⟨_, List.getElem_mem hj, by simpa using hT⟩

set_option maxHeartbeats 1000000 in
/-- IndexFunc, ContainsFunc with that closure -/
theorem index_idle (q : Nat) (v : Value) (xs : List Int) (T : Int → Bool) (base : Nat) (w : World) (hv : OwnI w base v xs) (hlen : xs.length ≤ 1099511627776) (hT : ∀ j, j < xs.length → Calls Tryz.prog 136 #[.int .i64 (xs.getD j 0), .pointer (some ⟨q, 0, none⟩)] w fun e w' => e = .returned (.bool (T (xs.getD j 0))) ∧ w = w') :
  Calls Tryz.prog 176 #[v, .func (.func 136) #[] #[.pointer (some ⟨q, 0, none⟩)]] w fun e w' => ∃ k : Int, e = .returned (.int .i64 k) ∧ decide (0 ≤ k) = xs.any T ∧ w = w' := by
 have HT := Lib.hid hT
 clear hT
 rcases hv.slice with ⟨rfl, rfl⟩ | ⟨b, cap, rfl, _, _, hc⟩
 ·clear HT hv hlen
  go_enter Tryz.func176, Tryz.ntmps176
  go_wp2_with fail
  go_loop [8] (fun i => i = .int .i64 0) (fun _ => 0)
  case atStart => rfl
  case round =>
   obtain rfl := hrel
   go_wp2_with fail
   go_ret
   exact ⟨-1, rfl, by simp, rfl⟩
 ·have HC := Lib.hid hc
  clear hc hv
  obtain ⟨m, hm⟩ : ∃ m, m = xs.length := ⟨_, rfl⟩
  have HM := Lib.hid hm
  rw [← hm]
  have hmb : m ≤ 1099511627776 := by omega
  clear hm hlen
  go_enter Tryz.func176, Tryz.ntmps176
  go_wp2_with fail
  go_loop [8] (fun i => ∃ j : Nat, j ≤ m ∧ i = .int .i64 j ∧ Hid ((xs.take j).any T = false)) (fun i => m - (intOf i).toNat)
  case atStart => exact ⟨0, by omega, rfl, Lib.hid rfl⟩
  case round =>
   obtain ⟨j, hj, rfl, hR⟩ := hrel
   by_cases hlt : j < m
   ·have hcj := HC.out j (by have := HM.out; omega)
    have hj0 : (0 : Int) ≤ (j : Int) := by omega
    have hjn : (j : Int) < (m : Int) := by omega
    have HTj := Lib.hid (HT.out j (by have := HM.out; omega))
    have HY := Lib.hid (fun h => any_here (T := T) (show j < xs.length by have := HM.out; omega) h)
    have HO := Lib.hid (fun h => any_take hR.out (show j < xs.length by have := HM.out; omega) h)
    generalize xs.getD j 0 = x at hcj HTj HY HO
    go_wp2_with fail
    refine HTj.out.mono ?_
    rintro _ w2 ⟨rfl, rfl⟩
    dsimp only
    cases hu : T x with
    | true =>
     have HV := Lib.hid (HY.out hu)
     clear HY HO hu
     go_wp2_with fail
     go_ret
     exact ⟨(j : Int), rfl, by rw [HV.out]; exact decide_eq_true (by omega), rfl⟩
    | false =>
     have HV := Lib.hid (HO.out hu)
     clear HY HO hu
     go_wp2_with fail
     go_round
     case rel => exact ⟨j + 1, by omega, by go_num, HV⟩
     case measure => simp [intOf]; omega
   ·obtain rfl : j = m := by omega
    have HV : Hid (xs.any T = false) := Lib.hid (by have := hR.out; rwa [HM.out, List.take_length] at this)
    clear hR
    go_wp2_with fail
    go_ret
    exact ⟨-1, rfl, by rw [HV.out]; rfl, rfl⟩
theorem contains_idle (q : Nat) (v : Value) (xs : List Int) (T : Int → Bool) (base : Nat) (w : World) (hv : OwnI w base v xs) (hlen : xs.length ≤ 1099511627776) (hT : ∀ j, j < xs.length → Calls Tryz.prog 136 #[.int .i64 (xs.getD j 0), .pointer (some ⟨q, 0, none⟩)] w fun e w' => e = .returned (.bool (T (xs.getD j 0))) ∧ w = w') :
  Calls Tryz.prog 138 #[v, .func (.func 136) #[] #[.pointer (some ⟨q, 0, none⟩)]] w fun e w' => e = .returned (.bool (xs.any T)) ∧ w = w' := by
 have HI := Lib.hid (index_idle q v xs T base w hv hlen hT)
 generalize xs.any T = r at HI
 clear hv hT hlen
 go_enter Tryz.func138, Tryz.ntmps138
 go_wp2_with fail
 refine HI.out.mono ?_
 rintro _ w2 ⟨k, rfl, rfl, rfl⟩
 dsimp only
 go_wp2_with fail
 go_ret
 exact ⟨rfl, rfl⟩

end Sp
end Go.Proofs.YtonhedefjmkpcaaGreatDoor
/- space: which places are a pointer's. -/
namespace Go.Proofs.YtonhedefjmkpcaaGreatDoor
set_option maxRecDepth 20000
namespace Sp
open Go.RowKit Dk Eqb Byt

/-- the places of the first j sides -/
def pcl (A B Z : Int) (p : Pt.Pn) (j : Nat) : List Int := if j = 0 then [] else if j = 1 then pla A B Z p.A else pls A B Z p
theorem pcl_len (A B Z : Int) (p : Pt.Pn) (j : Nat) : (pcl A B Z p j).length ≤ 2 := by
 unfold pcl
 split
 ·simp
 ·split
  ·unfold pla; split <;> simp
  ·exact pls_len A B Z p
structure PcR (W w1 : World) (A B Z : Int) (p : Pt.Pn) (j : Nat) (v : Value) (wr : World) : Prop where
 be : Below W.heap.size W wr
 ow : OwnI wr w1.heap.size v (pcl A B Z p j)
 okA : 1 ≤ j → okB A B Z p.A = true
 okB : 2 ≤ j → okB A B Z p.B = true
 lt : w1.heap.size ≤ wr.heap.size
 w1 : W.heap.size ≤ w1.heap.size
section
variable {W w1 wr w2 w3 : World} {A B Z : Int} {p : Pt.Pn} {v v' : Value} {o : Obj}
theorem PcR.next0 (h : PcR W w1 A B Z p 0 v wr) (h1 : Sp.okB A B Z p.A = true) (h2 : OwnI wr w1.heap.size v ([] ++ pla A B Z p.A)) : PcR W w1 A B Z p 1 v wr :=
 ⟨h.be, h2, fun _ => h1, fun hh => by omega, h.lt, h.w1⟩
theorem PcR.next1 (h : PcR W w1 A B Z p 1 v wr) (h1 : Sp.okB A B Z p.B = true) (h2 : OwnI wr w1.heap.size v (pla A B Z p.A ++ pla A B Z p.B)) : PcR W w1 A B Z p 2 v wr :=
 ⟨h.be, h2, fun _ => h.okA (by omega), fun _ => h1, h.lt, h.w1⟩
theorem PcR.world {j : Nat} (h : PcR W w1 A B Z p j v wr) (hb : Below wr.heap.size wr w2) (hg : (w2.alloc o).grownBy w3 v.ownBlock) : Below W.heap.size W w3 ∧ w1.heap.size ≤ w3.heap.size := by
 have hBA : Below wr.heap.size wr (w2.alloc o) := hb.alloc hb.size _
 have hs1 := h.be.size
 have hs2 := hBA.size
 have hs3 := hg.size
 have := h.lt
 exact ⟨(h.be.trans (hBA.mono h.be.size)).grown hg (by omega) fun k hk => by have := (World.ownsRow.lt h.ow k hk).1; have := h.w1; omega, by omega⟩
theorem PcR.grow0 (h : PcR W w1 A B Z p 0 v wr) (hb : Below wr.heap.size wr w2) (h1 : Sp.okB A B Z p.A = true) (h2 : OwnI w3 w1.heap.size v' ([] ++ pla A B Z p.A)) (hg : (w2.alloc o).grownBy w3 v.ownBlock) : PcR W w1 A B Z p 1 v' w3 :=
 ⟨(h.world hb hg).1, h2, fun _ => h1, fun hh => by omega, (h.world hb hg).2, h.w1⟩
theorem PcR.grow1 (h : PcR W w1 A B Z p 1 v wr) (hb : Below wr.heap.size wr w2) (h1 : Sp.okB A B Z p.B = true) (h2 : OwnI w3 w1.heap.size v' (pla A B Z p.A ++ pla A B Z p.B)) (hg : (w2.alloc o).grownBy w3 v.ownBlock) : PcR W w1 A B Z p 2 v' w3 :=
 ⟨(h.world hb hg).1, h2, fun _ => h.okA (by omega), fun _ => h1, (h.world hb hg).2, h.w1⟩
theorem OwnI.more {w : World} {base base' : Nat} {v : Value} {xs : List Int} (h : OwnI w base v xs) (hb : base' ≤ base) : OwnI w base' v xs := by
 refine ⟨h.1, ?_⟩
 rcases h.2 with h2 | ⟨g, cap, cur, hv, hb', h5⟩
 ·exact .inl h2
 ·exact .inr ⟨g, cap, cur, hv, by omega, h5⟩
end
theorem box_two (w : World) (A B Z : Int) (ao : Option Addr) (n cap : Nat) (p : Pt.Pn) : ∃ W, W = (w.alloc (.cells #[.int .i64 A, .int .i64 B, .int .i64 Z, .slice ao n cap] 34)).alloc (.cells (Pt.pV p).toArray 50) ∧ Below w.heap.size w W ∧ W.heap.size = w.heap.size + 2 ∧ Bq W w.heap.size A B Z ao n cap ∧ W.heap[w.heap.size + 1]? = some (.cells (Pt.pV p).toArray 50 (0, 0)) := by
 refine ⟨_, rfl, ((Below.refl _ _).alloc (Nat.le_refl _) _).alloc (by simp) _, by simp, ?_, ?_⟩
 ·unfold Bq
  rw [Below.heap_alloc _ _ _ (by simp), heap_alloc_new]
 ·have := heap_alloc_new (w.alloc (.cells #[.int .i64 A, .int .i64 B, .int .i64 Z, .slice ao n cap] 34)) (.cells (Pt.pV p).toArray 50)
  rwa [World.size_alloc] at this

set_option maxRecDepth 100000 in
set_option maxHeartbeats 4000000 in
theorem places_any (A B Z : Int) (p : Pt.Pn) (ao : Option Addr) (n cap : Nat) (w : World) (ha : Ap A B Z) (hpA : i64 p.A) (hpB : i64 p.B) :
  Calls Tryz.prog 135 #[.agg #[.int .i64 A, .int .i64 B, .int .i64 Z, .slice ao n cap], .agg (Pt.pV p).toArray] w fun e w' => ∃ v, e = .returned (.tuple #[v, .bool (plB A B Z p)]) ∧ (plB A B Z p = true → OwnI w' w.heap.size v (pls A B Z p)) ∧ Below w.heap.size w w' := by
 obtain ⟨W, hW, hbW, hsW, hxW, hpW⟩ := box_two w A B Z ao n cap p
 have HAp := Lib.hid ha
 have HRT := Lib.hid (fun W => Pt.right_any p W)
 have r0 := Pt.row_pt hpW
 clear ha
 cases hr : Pt.rightB p with
 | false =>
  have HV : Hid (plB A B Z p = false) := Lib.hid (by unfold plB; rw [hr]; rfl)
  rw [hr] at HRT
  clear hr
  go_enter Tryz.func135, Tryz.ntmps135
  go_wp2_with (first | rw [← hW] | (refine @wpList_loadG _ _ _ _ _ _ _ (by kernel_rfl) 50 (.tmp 3) rfl (w.heap.size + 1) 0 rfl (Pt.pV p) _ r0 Pt.undP rfl (Pt.sizeP p) ?_; simp only [Act.put, aI, aS, aZ]))
  refine (HRT.out _).mono ?_
  rintro _ w1 ⟨rfl, hb1⟩
  dsimp only
  go_wp2_with fail
  go_ret2
  exact ⟨.slice none 0 0, by rw [HV.out]; rfl, (fun h => by rw [HV.out] at h; cases h), hbW.trans (hb1.mono (by omega))⟩
 | true =>
  rw [hr] at HRT
  have HR0 := Lib.hid hr
  clear hr
  go_enter Tryz.func135, Tryz.ntmps135
  go_wp2_with (first | rw [← hW] | (refine @wpList_loadG _ _ _ _ _ _ _ (by kernel_rfl) 50 (.tmp 3) rfl (w.heap.size + 1) 0 rfl (Pt.pV p) _ r0 Pt.undP rfl (Pt.sizeP p) ?_; simp only [Act.put, aI, aS, aZ]))
  refine (HRT.out _).mono ?_
  rintro _ w1 ⟨rfl, hb1⟩
  dsimp only
  have hp1 := (hb1.block (w.heap.size + 1) (by omega)).trans hpW
  have pA := Pt.cA_pt hp1
  have pB := Pt.cB_pt hp1
  have HP0 : Hid (PcR W w1 A B Z p 0 (.slice none 0 0) w1) := Lib.hid ⟨hb1, OwnI.nil _ _, fun h => by omega, fun h => by omega, Nat.le_refl _, hb1.size⟩
  have i0 := idx0 p.A p.B
  have i1 := idx1 p.A p.B
  clear hb1 hp1 hW hpW r0
  go_wp2_with fail
  clear pA pB
  go_loopw [6, 19] (fun t i wr => ∃ j : Nat, j ≤ 2 ∧ i = .int .i64 j ∧ Hid (PcR W w1 A B Z p j t wr)) (fun _ i _ => 2 - (intOf i).toNat)
  case atStart => exact ⟨0, by omega, rfl, HP0⟩
  case round =>
   clear HP0
   rename_i u6 _
   obtain ⟨v8, hv8⟩ : ∃ v8, v8 = u6 := ⟨_, rfl⟩
   subst hv8
   obtain ⟨j, hj, rfl, hR⟩ := hrel
   obtain rfl | rfl | rfl : j = 0 ∨ j = 1 ∨ j = 2 := by omega
   ·have hxb := hpA
    have HOK : Hid (okB A B Z p.A = (p.A == -1 || decide (0 ≤ plI A B Z p.A))) := Lib.hid rfl
    have HPA : Hid (pla A B Z p.A = if p.A = -1 then [] else [plI A B Z p.A]) := Lib.hid rfl
    have HPC := Lib.hid (fun w' => place_any A B Z p.A ao n cap w' hxb HAp.out)
    cases hy : p.A == -1 with
    | true =>
     have HN : Hid (PcR W w1 A B Z p 1 v8 wr) := Lib.hid (hR.out.next0 (by rw [HOK.out, hy]; rfl) (by rw [HPA.out, if_pos (by simpa using hy), List.append_nil]; exact hR.out.ow))
     clear HOK HPA HPC hR hxb
     go_wp2_with fail
     go_roundw
     case rel => exact ⟨0 + 1, by omega, by go_num, HN⟩
     case measure => simp [intOf]
    | false =>
     have hY := hR.out.be
     have e0 := (hxW.below hY (by omega)).c0
     have e1 := (hxW.below hY (by omega)).c1
     have e2 := (hxW.below hY (by omega)).c2
     have e3 := (hxW.below hY (by omega)).c3
     cases hz : decide (0 ≤ plI A B Z p.A) with
     | false =>
      have HV : Hid (plB A B Z p = false) := Lib.hid (by
       unfold plB
       rw [show okB A B Z p.A = okB A B Z p.A from rfl, HOK.out, hy, hz]
       simp)
      rw [hz] at HPC
      clear HOK HPA hR hxb
      go_wp2_with fail
      refine (HPC.out wr).mono ?_
      rintro _ w2 ⟨rfl, hb2⟩
      dsimp only
      generalize clip (plI A B Z p.A) = k
      go_wp2_with fail
      go_ret2
      exact ⟨.slice none 0 0, by rw [HV.out]; rfl, (fun h => by rw [HV.out] at h; cases h), hbW.trans ((hY.trans (hb2.mono hY.size)).mono (by omega))⟩
     | true =>
      rw [hz, show clip (plI A B Z p.A) = plI A B Z p.A from if_pos (of_decide_eq_true hz)] at HPC
      have HOKt : Hid (okB A B Z p.A = true) := Lib.hid (by rw [HOK.out, hy, hz]; rfl)
      have HPA' : Hid (pla A B Z p.A = [plI A B Z p.A]) := Lib.hid (by rw [HPA.out, if_neg (by simpa using hy)])
      have HLN := Lib.hid hR.out.ow
      have HRR := Lib.hid hR.out
      clear HOK HPA hR hxb hz
      generalize plI A B Z p.A = k at HPC HPA'
      go_wp2_with fail
      refine (HPC.out wr).mono ?_
      rintro _ w2 ⟨rfl, hb2⟩
      dsimp only
      have HB2 := Lib.hid hb2
      clear hb2 e0 e1 e2 e3
      go_wp2_with (at_builtin; refine append_i1 rfl (.tmp 32) (.tmp 34) rfl w1.heap.size v8 _ rfl ((HRR.out.ow.below HB2.out).below ((Below.refl _ _).alloc (Nat.le_refl _) _)) w2.heap.size 1 k rfl (World.cell?_alloc_new _ _ _ 0) (by have := pcl_len A B Z p 0; omega) (by have := HRR.out.lt; have := HB2.out.size; simp; omega) ?_; intro v' w3 hown hg; have HN := Lib.hid (HRR.out.grow0 HB2.out HOKt.out (by rw [HPA'.out]; exact hown) hg); clear hown hg)
      go_roundw
      case rel => exact ⟨0 + 1, by omega, by go_num, HN⟩
      case measure => simp [intOf]
   ·have hxb := hpB
    rw [show ((1 : Nat) : Int) = 1 from rfl]
    have HOK : Hid (okB A B Z p.B = (p.B == -1 || decide (0 ≤ plI A B Z p.B))) := Lib.hid rfl
    have HPA : Hid (pla A B Z p.B = if p.B = -1 then [] else [plI A B Z p.B]) := Lib.hid rfl
    have HPC := Lib.hid (fun w' => place_any A B Z p.B ao n cap w' hxb HAp.out)
    cases hy : p.B == -1 with
    | true =>
     have HN : Hid (PcR W w1 A B Z p 2 v8 wr) := Lib.hid (hR.out.next1 (by rw [HOK.out, hy]; rfl) (by rw [HPA.out, if_pos (by simpa using hy), List.append_nil]; exact hR.out.ow))
     clear HOK HPA HPC hR hxb
     go_wp2_with fail
     go_roundw
     case rel => exact ⟨1 + 1, by omega, by go_num, HN⟩
     case measure => simp [intOf]
    | false =>
     have hY := hR.out.be
     have e0 := (hxW.below hY (by omega)).c0
     have e1 := (hxW.below hY (by omega)).c1
     have e2 := (hxW.below hY (by omega)).c2
     have e3 := (hxW.below hY (by omega)).c3
     cases hz : decide (0 ≤ plI A B Z p.B) with
     | false =>
      have HV : Hid (plB A B Z p = false) := Lib.hid (by
       unfold plB
       rw [show okB A B Z p.B = okB A B Z p.B from rfl, HOK.out, hy, hz]
       simp)
      rw [hz] at HPC
      clear HOK HPA hR hxb
      go_wp2_with fail
      refine (HPC.out wr).mono ?_
      rintro _ w2 ⟨rfl, hb2⟩
      dsimp only
      generalize clip (plI A B Z p.B) = k
      go_wp2_with fail
      go_ret2
      exact ⟨.slice none 0 0, by rw [HV.out]; rfl, (fun h => by rw [HV.out] at h; cases h), hbW.trans ((hY.trans (hb2.mono hY.size)).mono (by omega))⟩
     | true =>
      rw [hz, show clip (plI A B Z p.B) = plI A B Z p.B from if_pos (of_decide_eq_true hz)] at HPC
      have HOKt : Hid (okB A B Z p.B = true) := Lib.hid (by rw [HOK.out, hy, hz]; rfl)
      have HPA' : Hid (pla A B Z p.B = [plI A B Z p.B]) := Lib.hid (by rw [HPA.out, if_neg (by simpa using hy)])
      have HLN := Lib.hid hR.out.ow
      have HRR := Lib.hid hR.out
      clear HOK HPA hR hxb hz
      generalize plI A B Z p.B = k at HPC HPA'
      go_wp2_with fail
      refine (HPC.out wr).mono ?_
      rintro _ w2 ⟨rfl, hb2⟩
      dsimp only
      have HB2 := Lib.hid hb2
      clear hb2 e0 e1 e2 e3
      go_wp2_with (at_builtin; refine append_i1 rfl (.tmp 32) (.tmp 34) rfl w1.heap.size v8 _ rfl ((HRR.out.ow.below HB2.out).below ((Below.refl _ _).alloc (Nat.le_refl _) _)) w2.heap.size 1 k rfl (World.cell?_alloc_new _ _ _ 0) (by have := pcl_len A B Z p 1; omega) (by have := HRR.out.lt; have := HB2.out.size; simp; omega) ?_; intro v' w3 hown hg; have HN := Lib.hid (HRR.out.grow1 HB2.out HOKt.out (by rw [HPA'.out]; exact hown) hg); clear hown hg)
      go_roundw
      case rel => exact ⟨1 + 1, by omega, by go_num, HN⟩
      case measure => simp [intOf]
   ·have HV : Hid (plB A B Z p = true) := Lib.hid (by unfold plB; rw [HR0.out, hR.out.okA (by omega), hR.out.okB (by omega)]; rfl)
    have HRR := Lib.hid hR.out
    clear hR
    go_wp2_with fail
    go_ret2
    exact ⟨v8, by rw [HV.out]; rfl, fun _ => HRR.out.ow.more (by have := HRR.out.w1; omega), hbW.trans (HRR.out.be.mono (by omega))⟩
end Sp
end Go.Proofs.YtonhedefjmkpcaaGreatDoor
