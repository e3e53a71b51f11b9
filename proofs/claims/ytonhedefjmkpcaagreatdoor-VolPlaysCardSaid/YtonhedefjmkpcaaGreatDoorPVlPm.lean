import Derived.Test.YtonhedefjmkpcaaGreatDoorPVlPn
/- vol: the law's count. -/
namespace Go.Proofs.YtonhedefjmkpcaaGreatDoor
set_option maxRecDepth 20000
namespace Vp
open Go.RowKit Dk Gm Eqb Rm Vm Di Vl

/-- an element's sectors, as the law counts them -/
def cntE (x : Hd) : Int := (if 0 ≤ x.1.A then 1 else 0) + (if 0 ≤ x.1.B then 1 else 0)
def cntH : List Hd → Int
 | [] => 0
 | x :: H => cntE x + cntH H
theorem cntE_bd (x : Hd) : 0 ≤ cntE x ∧ cntE x ≤ 2 := by
 unfold cntE
 split <;> split <;> omega
theorem cntH_append : ∀ H H' : List Hd, cntH (H ++ H') = cntH H + cntH H'
 | [], H' => by simp [cntH]
 | x :: H, H' => by
  rw [List.cons_append, cntH, cntH, cntH_append H H']
  omega
theorem cntH_bd : ∀ H : List Hd, 0 ≤ cntH H ∧ cntH H ≤ 2 * H.length
 | [] => by simp [cntH]
 | x :: H => by
  have := cntH_bd H
  have := cntE_bd x
  rw [cntH, List.length_cons]
  omega
theorem cntH_step {H : List Hd} {j : Nat} {x : Hd} (h : H[j]? = some x) : cntH (H.take (j + 1)) = cntH (H.take j) + cntE x := by
 obtain ⟨hm, rfl⟩ := List.getElem?_eq_some_iff.1 h
 rw [List.take_succ_eq_append_getElem hm, cntH_append]
 simp [cntH]
theorem El.cnt {X : Dst} {x : Hd} (h : El X x) : cntE x = (Sp.secs x.1).length := by
 rcases h.lay with ⟨e, _⟩ | ⟨_, a, c, e, hp, _, _⟩
 ·unfold cntE
  rw [e]
  rfl
 ·have ha := hp.fa.bd
  unfold cntE
  rw [e]
  show (if 0 ≤ a then (1 : Int) else 0) + (if 0 ≤ c then 1 else 0) = _
  rw [if_pos ha.1]
  rcases hp.fc with rfl | ⟨hc, _⟩
  ·rw [secs_one (p := ⟨a, -1, Pt.sumD x.2⟩) (show a ≠ -1 by omega) rfl]
   rfl
  ·have hc' := hc.bd
   rw [if_pos hc'.1, secs_two (p := ⟨a, c, Pt.sumD x.2⟩) (show a ≠ -1 by omega) (show c ≠ -1 by omega)]
   rfl
theorem cnt_sx {X : Dst} : ∀ {H : List Hd}, (∀ x, x ∈ H → El X x) → cntH H = (sx (ps H)).length
 | [], _ => rfl
 | x :: H, h => by
  show cntE x + cntH H = (Sp.secs x.1 ++ sx (ps H)).length
  rw [(h x (by simp)).cnt, cnt_sx fun y hy => h y (by simp [hy]), List.length_append]
  omega
theorem Py.count {X : Dst} {f : Nat → Int} {H : List Hd} (h : Py X f H) : Sp.usedN 28 184 128 256 f = cntH H := by rw [h.used, cnt_sx h.el]

set_option maxRecDepth 100000 in
set_option maxHeartbeats 4000000 in
theorem lcount_any {w : World} {base : Nat} {ao : Option Addr} {n cap : Nat} {H : List Hd} (ho : OwnH w base (.slice ao n cap) H) (hl : H.length ≤ 100000) :
  Calls Tryz.prog 57 #[.slice ao n cap] w fun e w' => e = .returned (.int .i64 (cntH H)) ∧ Below w.heap.size w w' := by
 have hn := ho.room.2.1
 subst hn
 have HO := Lib.hid ho
 clear ho
 go_enter Tryz.func57, Tryz.ntmps57
 go_wp2_with fail
 go_loopw [3, 4] (fun tv iv wr => ∃ j : Nat, j ≤ H.length ∧ iv = .int .i64 j ∧ tv = .int .i64 (cntH (H.take j)) ∧ Below w.heap.size w wr) (fun _ iv _ => H.length - (intOf iv).toNat)
 case atStart => exact ⟨0, by omega, rfl, rfl, ⟨rfl, rfl, rfl, Nat.le_refl _, fun _ _ => rfl⟩⟩
 case round =>
  obtain ⟨j, hj, rfl, rfl, hb⟩ := hrel
  by_cases hjn : j < H.length
  ·have hjn' : (j : Int) < (H.length : Int) := by omega
   obtain ⟨b, rfl, hbl⟩ := HO.out.at (by omega)
   obtain ⟨x, hx⟩ : ∃ x, H[j]? = some x := ⟨_, List.getElem?_eq_getElem hjn⟩
   obtain ⟨_, c0, c1⟩ := HO.out.ptr hx
   replace c0 := (hb.cell (p := ⟨b, j * 162, none⟩) hbl).trans c0
   replace c1 := (hb.cell (p := ⟨b, j * 162 + 1, none⟩) hbl).trans c1
   have hs := cntH_step hx
   have hbd := cntH_bd (H.take j)
   have hln : (H.take j).length = j := by rw [List.length_take]; omega
   have HB := Lib.hid hb
   unfold cntE at hs
   clear hx hb
   generalize cntH (H.take j) = t at hs hbd ⊢
   by_cases hA : 0 ≤ x.1.A <;> by_cases hB : 0 ≤ x.1.B
   all_goals (
    simp only [hA, hB, if_true, if_false] at hs
    have HS := Lib.hid hs
    clear hs
    go_wp2_with fail
    go_roundw
    case rel => exact ⟨j + 1, by omega, by go_num, by rw [HS.out]; go_num, HB.out⟩
    case measure => simp [intOf]; omega)
  ·obtain rfl : j = H.length := by omega
   rw [List.take_length]
   go_wp2_with fail
   go_ret
   exact ⟨rfl, hb⟩
end Vp
end Go.Proofs.YtonhedefjmkpcaaGreatDoor
/- vol: a play in numbers: no room, what fits, what is got; an element stored in place. -/
namespace Go.Proofs.YtonhedefjmkpcaaGreatDoor
set_option maxRecDepth 20000
namespace Vp
open Go.RowKit Dk Gm Eqb Rm Vm Di Vl

theorem zN_0 {f : Nat → Int} {a : Nat} : ∀ k, (∀ i, i < k → f (a + i) ≠ 0) → Sp.zN f a k = 0
 | 0, _ => rfl
 | k + 1, h => by rw [Sp.zN_no (by simpa using h k (by omega)), zN_0 k fun i hi => h i (by omega)]
theorem ff_0 {A : Int} {F : Nat → Int} {z : Nat} (hA : 0 ≤ A) (h : Sp.ff A F z = -1) : ∀ i, i < z → F i ≠ 0 := by
 by_cases hz : Sp.fz F z < 0
 ·exact Sp.fz_none hz
 ·rw [Sp.ff_yes hz] at h
  omega
/-- where nothing is taken, there is no room -/
theorem full_rm {f : Nat → Int} (hf : Sp.formB 28 184 128 256 f = true) {c : Nat} (hc : c = 1 ∨ c = 2) (h : Sp.tkE 28 184 128 256 f c = 9) :
  (c = 2 → Sp.rm0 28 184 128 256 f = 0 ∨ Sp.rm1 28 184 128 256 f = 0) ∧ (c = 1 → Sp.rm0 28 184 128 256 f = 0 ∧ Sp.rm1 28 184 128 256 f = 0) := by
 have ho : Sp.tpOk 28 184 128 f c = false := by
  cases ho : Sp.tpOk 28 184 128 f c with
  | false => rfl
  | true =>
   have h3 := (Sp.tk_yes (z := 128) hf hc ho).2.2.1
   have h' : Sp.tkE 28 184 (128 : Nat) 256 f c = 9 := h
   rw [h3] at h'
   omega
 have hA : Sp.fA 28 128 f = -1 → Sp.rm0 28 184 128 256 f = 0 := fun e => by
  unfold Sp.rm0
  rw [if_pos hf]
  exact zN_0 128 fun i hi => by rw [Nat.zero_add]; exact ff_0 (by omega) e i hi
 have hB : Sp.fB 184 128 f = -1 → Sp.rm1 28 184 128 256 f = 0 := fun e => by
  unfold Sp.rm1
  rw [if_pos hf]
  exact zN_0 128 fun i hi => ff_0 (by omega) e i hi
 unfold Sp.tpOk Sp.tp0 Sp.tp1 at ho
 rcases hc with rfl | rfl
 ·refine ⟨fun e => by omega, fun _ => ?_⟩
  simp only [if_true, beq_self_eq_true, Bool.true_or, Bool.and_true, Bool.not_eq_false', beq_iff_eq] at ho
  by_cases e : Sp.fA 28 128 f = -1
  ·rw [if_pos e] at ho
   exact ⟨hA e, hB ho⟩
  ·rw [if_neg e] at ho
   exact absurd ho e
 ·refine ⟨fun _ => ?_, fun e => by omega⟩
  rw [if_neg (by omega), if_neg (by omega)] at ho
  simp only [Bool.and_eq_false_iff, Bool.or_eq_false_iff, Bool.not_eq_false', beq_iff_eq] at ho
  rcases ho with e | ⟨_, e⟩
  ·exact .inl (hA e)
  ·exact .inr (hB e)
theorem one_zero {i z : Nat} (hi : i < 128) : Wd.zeroB (one i z) 128 = (z == 0) := by
 by_cases hz : z = 0
 ·subst hz
  exact Wd.zeroB_true.2 fun j _ => by unfold one; split <;> rfl
 ·rw [show (z == 0) = false by simpa using hz]
  exact Wd.zeroB_false (i := i) hi (by unfold one; rw [if_pos rfl]; omega)
theorem one_far {i z k : Nat} (hi : i < 128) (hk : ¬ k < 128) : one i z k = 0 := by unfold one; rw [if_neg (by omega)]
section
variable {X : Dst} {f : Nat → Int} {H : List Hd}
/-- what fits is the same block -/
theorem el_fits {x : Hd} (h : El X x) {i z : Nat} (hi : i < 128) (hz : z < 256) (hf : Pt.fitsB x.1 (one i z) = true) : El X (x.1, one i z) := by
 rcases h.lay with ⟨e, _⟩ | ⟨h0, a, c, e, hp, g1, g2⟩
 ·rw [e, fits_hole] at hf
  exact ⟨⟨i, z, hi, hz, rfl⟩, .inl ⟨e, hf⟩⟩
 ·obtain ⟨i', z', hi', hz', eb⟩ := h.one
  have heq : x.2 = one i z := by
   funext k
   by_cases hk : k < 128
   ·refine Decidable.byContradiction fun hne => ?_
    have h1 := Pk.byte_sum_ne hi' hz' hi hz (D := x.2) (E := one i z) (fun k _ => by rw [eb]; rfl) (fun k _ => rfl) ⟨k, hk, hne⟩
    rw [e, hp.fits] at hf
    rw [hf] at h1
    exact absurd h1 (by decide)
   ·rw [eb, one_far hi' hk, one_far hi hk]
  rw [← heq]
  exact h
theorem Py.same (h : Py X f H) {m : Nat} {x : Hd} (hq : H[m]? = some x) {i z : Nat} (hi : i < 128) (hz : z < 256) (hf : Pt.fitsB x.1 (one i z) = true) : Py X f (H.set m (x.1, one i z)) := by
 obtain ⟨hm, hxe⟩ := List.getElem?_eq_some_iff.1 hq
 have hx : x ∈ H := hxe ▸ List.getElem_mem hm
 refine ⟨h.u, h.c, ?_, fun y hy => ?_⟩
 ·have e : ps (H.set m (x.1, one i z)) = ps H := by
   unfold ps
   rw [List.map_set]
   refine List.ext_getElem? fun j => ?_
   rw [List.getElem?_set]
   split
   ·rename_i ej
    subst ej
    rw [if_pos (by simpa using hm), List.getElem?_map, hq]
    rfl
   ·rfl
  rw [e]
  exact h.nv
 ·rcases List.mem_or_eq_of_mem_set hy with hy | rfl
  ·exact h.el y hy
  ·exact el_fits (h.el x hx) hi hz hf
theorem bt_none (X : Dst) (_hu : Up X) : Di.byt (tV 332 X vM (-1)) := by
 unfold tV rV
 rw [if_neg (by unfold homeB lentB; simp)]
 exact fun i hi => ⟨by show (0 : Int) ≤ 0; omega, by show (0 : Int) < 256; omega⟩
/-- what is got -/
theorem Py.get (h : Py X f H) {x : Hd} (hx : x ∈ H) : ∃ D : Nat → Int, gRes 332 X vM x.1 = ⟨D, 0, 0, X, vM⟩ ∧ (∀ i, i < 128 → D i = x.2 i) ∧ Di.byt (tV 332 X vM x.1.A) ∧ Di.byt (tV 332 X vM x.1.B) := by
 have hE := h.el x hx
 rcases hE.lay with ⟨e, h0⟩ | ⟨_, a, c, e, hp, g1, g2⟩
 ·have hh : homB 332 X vM x.1 = true := by
   rw [e]
   unfold homB
   rw [show formedB 332 X.m X.C = true from h.u.f, rt0]
   rfl
  refine ⟨fun _ => 0, g_hole hh (by rw [e]; rfl), fun i hi => ((Wd.zeroB_true.1 h0) i hi).symm, ?_, ?_⟩
  ·rw [e]; exact bt_none X h.u
  ·rw [e]; exact bt_none X h.u
 ·have hb : Di.byt x.2 := by
   obtain ⟨i', z', hi', hz', eb⟩ := hE.one
   rw [eb]
   intro k _
   unfold one
   split
   ·omega
   ·omega
  obtain ⟨d1, d2⟩ := get_up h.u hp g1
  rw [e]
  refine ⟨_, d1, d2, g1.bts h.u hp.fa hb, ?_⟩
  rcases hp.fc with rfl | ⟨hc, _⟩
  ·exact bt_none X h.u
  ·exact (g2 (by have := hc.bd; omega)).bts h.u hc hb
end
end Vp
end Go.Proofs.YtonhedefjmkpcaaGreatDoor
/- vol: an element of the law's list stored in place. -/
namespace Go.Proofs.YtonhedefjmkpcaaGreatDoor
set_option maxRecDepth 20000
namespace Vl
open Go.RowKit Dk Gm Eqb Rm Vm Di

/-- cells stored into a block, cell by cell -/
theorem blk_setCells {b : Nat} {t : TypeId} : ∀ (vs : List Value) (o : Nat) (w : World) (cur : Array Value), w.heap[b]? = some (.cells cur t (0, 0)) → o + vs.length ≤ cur.size →
  ∃ cur', (w.setCells b o vs).heap[b]? = some (.cells cur' t (0, 0)) ∧ cur'.size = cur.size ∧ ∀ j, cur'[j]? = if o ≤ j ∧ j < o + vs.length then vs[j - o]? else cur[j]?
 | [], o, w, cur, h, _ => ⟨cur, h, rfl, fun j => by rw [if_neg (by rw [List.length_nil]; omega)]⟩
 | v :: r, o, w, cur, h, hl => by
  rw [List.length_cons] at hl
  obtain ⟨cur', h1, h2, h3⟩ := blk_setCells r (o + 1) (w.setCell ⟨b, o, none⟩ v) (cur.setIfInBounds o v) (heap_setCell_same w b o cur t v h) (by simp; omega)
  refine ⟨cur', by rw [World.setCells]; exact h1, by rw [h2]; simp, fun j => ?_⟩
  rw [h3 j, List.length_cons]
  by_cases e : j = o
  ·subst e
   rw [if_neg (by omega), if_pos (by omega), Nat.sub_self, Array.getElem?_setIfInBounds_self_of_lt (by omega)]
   rfl
  ·rw [Array.getElem?_setIfInBounds_ne (by omega)]
   by_cases e2 : o + 1 ≤ j ∧ j < o + 1 + r.length
   ·rw [if_pos e2, if_pos (by omega), show j - o = (j - (o + 1)) + 1 by omega, List.getElem?_cons_succ]
   ·rw [if_neg e2, if_neg (by omega)]
theorem hcs_set : ∀ {H : List Hd} {m : Nat} {y : Hd} (j : Nat), m < H.length → (hcs (H.set m y))[j]? = if m * 162 ≤ j ∧ j < m * 162 + 162 then (hV y)[j - m * 162]? else (hcs H)[j]?
 | [], m, y, j, h => by simp at h
 | x :: H, 0, y, j, _ => by
  show (hV y ++ hcs H)[j]? = if 0 * 162 ≤ j ∧ j < 0 * 162 + 162 then (hV y)[j - 0 * 162]? else (hV x ++ hcs H)[j]?
  by_cases e : j < 162
  ·rw [if_pos (by omega), List.getElem?_append_left (by rw [hV_length]; exact e), Nat.zero_mul, Nat.sub_zero]
  ·rw [if_neg (by omega), List.getElem?_append_right (by rw [hV_length]; omega), List.getElem?_append_right (by rw [hV_length]; omega), hV_length, hV_length]
 | x :: H, m + 1, y, j, h => by
  show (hV x ++ hcs (H.set m y))[j]? = if (m + 1) * 162 ≤ j ∧ j < (m + 1) * 162 + 162 then (hV y)[j - (m + 1) * 162]? else (hV x ++ hcs H)[j]?
  by_cases e : j < 162
  ·rw [if_neg (by omega), List.getElem?_append_left (by rw [hV_length]; exact e), List.getElem?_append_left (by rw [hV_length]; exact e)]
  ·rw [List.getElem?_append_right (by rw [hV_length]; omega), List.getElem?_append_right (by rw [hV_length]; omega), hV_length, hcs_set (j - 162) (by simpa using h)]
   by_cases e2 : m * 162 ≤ j - 162 ∧ j - 162 < m * 162 + 162
   ·rw [if_pos e2, if_pos (by omega), show j - 162 - m * 162 = j - (m + 1) * 162 by omega]
   ·rw [if_neg e2, if_neg (by omega)]
/-- the list behind a store of an element -/
theorem OwnH.put {w : World} {base b n c m : Nat} {H : List Hd} (h : OwnH w base (.slice (some ⟨b, 0, none⟩) n c) H) (hm : m < H.length) (y : Hd) :
  OwnH (w.setCells b (m * 162) (hV y)) base (.slice (some ⟨b, 0, none⟩) n c) (H.set m y) := by
 have hr := h.room
 have hn := hr.2.1
 subst hn
 refine ⟨by rw [hcs_len], .inr ?_⟩
 rcases h.2 with ⟨h1, _⟩ | ⟨g, cap, cur, h1, hb, hg, hn, hc, hs, ht⟩
 ·cases h1
 injection h1 with h1 _ h2
 injection h1 with h1
 injection h1 with h1 _ _
 subst h1
 subst h2
 have hmul : H.length * 162 ≤ c * 162 := Nat.mul_le_mul_right _ hn
 obtain ⟨cur', k1, k2, k3⟩ := blk_setCells (hV y) (m * 162) w cur hg (by rw [hV_length]; omega)
 refine ⟨b, c, cur', by rw [List.length_set], hb, k1, by rw [List.length_set]; exact hn, hc, by rw [k2]; exact hs, ?_⟩
 rw [List.length_set]
 refine List.ext_getElem? fun j => ?_
 rw [hcs_set j hm, ← ht, List.getElem?_take, List.getElem?_take]
 have h3 : cur'.toList[j]? = if m * 162 ≤ j ∧ j < m * 162 + 162 then (hV y)[j - m * 162]? else cur.toList[j]? := by
  have := k3 j
  rw [hV_length] at this
  simpa using this
 rw [h3]
 by_cases e : j < H.length * 162
 ·rw [if_pos e, if_pos e]
 ·rw [if_neg e, if_neg (by omega), if_neg e]
/-- a block of zeros with one byte set -/
theorem set_one {i z : Nat} (hi : i < 128) : (bl fun _ => 0).set i (.int .u8 (z : Int)) = bl (Vp.one i z) := by
 refine List.ext_getElem? fun j => ?_
 rw [List.getElem?_set, bl_length]
 by_cases e : i = j
 ·subst e
  rw [if_pos rfl, if_pos hi, bl_get _ hi]
  unfold Vp.one
  rw [if_pos rfl]
 ·rw [if_neg e]
  by_cases hj : j < 128
  ·rw [bl_get _ hj, bl_get _ hj]
   unfold Vp.one
   rw [if_neg (fun h => e h.symm)]
  ·rw [List.getElem?_eq_none (by rw [bl_length]; omega), List.getElem?_eq_none (by rw [bl_length]; omega)]
theorem one_byt {i z : Nat} (hz : z < 256) : byt (Vp.one i z) := fun j _ => by unfold Vp.one; split <;> omega
end Vl
end Go.Proofs.YtonhedefjmkpcaaGreatDoor
