import Derived.Test.YtonhedefjmkpcaaGreatDoorPVlS
import Derived.Maps.AppendAt
import Derived.Great.BuildSlice
import Derived.Test.YtonhedefjmkpcaaGreatDoorPPkE
import Derived.Test.YtonhedefjmkpcaaGreatDoorPVlNv
import Derived.Test.YtonhedefjmkpcaaGreatDoorPVlQ
/- vol: the law's list of what is held (made from XSpNvW's list of pointers): cells, appends, an element stored in place. -/
namespace Go.Proofs.YtonhedefjmkpcaaGreatDoor
set_option maxRecDepth 20000
namespace Vl
open Go.RowKit Dk Gm Eqb Rm Vm Di Byt

/-- a pointer, and what lay there -/
abbrev Hd := Pt.Pn × (Nat → Int)
def hV (h : Hd) : List Value := Pt.pV h.1 ++ bl h.2
def hd0 : Hd := (Pt.pz, fun _ => 0)
theorem hV_length (h : Hd) : (hV h).length = 162 := by unfold hV; rw [List.length_append, Pt.pV_length, bl_length]
theorem hV_asize (h : Hd) : (hV h).toArray.size = 162 := by simp [hV_length]
theorem hV_one (h : Hd) : ∀ u ∈ hV h, u.oneCell' = true := by
 intro u hu
 rcases List.mem_append.1 hu with h1 | h1
 ·exact Pt.pV_one _ u h1
 ·exact bl_one _ u h1
theorem inf_hd : (Tryz.prog.info? 52).map (fun i => (i.zero, i.size, i.bytes)) = some (some (.agg (hV hd0).toArray), 162, 176) := by kernel_rfl
theorem und_hds : Tryz.prog.underlying 40 = some (.slice 52) := by kernel_rfl
def hcs (H : List Hd) : List Value := H.flatMap hV
theorem hcs_len : ∀ H : List Hd, (hcs H).length = H.length * 162
 | [] => rfl
 | p :: H => by
  show (hV p ++ hcs H).length = _
  rw [List.length_append, hV_length, hcs_len H, List.length_cons]
  omega
theorem hcs_append (H H' : List Hd) : hcs (H ++ H') = hcs H ++ hcs H' := by simp [hcs]
theorem hcs_single (p : Hd) : hcs [p] = hV p := by simp [hcs]
theorem hcs_one (H : List Hd) : ∀ u ∈ hcs H, u.oneCell' = true := by
 intro u hu
 obtain ⟨p, _, hp⟩ := List.mem_flatMap.1 hu
 exact hV_one p u hp
theorem hcs_get : ∀ {H : List Hd} {j r : Nat} {p : Hd} {v : Value}, H[j]? = some p → (hV p)[r]? = some v → (hcs H)[j * 162 + r]? = some v
 | [], j, r, p, v, h, _ => by simp at h
 | q :: H, 0, r, p, v, h, hv => by
  simp at h
  subst h
  have hr : r < 162 := by have := (List.getElem?_eq_some_iff.1 hv).1; rwa [hV_length] at this
  show (hV q ++ hcs H)[0 * 162 + r]? = some v
  rw [Nat.zero_mul, Nat.zero_add, List.getElem?_append_left (by rw [hV_length]; exact hr)]
  exact hv
 | q :: H, j + 1, r, p, v, h, hv => by
  simp at h
  show (hV q ++ hcs H)[(j + 1) * 162 + r]? = some v
  rw [List.getElem?_append_right (by rw [hV_length]; omega), hV_length, show (j + 1) * 162 + r - 162 = j * 162 + r by omega]
  exact hcs_get h hv
theorem hcs_drop {H : List Hd} {k : Nat} (hk : k ≤ H.length) (j : Nat) : (hcs (H.drop k))[j]? = (hcs H)[k * 162 + j]? := by
 have e : hcs H = hcs (H.take k) ++ hcs (H.drop k) := by rw [← hcs_append, List.take_append_drop]
 have l : (hcs (H.take k)).length = k * 162 := by rw [hcs_len, List.length_take, Nat.min_eq_left hk]
 rw [e, List.getElem?_append_right (by omega), l, show k * 162 + j - k * 162 = j by omega]
theorem hcs_take {H : List Hd} {k : Nat} {j : Nat} {u : Value} (h : (hcs (H.take k))[j]? = some u) : (hcs H)[j]? = some u := by
 have e : hcs H = hcs (H.take k) ++ hcs (H.drop k) := by rw [← hcs_append, List.take_append_drop]
 rw [e, List.getElem?_append_left (List.getElem?_eq_some_iff.1 h).1]
 exact h
/-- v is a slice of these pointers, the call's own -/
def OwnH (w : World) (base : Nat) (v : Value) (H : List Hd) : Prop := w.ownsRow base 52 162 v H.length (hcs H)
section
variable {w w' : World} {base : Nat} {v : Value} {H : List Hd}
theorem OwnH.nil (w : World) (base : Nat) : OwnH w base (.slice none 0 0) [] := World.ownsRow_nil _ _ _ _
theorem OwnH.slice (h : OwnH w base v H) : (v = .slice none 0 0 ∧ H = []) ∨ ∃ b cap, v = .slice (some ⟨b, 0, none⟩) H.length cap ∧ base ≤ b ∧ b < w.heap.size ∧ H.length ≤ cap ∧ ∀ j u, (hcs H)[j]? = some u → w.cell? ⟨b, j, none⟩ = some u := by
 have hc := fun (g : Nat) (hg : v.ownBlock = some g) => World.ownsRow.cells h hg
 rcases h.2 with ⟨h1, h2⟩ | ⟨g, cap, cur, h1, hb, hg, hn, _⟩
 ·exact .inl ⟨h1, List.eq_nil_of_length_eq_zero h2⟩
 ·refine .inr ⟨g, cap, h1, hb, (Array.getElem?_eq_some_iff.1 hg).1, hn, fun j u hu => ?_⟩
  have := hc g (by rw [h1]; rfl) j u hu
  rwa [show (⟨g, 0, none⟩ : Addr).add j = ⟨g, j, none⟩ by unfold Addr.add; split <;> simp_all] at this
theorem OwnH.shape (h : OwnH w base v H) : ∃ ao cap, v = .slice ao H.length cap := by
 rcases h.slice with ⟨h1, h2⟩ | ⟨b, cap, h1, _⟩
 ·subst h2; exact ⟨_, _, h1⟩
 ·exact ⟨_, _, h1⟩
end
section
variable {w : World} {base n c b : Nat} {a : Option Addr} {H : List Hd}
theorem OwnH.at (h : OwnH w base (.slice a n c) H) (hn : 0 < H.length) : ∃ b, a = some ⟨b, 0, none⟩ ∧ b < w.heap.size := by
 rcases h.slice with ⟨_, h2⟩ | ⟨b, cap, h1, _, h3, _⟩
 ·rw [h2] at hn; simp at hn
 ·injection h1 with h1 _ _
  exact ⟨b, h1, h3⟩
theorem OwnH.ptr (h : OwnH w base (.slice (some ⟨b, 0, none⟩) n c) H) {m : Nat} {q : Hd} (hq : H[m]? = some q) : w.rangeAt b (m * 162) (hV q) ∧ w.cell? ⟨b, m * 162, none⟩ = some (.int .i64 q.1.A) ∧ w.cell? ⟨b, m * 162 + 1, none⟩ = some (.int .i64 q.1.B) := by
 rcases h.slice with ⟨h1, _⟩ | ⟨b', cap, h1, _, _, _, hc⟩
 ·cases h1
 ·injection h1 with h1 _ _
  injection h1 with h1
  injection h1 with h1 _ _
  subst h1
  exact ⟨fun j v hv => hc _ v (hcs_get hq hv), hc _ _ (by have := hcs_get (r := 0) hq rfl; exact this), hc _ _ (hcs_get (r := 1) hq rfl)⟩
theorem OwnH.room (h : OwnH w base (.slice a n c) H) : H.length ≤ c ∧ n = H.length ∧ c ≤ maxLen := by
 rcases h.2 with ⟨h1, h2⟩ | ⟨g, cap, cur, h1, _, _, hn, hm, _⟩
 ·injection h1 with _ h3 h4
  subst h4
  exact ⟨by omega, by omega, by unfold maxLen; omega⟩
 ·injection h1 with _ h3 h4
  subst h4
  exact ⟨hn, h3, hm⟩
end
theorem news_one (w : World) (p : Hd) (t : TypeId) : ∀ j u, (hcs [p])[j]? = some u → (w.alloc (.cells (hV p).toArray t)).cell? ((⟨w.heap.size, 0, none⟩ : Addr).add j) = some u := by
 rw [hcs_single]
 intro j u hu
 have hadd : (⟨w.heap.size, 0, none⟩ : Addr).add j = ⟨w.heap.size, j, none⟩ := by unfold Addr.add; split <;> simp_all
 rw [hadd, cell_of_row _ w.heap.size j _ t _ (heap_alloc_new w _)]
 simpa using hu
theorem fillH (p : Hd) : Instr.fill (fun i => some (i * 162, 162)) ((Array.range (1 * 162)).map ((Value.agg (hV hd0).toArray).cells[· % (Value.agg (hV hd0).toArray).cells.size]!)) [(0, .agg (hV p).toArray)] = some (hV p).toArray := by kernel_rfl
theorem wpList_sliceH {w : World} {ops : Array Oper} {rest : List Oper} {o : Oper} {a : Act} {Q : Exit → Act → World → Prop} (hgd : o.guard = none) (p : Hd) (x : Operand) (ho : o.op = .buildSlice 40 1 #[(0, x)]) (hx : a.eval x = .agg (hV p).toArray)
  (h : wpList Tryz.prog ops Q rest (a.put o.dst (.slice (some ⟨w.heap.size, 0, none⟩) 1 1)) (w.alloc (.cells (hV p).toArray 52))) : wpList Tryz.prog ops Q (o :: rest) a w := by
 obtain ⟨i0, hi, hz0, hz1, hz2⟩ := info_parts inf_hd
 refine wpList_buildSlice hgd 40 52 1 #[(0, x)] ho _ i0 _ und_hds hi hz0 (by rw [hz1]; decide) (by rw [hz1]; decide) ?_ h
 rw [hz1]
 simp only [List.map_toArray, List.map_cons, List.map_nil, hx]
 exact fillH p
theorem run_app_hds {w : World} {base : Nat} {v : Value} {H L : List Hd} (ty : TypeId) (hown : OwnH w base v H) (ad : Addr) (m c : Nat) (hm : m = L.length) (hnews : ∀ j u, (hcs L)[j]? = some u → w.cell? (ad.add j) = some u) (hlen : H.length + L.length ≤ 1000000) (hbase : base ≤ w.heap.size) :
  ∃ v' w', (Builtin.append_ #[40, 40] ty #[v, .slice (some ad) m c]).run Tryz.prog w = .ok v' w' ∧ OwnH w' base v' (H ++ L) ∧ w.grownBy w' v.ownBlock ∧ (v'.ownBlock = v.ownBlock ∨ v'.ownBlock = some w.heap.size) := by
 obtain ⟨i0, hi, hz0, hz1, hz2⟩ := info_parts inf_hd
 subst hm
 obtain ⟨v', w', h1, h2, h3, _, h5⟩ := run_append_own_at (P := Tryz.prog) w base 40 ty 52 i0 _ 162 176 und_hds hi hz0 hz1 hz2 (by show (hV hd0).toArray.size = 162; exact hV_asize _) (by decide) v H.length (hcs H) hown ad L.length c (hcs L) (hcs_len L) hnews (hcs_one L) (by unfold maxLen; omega) (by omega) hbase
 refine ⟨v', w', h1, ?_, h3, h5⟩
 unfold OwnH
 rw [List.length_append, hcs_append]
 exact h2
theorem wpList_appH {w : World} {ops : Array Oper} {rest : List Oper} {o : Oper} {a : Act} {Q : Exit → Act → World → Prop} (hgd : o.guard = none) (s x : Operand)
  (ho : o.op = .call { callee := .builtin .append, args := #[s, x], argTypes := #[40, 40] }) (base : Nat) (v : Value) (H L : List Hd) (hs : a.eval s = v) (hown : OwnH w base v H)
  (ad : Addr) (m c : Nat) (hx : a.eval x = .slice (some ad) m c) (hm : m = L.length) (hnews : ∀ j u, (hcs L)[j]? = some u → w.cell? (ad.add j) = some u) (hlen : H.length + L.length ≤ 1000000) (hbase : base ≤ w.heap.size)
  (h : ∀ v' w', OwnH w' base v' (H ++ L) → w.grownBy w' v.ownBlock → (v'.ownBlock = v.ownBlock ∨ v'.ownBlock = some w.heap.size) → wpList Tryz.prog ops Q rest (a.put o.dst v') w') : wpList Tryz.prog ops Q (o :: rest) a w := by
 refine wpList_plain hgd fun K hK => ?_
 obtain ⟨v', w', hr, h2, h3, h4⟩ := run_app_hds o.type hown ad m c hm hnews hlen hbase
 unfold Oper.wp execOp
 simp only [ho, resolve, invoke, builtin, Sem.run_bind, Sem.run_pure, Result.andThen_ok, List.map_toArray, List.map_cons, List.map_nil, hs, hx, hr]
 exact hK _ _ (h v' w' h2 h3 h4)
theorem step_appH {w : World} {ops : Array Oper} {o : Oper} {a : Act} {K : Act → World → Prop} {Q : Exit → Act → World → Prop} {E : Prop} (hgd : o.guard = none) (s x : Operand)
  (ho : o.op = .call { callee := .builtin .append, args := #[s, x], argTypes := #[40, 40] }) (base : Nat) (v : Value) (H L : List Hd) (hs : a.eval s = v) (hown : OwnH w base v H)
  (ad : Addr) (m c : Nat) (hx : a.eval x = .slice (some ad) m c) (hm : m = L.length) (hnews : ∀ j u, (hcs L)[j]? = some u → w.cell? (ad.add j) = some u) (hlen : H.length + L.length ≤ 1000000) (hbase : base ≤ w.heap.size)
  (h : ∀ v' w', OwnH w' base v' (H ++ L) → w.grownBy w' v.ownBlock → (v'.ownBlock = v.ownBlock ∨ v'.ownBlock = some w.heap.size) → K (a.put o.dst v') w') : if Region.wanted o (yielded ops a.tmps) = true then Oper.wp Tryz.prog o a w K Q else E := by
 have hw : Region.wanted o (yielded ops a.tmps) = true := by simp [Region.wanted, hgd]
 rw [if_pos hw]
 obtain ⟨v', w', hr, h2, h3, h4⟩ := run_app_hds o.type hown ad m c hm hnews hlen hbase
 unfold Oper.wp execOp
 simp only [ho, resolve, invoke, builtin, Sem.run_bind, Sem.run_pure, Result.andThen_ok, List.map_toArray, List.map_cons, List.map_nil, hs, hx, hr]
 exact h v' w' h2 h3 h4
theorem drew_alloc (w : World) (o : Obj) : Below w.heap.size w (w.alloc o).drew := ((Below.refl _ _).alloc (Nat.le_refl _) o).trans ⟨rfl, rfl, rfl, Nat.le_refl _, fun _ _ => rfl⟩
theorem own_none (w : World) : OwnH ((w.alloc (.cells #[] 52)).drew) w.heap.size (.slice (some ⟨w.heap.size, 0, none⟩) 0 0) [] := World.ownsRow_lit w #[] 0 (Nat.le_refl _) (by unfold maxLen; omega) rfl
/-- in a region that draws: append of a whole slice, the new value written out -/
theorem step_apqH {w : World} {ops : Array Oper} {o : Oper} {a : Act} {K : Act → World → Prop} {Q : Exit → Act → World → Prop} {E : Prop} (hgd : o.guard = none) (s x : Operand)
  (ho : o.op = .call { callee := .builtin .append, args := #[s, x], argTypes := #[40, 40] }) (base : Nat) (v : Value) (H L L' : List Hd) (n' : Nat) (hs : a.eval s = v) (hown : OwnH w base v H)
  (ad : Addr) (m c : Nat) (hx : a.eval x = .slice (some ad) m c) (hm : m = L.length) (hL : H ++ L = L') (hn : n' = L'.length) (hnews : ∀ j u, (hcs L)[j]? = some u → w.cell? (ad.add j) = some u) (hlen : H.length + L.length ≤ 1000000) (hbase : base ≤ w.heap.size)
  (h : ∀ a' c' w', OwnH w' base (.slice a' n' c') L' → w.grownBy w' v.ownBlock → K (a.put o.dst (.slice a' n' c')) w') : if Region.wanted o (yielded ops a.tmps) = true then Oper.wp Tryz.prog o a w K Q else E := by
 refine step_appH hgd s x ho base v H L hs hown ad m c hx hm hnews hlen hbase ?_
 intro v' w' ho' hg _
 subst hn
 rw [hL] at ho'
 obtain ⟨a', c', rfl⟩ := ho'.shape
 exact h a' c' w' ho' hg

theorem hV_all (h : Hd) : (hV h).toArray.all (·.oneCell') = true := all_oneCell_toArray (hV_one h)
theorem sizeH' (h : Hd) : (Tryz.prog.info? 52).map (·.size) = some (hV h).toArray.size := by rw [hV_asize]; kernel_rfl
end Vl
end Go.Proofs.YtonhedefjmkpcaaGreatDoor
/- Blocks of one byte: unlike ones have unlike sums. -/
namespace Go.Proofs.YtonhedefjmkpcaaGreatDoor
set_option maxRecDepth 20000
namespace Pk
open Go.RowKit Sha Byt Eqb

theorem a_bd {t : Nat} (ht : t < L) : 0 ≤ (sumS (tab 128 (dt t))).a ∧ (sumS (tab 128 (dt t))).a < 4294967296 := by
 rw [← fin_lane ht]
 have : Nat.land (Nat.shiftRight fin (64 * t)) 4294967295 ≤ 4294967295 := Nat.and_le_right
 omega
theorem sumB_first (S : S8) (i : Nat) (h : i < 4) : sumB S i = S.a / 2 ^ (24 - 8 * i) % 256 := by
 match i, h with
 | 0, _ | 1, _ | 2, _ | 3, _ => rfl
 | i + 4, h => omega
/-- two of the blocks, unlike, have unlike sums -/
theorem sum_ne {t u : Nat} (ht : t < L) (hu : u < L) (h : t ≠ u) : eqB 32 (Pt.sumD (dt t)) (Pt.sumD (dt u)) = false := by
 cases e : eqB 32 (Pt.sumD (dt t)) (Pt.sumD (dt u)) with
 | false => rfl
 | true =>
  exfalso
  have hs := eqB_iff.1 e
  have hne := first_ne ht hu h
  have b1 := a_bd ht
  have b2 := a_bd hu
  have h0 := hs 0 (by omega)
  have h1 := hs 1 (by omega)
  have h2 := hs 2 (by omega)
  have h3 := hs 3 (by omega)
  unfold Pt.sumD at h0 h1 h2 h3
  rw [sumB_first _ _ (by omega), sumB_first _ _ (by omega)] at h0 h1 h2 h3
  generalize (sumS (tab 128 (dt t))).a = a at *
  generalize (sumS (tab 128 (dt u))).a = c at *
  simp at h0 h1 h2 h3
  omega
/-- a block of a byte y at a place p, as one of them -/
def ln (p y : Nat) : Nat := if y = 0 then 0 else 1 + 255 * p + (y - 1)
theorem ln_lt {p y : Nat} (hp : p < 128) (hy : y < 256) : ln p y < L := by
 unfold ln L
 split <;> omega
theorem ln_dt {p y : Nat} (hp : p < 128) (hy : y < 256) (i : Nat) : dt (ln p y) i = if i = p then (y : Int) else 0 := by
 unfold ln dt
 by_cases h0 : y = 0
 ·subst h0
  simp
 ·rw [if_neg h0]
  by_cases h1 : i = p
  ·rw [if_pos (by omega), if_pos h1]
   omega
  ·rw [if_neg (by omega), if_neg h1]
theorem ln_inj {p y q z : Nat} (hp : p < 128) (hy : y < 256) (hq : q < 128) (hz : z < 256) (h : ln p y = ln q z) : ∀ i, (if i = p then (y : Int) else 0) = if i = q then (z : Int) else 0 := fun i => by
 rw [← ln_dt hp hy, ← ln_dt hq hz, h]
/-- one byte each, unlike somewhere: unlike sums -/
theorem byte_sum_ne {p y q z : Nat} (hp : p < 128) (hy : y < 256) (hq : q < 128) (hz : z < 256) {D E : Nat → Int} (hD : ∀ i, i < 128 → D i = if i = p then (y : Int) else 0) (hE : ∀ i, i < 128 → E i = if i = q then (z : Int) else 0)
  (hne : ∃ i, i < 128 ∧ D i ≠ E i) : eqB 32 (Pt.sumD D) (Pt.sumD E) = false := by
 have sD : Pt.sumD D = Pt.sumD (dt (ln p y)) := by
  have e : tab 128 D = tab 128 (dt (ln p y)) := List.map_congr_left fun i hi => by rw [hD i (List.mem_range.1 hi), ln_dt hp hy]
  unfold Pt.sumD
  rw [e]
 have sE : Pt.sumD E = Pt.sumD (dt (ln q z)) := by
  have e : tab 128 E = tab 128 (dt (ln q z)) := List.map_congr_left fun i hi => by rw [hE i (List.mem_range.1 hi), ln_dt hq hz]
  unfold Pt.sumD
  rw [e]
 rw [sD, sE]
 refine sum_ne (ln_lt hp hy) (ln_lt hq hz) fun e => ?_
 obtain ⟨i, hi, hn⟩ := hne
 rw [hD i hi, hE i hi] at hn
 exact hn (ln_inj hp hy hq hz e i)
end Pk
end Go.Proofs.YtonhedefjmkpcaaGreatDoor
/- vol: a play in numbers: what is held, and what the calls come to. -/
namespace Go.Proofs.YtonhedefjmkpcaaGreatDoor
set_option maxRecDepth 20000
namespace Vp
open Go.RowKit Dk Gm Eqb Rm Vm Di Vl

/-- a block of at most one byte that isn't 0 -/
def one (i z : Nat) : Nat → Int := fun j => if j = i then (z : Int) else 0
/-- what stands of an element: a hole, or a pointer to sectors that hold the block -/
structure El (X : Dst) (h : Hd) : Prop where
 one : ∃ i z : Nat, i < 128 ∧ z < 256 ∧ h.2 = Vp.one i z
 lay : (h.1 = Pt.hole ∧ Wd.zeroB h.2 128 = true) ∨ (Wd.zeroB h.2 128 = false ∧ ∃ a c, h.1 = ⟨a, c, Pt.sumD h.2⟩ ∧ Ps a c ∧ Vm.Good X h.2 a ∧ (c ≠ -1 → Vm.Good X h.2 c))
def ps (H : List Hd) : List Pt.Pn := H.map (·.1)
def Fl : Int → Prop := fun _ => False
/-- a healthy volume and what is held of it -/
structure Py (X : Dst) (f : Nat → Int) (H : List Hd) : Prop where
 u : Up X
 c : Vm.Clean X
 nv : NvV f (sx (ps H)) Fl Fl Fl
 el : ∀ h, h ∈ H → El X h
theorem rg_pl {x : Int} (h : 0 ≤ Sp.plI 28 184 128 x) : Rg x := by
 unfold Sp.plI at h
 unfold Rg
 split at h
 ·omega
 ·split at h <;> omega
theorem NvV.perm {f : Nat → Int} {S S' : List Int} {K G D : Int → Prop} (h : NvV f S K G D) (p : S.Perm S') : NvV f S' K G D :=
 ⟨h.bd, fun x hx => h.ok x (p.mem_iff.2 hx), p.nodup_iff.1 h.nd, by rw [h.cnt, p.length_eq], h.kp, h.gn, h.go⟩
theorem sx_perm {H H' : List Hd} (p : H.Perm H') : (sx (ps H)).Perm (sx (ps H')) := (p.map _).flatMap_right _
theorem secs_hole : Sp.secs Pt.hole = [] := rfl
theorem ps_append (H H' : List Hd) : ps (H ++ H') = ps H ++ ps H' := by simp [ps]
section
variable {X : Dst} {f : Nat → Int} {H H' : List Hd}
theorem Py.perm (h : Py X f H) (p : H.Perm H') : Py X f H' := ⟨h.u, h.c, h.nv.perm (sx_perm p), fun x hx => h.el x (p.mem_iff.2 hx)⟩
theorem Py.form (h : Py X f H) : Sp.formB 28 184 128 256 f = true := h.nv.form
theorem py_start : Py vX1 (fun _ => 0) [] := ⟨fresh_up.2.1, fresh_up.2.2.2.1, nv_start, fun x hx => by simp at hx⟩
/-- a block of zeros is a hole -/
theorem Py.hole (h : Py X f H) {i z : Nat} (hi : i < 128) (hz : z < 256) (hb : Wd.zeroB (one i z) 128 = true) : Py X f (H ++ [(Pt.hole, one i z)]) := by
 refine ⟨h.u, h.c, ?_, fun x hx => ?_⟩
 ·have e : sx (ps (H ++ [(Pt.hole, one i z)])) = sx (ps H) := by rw [ps_append, sx_append]; show _ ++ [] = _; rw [List.append_nil]
  rw [e]
  exact h.nv
 ·rcases List.mem_append.1 hx with hx | hx
  ·exact h.el x hx
  ·rw [List.mem_singleton] at hx
   subst hx
   exact ⟨⟨i, z, hi, hz, rfl⟩, .inl ⟨rfl, hb⟩⟩
theorem secs_ps {a c : Int} (h : Ps a c) (q : Nat → Int) : a ∈ Sp.secs ⟨a, c, q⟩ ∧ (c ≠ -1 → c ∈ Sp.secs ⟨a, c, q⟩) ∧ ∀ x, x ∈ Sp.secs ⟨a, c, q⟩ → x = a ∨ x = c := by
 have ha := h.fa.bd
 unfold Sp.secs Sp.sec1
 rw [if_neg (show a ≠ -1 by omega)]
 refine ⟨by simp, fun hc => by rw [if_neg hc]; simp, fun x hx => ?_⟩
 split at hx <;> simp at hx <;> omega
/-- a block is laid, or there is no room -/
theorem Py.add (h : Py X f H) {c : Nat} (hc : c = 1 ∨ c = 2) (hm : X.m ≤ 1000) {i z : Nat} (hi : i < 128) (hz : z < 256) (hb : Wd.zeroB (one i z) 128 = false) :
  (Sp.tkE 28 184 128 256 f c = 9 ∧ Sp.tkF 28 184 128 256 f c = f) ∨
  ∃ (a1 b1 : Int) (X' : Dst), Sp.tkp 28 184 128 256 f c = a1 ∧ Sp.tkq 28 184 128 256 f c = b1 ∧ Sp.tkE 28 184 128 256 f c = 0 ∧ pRes 332 X vM (one i z) a1 b1 = ⟨⟨a1, b1, Pt.sumD (one i z)⟩, 0, X', vM⟩ ∧
   Ok 23 (wRes 332 X vM a1 (one i z)).2.1 ∧ TabOk (wRes 332 X vM a1 (one i z)).2.2 ∧ X'.m ≤ X.m + 2 ∧ Py X' (Sp.tkF 28 184 128 256 f c) (H ++ [(⟨a1, b1, Pt.sumD (one i z)⟩, one i z)]) := by
 rcases tk_never h.nv hc with ⟨h1, h2⟩ | ⟨p, hp, h1, h2, h3, h4, h5, h6, h7⟩
 ·exact .inl ⟨h1, h2⟩
 right
 have hsA : p.A ≠ -1 := by have := hp.a; omega
 have hmA : p.A ∈ Sp.secs p := by unfold Sp.secs Sp.sec1; rw [if_neg hsA]; simp
 have hrA : Rg p.A := rg_pl (h7.ok p.A (by simp [hmA])).1
 have hps : Ps p.A p.B := by
  refine ⟨hrA, ?_⟩
  by_cases hB : p.B = -1
  ·exact .inl hB
  ·have hmB : p.B ∈ Sp.secs p := by unfold Sp.secs Sp.sec1; rw [if_neg hB]; simp
   refine .inr ⟨rg_pl (h7.ok p.B (by simp [hmB])).1, fun e => ?_⟩
   have h8 := (List.nodup_append.1 h7.nd).2.1
   rw [secs_two hsA hB, e] at h8
   simp at h8
 obtain ⟨X', hres, hu, hcl, hm', hga, hgc, hold, hok2, hm2⟩ := put_res (D := one i z) h.u h.c hps hm
 refine ⟨p.A, p.B, X', h1, h2, h3, hres, hok2, hm2, hm', hu, hcl, ?_, fun x hx => ?_⟩
 ·have e : sx (ps (H ++ [((⟨p.A, p.B, Pt.sumD (one i z)⟩ : Pt.Pn), one i z)])) = sx (ps H) ++ Sp.secs p := by rw [ps_append, sx_append]; show _ ++ (Sp.secs p ++ []) = _; rw [List.append_nil]
  rw [e]
  exact h7
 ·rcases List.mem_append.1 hx with hx | hx
  ·have hE := h.el x hx
   refine ⟨hE.one, ?_⟩
   rcases hE.lay with hl | ⟨hz0, a, c', e, hpp, g1, g2⟩
   ·exact .inl hl
   ·obtain ⟨m1, m2, _⟩ := secs_ps hpp (Pt.sumD x.2)
    have hin : ∀ y, y ∈ Sp.secs x.1 → y ≠ p.A ∧ y ≠ p.B := fun y hy => by
     have hyS : y ∈ sx (ps H) := sx_mem (List.mem_map.2 ⟨x, hx, rfl⟩) hy
     refine ⟨fun e2 => ?_, fun e2 => ?_⟩
     ·exact (h6 p.A hmA).1 (e2 ▸ hyS)
     ·by_cases hB : p.B = -1
      ·have := (h.nv.ok y hyS).1
       have := (pos_lt this).2
       omega
      ·exact (h6 p.B (by unfold Sp.secs Sp.sec1; rw [if_neg hB]; simp)).1 (e2 ▸ hyS)
    rw [e] at hin
    obtain ⟨i1, i2⟩ := hin a m1
    exact .inr ⟨hz0, a, c', e, hpp, hold _ _ i1 i2 g1, fun hne => hold _ _ (hin c' (m2 hne)).1 (hin c' (m2 hne)).2 (g2 hne)⟩
  ·rw [List.mem_singleton] at hx
   subst hx
   exact ⟨⟨i, z, hi, hz, rfl⟩, .inr ⟨hb, p.A, p.B, rfl, hps, hga, hgc⟩⟩
theorem us_ix (h : Py X f H) {x : Hd} (hx : x ∈ H) {y : Int} (hy : y ∈ Sp.secs x.1) : Sp.us (f (ix y)) = true := (h.nv.ok y (sx_mem (List.mem_map.2 ⟨x, hx, rfl⟩) hy)).2
/-- what is held is the volume's own -/
theorem Py.mine (h : Py X f H) {x : Hd} (hx : x ∈ H) : mn 332 X vM 28 184 128 256 f x.1 = true := by
 rcases (h.el x hx).lay with ⟨e, _⟩ | ⟨_, a, c, e, hp, _, _⟩
 ·rw [e]
  exact mn_hole h.u h.form
 ·obtain ⟨m1, m2, _⟩ := secs_ps hp (Pt.sumD x.2)
  have := fun y => us_ix h hx (y := y)
  rw [e] at this ⊢
  exact mn_up h.u h.form hp (this a m1) (fun hc => this c (m2 hc)) _
theorem ps_parts {m : Nat} {x : Hd} (hq : H[m]? = some x) : sx (ps H) = sx (ps (H.take m)) ++ Sp.secs x.1 ++ sx (ps (H.drop (m + 1))) := by
 have h1 := sx_parts (H := ps H) (m := m) (q := x.1) (by unfold ps; rw [List.getElem?_map, hq]; rfl)
 rw [h1]
 unfold ps
 rw [List.map_take, List.map_drop]
theorem dr_hole {f : Nat → Int} (hf : Sp.formB 28 184 128 256 f = true) : Sp.drE 28 184 128 256 f Pt.hole = 0 ∧ Sp.drF 28 184 128 256 f Pt.hole = f := by
 have hb : Sp.drB 28 184 128 256 f Pt.hole = true := by rw [dr_secs hf]; rfl
 unfold Sp.drE Sp.drF
 rw [hb]
 exact ⟨rfl, rfl⟩
/-- an element is dropped -/
theorem Py.drop (h : Py X f H) {m : Nat} {x : Hd} (hq : H[m]? = some x) : Sp.drE 28 184 128 256 f x.1 = 0 ∧ Py X (Sp.drF 28 184 128 256 f x.1) (H.take m ++ H.drop (m + 1)) := by
 obtain ⟨hm, hxe⟩ := List.getElem?_eq_some_iff.1 hq
 have hx : x ∈ H := hxe ▸ List.getElem_mem hm
 have hel : ∀ y, y ∈ H.take m ++ H.drop (m + 1) → El X y := fun y hy => by
  rcases List.mem_append.1 hy with hy | hy
  ·exact h.el y (List.mem_of_mem_take hy)
  ·exact h.el y (List.mem_of_mem_drop hy)
 have hnv := h.nv
 rw [ps_parts hq] at hnv
 rcases (h.el x hx).lay with ⟨e, _⟩ | ⟨_, a, c, e, hp, _, _⟩
 ·obtain ⟨d1, d2⟩ := dr_hole h.form
  rw [e] at hnv ⊢
  rw [d1, d2]
  refine ⟨rfl, h.u, h.c, ?_, hel⟩
  rw [ps_append, sx_append]
  rwa [secs_hole, List.append_nil] at hnv
 ·have hh : Hp x.1 := by
   rw [e]
   have ha := hp.fa.bd
   refine ⟨by show 0 ≤ a; omega, ?_, by show a < 4096; omega, ?_⟩
   ·show -1 ≤ c
    rcases hp.fc with hc | ⟨hc, _⟩
    ·omega
    ·have := hc.bd; omega
   ·show c < 4096
    rcases hp.fc with hc | ⟨hc, _⟩
    ·omega
    ·have := hc.bd; omega
  obtain ⟨d1, d2⟩ := dr_never hnv hh
  refine ⟨d1, h.u, h.c, ?_, hel⟩
  rw [ps_append, sx_append]
  exact d2.weak (fun _ hx => hx) (fun _ hx => hx.elim) (fun _ hx => hx.elim)
theorem Py.sweep (h : Py X f H) : Sp.okE (Sp.formB 28 184 128 256 f) = 0 ∧ Py X (Sp.swF Sp.swN 28 184 128 256 f) H := by
 rw [h.form]
 exact ⟨rfl, h.u, h.c, h.nv.swept, h.el⟩
/-- another in its stead, behind an Add -/
theorem Py.swap {y : Hd} (h : Py X f (H ++ [y])) {m : Nat} {x : Hd} (hq : H[m]? = some x) : Sp.drE 28 184 128 256 f x.1 = 0 ∧ Py X (Sp.drF 28 184 128 256 f x.1) (H.set m y) := by
 obtain ⟨hm, _⟩ := List.getElem?_eq_some_iff.1 hq
 obtain ⟨d1, d2⟩ := h.drop (m := m) (x := x) (by rw [List.getElem?_append_left hm]; exact hq)
 refine ⟨d1, d2.perm ?_⟩
 rw [List.take_append_of_le_length (by omega), List.drop_append_of_le_length (by omega), List.set_eq_take_append_cons_drop, if_pos hm, ← List.append_assoc]
 exact List.Perm.trans List.perm_append_comm (by
  show (y :: (H.take m ++ H.drop (m + 1))).Perm _
  exact List.perm_middle.symm)
/-- as many sectors are in use as are counted -/
theorem Py.used (h : Py X f H) : Sp.usedN 28 184 128 256 f = (sx (ps H)).length := h.nv.used
end
end Vp
end Go.Proofs.YtonhedefjmkpcaaGreatDoor
