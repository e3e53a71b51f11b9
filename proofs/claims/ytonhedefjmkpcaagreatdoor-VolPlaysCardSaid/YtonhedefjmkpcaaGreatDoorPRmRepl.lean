import Derived.Test.YtonhedefjmkpcaaGreatDoorPJRb
import Derived.Test.YtonhedefjmkpcaaGreatDoorPJDk
import Derived.Test.YtonhedefjmkpcaaGreatDoorPJDn
import Derived.DeepKeys
import Derived.Test.YtonhedefjmkpcaaGreatDoorPVlC
import Derived.Test.YtonhedefjmkpcaaGreatDoorPJSpB
import Derived.Test.YtonhedefjmkpcaaGreatDoorPQTail2
/- remap: replaced. -/
namespace Go.Proofs.YtonhedefjmkpcaaGreatDoor
set_option maxRecDepth 20000
namespace Rm
open Go.RowKit Dk

theorem slice_pr : Tryz.prog.underlying 28 = some (.slice 189) := by kernel_rfl
theorem info_pr : (Tryz.prog.info? 189).map (fun i => (i.zero, i.size, i.bytes)) = some (some (.agg #[.int .i64 0, .int .i64 0]), 2, 16) := by kernel_rfl
theorem eqlnilP (w : World) (a : Option Addr) (l c : Nat) : (binOp .eql 28 (.slice a l c) (.slice none 0 0)).run Tryz.prog w = .ok (.bool a.isNone) w := by
 simp only [binOp]
 simp [run_equal_slice_nil w _ _ a l c slice_pr]
attribute [local go_sem] eqlnilP
theorem prV_length (F T : Nat → Int) (i : Nat) : (prV F T i).length = 2 := rfl
theorem prV_one (F T : Nat → Int) (i : Nat) : ∀ u ∈ prV F T i, u.oneCell' = true := by
 intro u hu
 simp only [prV, List.mem_cons, List.not_mem_nil, or_false] at hu
 rcases hu with rfl | rfl <;> rfl

set_option maxRecDepth 100000 in
set_option maxHeartbeats 1000000 in
theorem cloneP_any (g : Nat) (ao : Option Addr) (n cap : Nat) (F T : Nat → Int) (w : World) (hl : Lay w w.heap.size g ao n cap 2 (prV F T)) (hn : n * 16 ≤ 140737488355328) :
  Calls Tryz.prog 204 #[.slice ao n cap] w fun e w' => ∃ ao' cap', e = .returned (.slice ao' n cap') ∧ w'.ownsRow w.heap.size 189 2 (.slice ao' n cap') n (flat (prV F T) n) ∧ Below w.heap.size w w' := by
 cases ao with
 | none =>
  have hc := hl.nil rfl
  have h0 : n = 0 := by have := hl.room; omega
  subst h0 hc
  clear hl hn
  go_enter Tryz.func204, Tryz.ntmps204
  go_wp2_with fail
  go_ret
  exact ⟨none, 0, rfl, World.ownsRow_nil _ _ _ _, Below.refl _ _⟩
 | some ad =>
  obtain ⟨i0, hi, hz0, hz1, hz2⟩ := info_parts info_pr
  have HL := Lib.hid hl
  clear hl
  go_enter Tryz.func204, Tryz.ntmps204
  go_wp2_with (at_builtin; go_loud (refine append_lay rfl (.tmp 5) (.tmp 6) 28 189 i0 _ 2 16 rfl slice_pr hi hz0 hz1 hz2 rfl (by omega) w.heap.size _ [] 0 rfl (World.ownsRow_lit w #[] 0 (Nat.le_refl _) (by decide) rfl) w.heap.size g (some ad) n cap (prV F T) rfl (HL.out.keep fun b hb _ => Below.heap_alloc _ _ _ hb) (fun i _ => prV_length _ _ _) (fun i _ => prV_one _ _ _) (maxLen_ge (by omega)) (by omega) (by simp) ?_); intro v' w' hown hg)
  have hown' : w'.ownsRow w.heap.size 189 2 v' n (flat (prV F T) n) := by simpa using hown
  have hb : Below w.heap.size w w' := ((Below.refl _ _).alloc (Nat.le_refl _) _).grown hg (by simp) (by
   intro k hk
   injection hk with hk
   subst hk
   exact Nat.le_refl _)
  obtain ⟨ao', cap', rfl⟩ : ∃ ao' cap', v' = .slice ao' n cap' := by
   rcases hown'.2 with ⟨hv, hn0⟩ | ⟨b, cap', cur, hv, _⟩
   ·exact ⟨none, 0, by rw [hv, hn0]⟩
   ·exact ⟨_, cap', hv⟩
  go_ret
  exact ⟨ao', cap', rfl, hown', hb⟩

def rpK (F : Nat → Int) (k : Nat) (x : Int) : Nat := if 0 ≤ findI F x k then k else k + 1
def rpF (F : Nat → Int) (k : Nat) (x : Int) (i : Nat) : Int := if 0 ≤ findI F x k then F i else if i = k then x else F i
def rpT (F T : Nat → Int) (k : Nat) (x to : Int) (i : Nat) : Int := if 0 ≤ findI F x k then if i = (findI F x k).toNat then to else T i else if i = k then to else T i
theorem rp_found {F T : Nat → Int} {k : Nat} {x to : Int} {j : Nat} (h : findI F x k = (j : Int)) : rpK F k x = k ∧ rpF F k x = F ∧ rpT F T k x to = fun i => if i = j then to else T i := by
 unfold rpK rpF rpT
 rw [h]
 simp
theorem rp_new {F T : Nat → Int} {k : Nat} {x to : Int} (h : findI F x k < 0) : rpK F k x = k + 1 ∧ rpF F k x = (fun i => if i = k then x else F i) ∧ rpT F T k x to = fun i => if i = k then to else T i := by
 have h' : ¬ 0 ≤ findI F x k := by omega
 refine ⟨?_, ?_, ?_⟩
 ·unfold rpK; rw [if_neg h']
 ·funext i; unfold rpF; rw [if_neg h']
 ·funext i; unfold rpT; rw [if_neg h']
theorem flat_new (F T : Nat → Int) (k : Nat) (x to : Int) : flat (prV F T) k ++ flat (fun _ => [.int .i64 x, .int .i64 to]) 1 = flat (prV (fun i => if i = k then x else F i) (fun i => if i = k then to else T i)) (k + 1) := by
 rw [flat_succ (prV (fun i => if i = k then x else F i) (fun i => if i = k then to else T i)) k]
 have h1 : flat (prV (fun i => if i = k then x else F i) (fun i => if i = k then to else T i)) k = flat (prV F T) k := flat_congr fun i hi => by
  have e : ¬ i = k := by omega
  simp [prV, e]
 rw [h1]
 simp [flat, prV]
theorem flat_pr (F T : Nat → Int) {k i : Nat} (hi : i < k * 2) : (flat (prV F T) k)[i]? = some (if i % 2 = 0 then .int .i64 (F (i / 2)) else .int .i64 (T (i / 2))) := by
 have h0 : i / 2 * 2 + i % 2 = i := by omega
 by_cases e : i % 2 = 0
 ·rw [if_pos e]
  have := flat_get (T := prV F T) (k := 2) (n := k) (i := i / 2) (r := 0) (v := .int .i64 (F (i / 2))) (fun _ _ => rfl) (by omega) rfl
  rwa [show i / 2 * 2 + 0 = i by omega] at this
 ·rw [if_neg e]
  have := flat_get (T := prV F T) (k := 2) (n := k) (i := i / 2) (r := 1) (v := .int .i64 (T (i / 2))) (fun _ _ => rfl) (by omega) rfl
  rwa [show i / 2 * 2 + 1 = i by omega] at this
theorem flat_put (F T : Nat → Int) {k j : Nat} (_hj : j < k) (to : Int) : (flat (prV F T) k).set (j * 2 + 1) (.int .i64 to) = flat (prV F (fun i => if i = j then to else T i)) k := by
 have hlen : ∀ T', (flat (prV F T') k).length = k * 2 := fun T' => flat_length fun _ _ => rfl
 apply List.ext_getElem?
 intro i
 by_cases hi : i < k * 2
 ·rw [flat_pr _ _ hi]
  by_cases e : i = j * 2 + 1
  ·subst e
   rw [List.getElem?_set_self (by rw [hlen]; exact hi), if_neg (by omega), if_pos (by omega)]
  ·rw [List.getElem?_set_ne (fun h => e h.symm), flat_pr _ _ hi]
   by_cases e2 : i % 2 = 0
   ·rw [if_pos e2, if_pos e2]
   ·rw [if_neg e2, if_neg e2, if_neg (by omega)]
 ·rw [List.getElem?_eq_none (by rw [List.length_set, hlen]; omega), List.getElem?_eq_none (by rw [hlen]; omega)]
theorem owns_set {w : World} {B b k cap : Nat} {F T : Nat → Int} {j : Nat} (h : w.ownsRow B 189 2 (.slice (some ⟨b, 0, none⟩) k cap) k (flat (prV F T) k)) (hj : j < k) (to : Int) :
  (w.setCell ⟨b, j * 2 + 1, none⟩ (.int .i64 to)).ownsRow B 189 2 (.slice (some ⟨b, 0, none⟩) k cap) k (flat (prV F (fun i => if i = j then to else T i)) k) := by
 refine ⟨flat_length fun _ _ => rfl, ?_⟩
 rcases h.2 with ⟨hv, _⟩ | ⟨g, c', cur, hv, hb, hg, hn, hm, hcs, ht⟩
 ·cases hv
 ·injection hv with h1 h2 h3
  injection h1 with h1
  injection h1 with h1
  subst h1 h3
  refine .inr ⟨b, cap, cur.setIfInBounds (j * 2 + 1) (.int .i64 to), rfl, hb, heap_setCell_same w b (j * 2 + 1) cur _ _ hg, hn, hm, by simp [hcs], ?_⟩
  rw [Array.toList_setIfInBounds, List.take_set, ht, flat_put F T hj]
theorem owns_cells {w : World} {B k : Nat} {v : Value} {F T : Nat → Int} {j : Nat} (h : w.ownsRow B 189 2 v k (flat (prV F T) k)) (hj : j < k) :
  ∃ b cap, v = .slice (some ⟨b, 0, none⟩) k cap ∧ B ≤ b ∧ b < w.heap.size ∧ w.cell? ⟨b, j * 2 + 1, none⟩ = some (.int .i64 (T j)) ∧ (∀ i, w.frozen? ⟨b, i, none⟩ = false) ∧ k ≤ cap := by
 have hlt := h.lt
 rcases h.2 with ⟨_, h0⟩ | ⟨b, cap, cur, hv, hb, hg, hn, hm, hcs, ht⟩
 ·omega
 ·subst hv
  refine ⟨b, cap, rfl, hb, (hlt b rfl).2, ?_, fun i => frozen_of_row w b i _ _ hg, hn⟩
  rw [cell_of_row w b _ cur _ _ hg]
  have h1 := flat_pr F T (k := k) (i := j * 2 + 1) (by omega)
  rw [if_neg (by omega), show (j * 2 + 1) / 2 = j by omega, ← ht, List.getElem?_take, if_pos (by omega)] at h1
  simpa using h1
theorem results_rp {tmps : Array Value} {w : World} {B : Nat} {u : Array Value} {fn : Func} (hf : fn.results = #[.cell 6 30]) (h2 : tmps.getD 6 undef = .pointer (some ⟨B, 0, none⟩))
  (hA : w.heap[B]? = some (.cells u 30 (0, 0))) (su : u.size = 2) : (results fn tmps).run Tryz.prog w = .ok (.agg u) w := by
 have h2' : tmps[6]?.getD undef = .pointer (some ⟨B, 0, none⟩) := by simpa using h2
 have k2 := run_loadVar_row (P := Tryz.prog) w B 30 30 u (0, 0) _ hA Tryz.underlying30 rfl (by rw [su]; kernel_rfl)
 simp [results, hf, h2', asAddr, k2]
theorem tb_one (gen : Int) (a : Option Addr) (n c : Nat) : (#[.int .i64 gen, .slice a n c] : Array Value).all (·.oneCell') = true := by simp [Value.oneCell']

theorem one_lay (w : World) (x to : Int) : Lay (w.alloc (.cells #[.int .i64 x, .int .i64 to] 189)) (w.heap.size + 1) (w.heap.size + 1) (some ⟨w.heap.size, 0, none⟩) 1 1 2 (fun _ => [.int .i64 x, .int .i64 to]) := by
 exact ⟨Nat.le_refl _, (fun e => by cases e), .inr ⟨w.heap.size, 0, rfl, by omega, by omega, fun i hi j v hv => by
  obtain rfl : i = 0 := by omega
  rw [cell_of_row _ _ _ _ _ _ (heap_alloc_new w _), Nat.zero_mul, Nat.add_zero, Nat.zero_add]
  simpa using hv⟩⟩

/-- a table whose pairs lie in new memory, from block B on -/
def NewTab (w : World) (B : Nat) (gen : Int) (k : Nat) (F T : Nat → Int) (v : Value) : Prop := ∃ ao cap, v = .agg #[.int .i64 gen, .slice ao k cap] ∧ w.ownsRow B 189 2 (.slice ao k cap) k (flat (prV F T) k)

set_option maxRecDepth 100000 in
set_option maxHeartbeats 4000000 in
theorem replaced_any (gen : Int) (k : Nat) (F T : Nat → Int) (pa : Option Addr) (cap g : Nat) (x to : Int) (w : World) (hl : Lay w w.heap.size g pa k cap 2 (prV F T)) (hk : k ≤ 1000000) (hg0 : 0 ≤ gen) (hg1 : gen ≤ 4611686018427387904) :
  Calls Tryz.prog 192 #[.agg #[.int .i64 gen, .slice pa k cap], .int .i64 x, .int .i64 to] w fun e w' => (∃ v, e = .returned v ∧ NewTab w' w.heap.size (gen + 1) (rpK F k x) (rpF F k x) (rpT F T k x to) v) ∧ Below w.heap.size w w' := by
 have HL := Lib.hid hl
 clear hl
 have hbd := find_bd F x k
 have HFO := Lib.hid (fun j h => @rp_found F T k x to j h)
 have HNE := Lib.hid (@rp_new F T k x to)
 obtain ⟨i0, hi, hz0, hz1, hz2⟩ := info_parts info_pr
 go_enter Tryz.func192, Tryz.ntmps192
 go_wp2_with fail
 generalize hW : (w.alloc (.cells #[.int .i64 gen, .slice pa k cap] 30)).alloc (.cells #[.int .i64 0, .slice none 0 0] 30) = W
 have hB0 : Below w.heap.size w W := by rw [← hW]; exact ((Below.refl _ _).alloc (Nat.le_refl _) _).alloc (by simp) _
 have hx0 : W.heap[w.heap.size]? = some (.cells #[.int .i64 gen, .slice pa k cap] 30 (0, 0)) := by rw [← hW]; exact (Below.heap_alloc _ _ _ (by simp)).trans (heap_alloc_new w _)
 have hr0 : W.heap[w.heap.size + 1]? = some (.cells #[.int .i64 0, .slice none 0 0] 30 (0, 0)) := by
  rw [← hW]
  have := heap_alloc_new (w.alloc (.cells #[.int .i64 gen, .slice pa k cap] 30)) (.cells #[.int .i64 0, .slice none 0 0] 30)
  rwa [World.size_alloc] at this
 have hs0 : W.heap.size = w.heap.size + 2 := by rw [← hW]; simp
 clear hW
 refine (cloneP_any g pa k cap F T W ((HL.out.below hB0).more (by omega)) (by omega)).mono ?_
 rintro _ w1 ⟨ao1, cap1, rfl, hO1, hb1⟩
 have hx1 := (hb1.block w.heap.size (by omega)).trans hx0
 have hr1 := (hb1.block (w.heap.size + 1) (by omega)).trans hr0
 have hs1 := hb1.size
 have hB1 : Below w.heap.size w w1 := hB0.trans (hb1.mono (by omega))
 have hL1 := lay_own (g := w1.heap.size) (fun i _ => prV_length F T i) hO1 (.inr (Nat.le_refl _))
 clear hB0 hb1 hx0 hr0
 dsimp only
 go_wp2_with fail
 refine (find_any k F T ao1 cap1 w1.heap.size x w1 hL1 (by omega)).mono ?_
 rintro _ w2 ⟨rfl, hb2⟩
 have hx2 := (hb2.block w.heap.size (by omega)).trans hx1
 have hr2 := (hb2.block (w.heap.size + 1) (by omega)).trans hr1
 have hs2 := hb2.size
 have hB2 := hB1.trans (hb2.mono hB1.size)
 have hO2 := owns_below hO1 hb2
 have c0 : w2.cell? ⟨w.heap.size, 0, none⟩ = some (.int .i64 gen) := by rw [cell_of_row _ _ _ _ _ _ hx2]; rfl
 clear hx1 hr1 hb2 hO1 hL1 hB1 hx2
 generalize findI F x k = fi at hbd HFO HNE ⊢
 obtain ⟨hf0, hf1, _⟩ := hbd
 dsimp only
 by_cases hf : 0 ≤ fi
 ·obtain ⟨j, rfl⟩ : ∃ j : Nat, fi = j := ⟨fi.toNat, by omega⟩
  have HR := Lib.hid (HFO.out j rfl)
  have hj : j < k := by omega
  obtain ⟨b, cb, hv, hb1, hb2, dT, dZ, hkc⟩ := owns_cells hO2 hj
  injection hv with hv1 hv2 hv3
  subst hv1 hv3
  have hj0 : (0 : Int) ≤ (j : Int) := by omega
  have hj1 : (j : Int) < (k : Int) := by omega
  have dZ1 := dZ (j * 2 + 1)
  have HO3 := Lib.hid (owns_set hO2 hj to)
  have hwb : w.heap.size ≤ b := by omega
  have hwb1 : w.heap.size + 1 ≠ b := by omega
  have hwb0 : w.heap.size ≠ b := by omega
  have hB3 : Below w.heap.size w (w2.setCell ⟨b, j * 2 + 1, none⟩ (.int .i64 to)) := hB2.setCell hwb _
  have hr3 : (w2.setCell ⟨b, j * 2 + 1, none⟩ (.int .i64 to)).heap[w.heap.size + 1]? = some (.cells #[.int .i64 0, .slice none 0 0] 30 (0, 0)) := (Below.heap_setCell _ _ _ _ hwb1).trans hr2
  have c0' : (w2.setCell ⟨b, j * 2 + 1, none⟩ (.int .i64 to)).cell? ⟨w.heap.size, 0, none⟩ = some (.int .i64 gen) := (World.cell?_of_block (Below.heap_setCell _ _ _ _ hwb0)).trans c0
  clear dZ hO2 hB2 hr2 HFO HNE
  go_wp2_with (refine wpList_store_row rfl 30 (.tmp 6) (.tmp 32) rfl (w.heap.size + 1) #[.int .i64 (gen + 1), .slice (some ⟨b, 0, none⟩) k cap1] rfl rfl 30 _ hr3 (by kernel_rfl) rfl (tb_one _ _ _ _) ?_; simp only [Act.put])
  generalize w2.setCell ⟨b, j * 2 + 1, none⟩ (.int .i64 to) = w3 at HO3 hB3 hr3 ⊢
  have hr4 := setRow_heap w3 (w.heap.size + 1) _ #[.int .i64 (gen + 1), .slice (some ⟨b, 0, none⟩) k cap1] 30 (0, 0) hr3
  refine bodyPost_ret (results_rp rfl rfl hr4 rfl) rfl ?_
  refine ⟨⟨_, rfl, some ⟨b, 0, none⟩, cap1, by rw [HR.out.1], ?_⟩, hB3.trans ⟨rfl, rfl, rfl, by simp, fun i hi => setRow_other w3 _ i _ (by omega)⟩⟩
  rw [HR.out.1, HR.out.2.1, HR.out.2.2]
  have hg : w3.grownBy (w3.setRow (w.heap.size + 1) #[.int .i64 (gen + 1), .slice (some ⟨b, 0, none⟩) k cap1]) (some (w.heap.size + 1)) := ⟨rfl, rfl, rfl, by simp, fun i _ hr => setRow_other _ _ _ _ (by simpa using hr)⟩
  exact owns_mono (HO3.out.kept hg (.inr (by simp [Value.ownBlock]; omega))) (by omega)
 ·have HR := Lib.hid (HNE.out (by omega))
  have HO := Lib.hid hO2
  have HB := Lib.hid hB2
  have hwl : w.heap.size + 1 < w2.heap.size := by omega
  have c0' : ∀ o, (w2.alloc o).cell? ⟨w.heap.size, 0, none⟩ = some (.int .i64 gen) := fun o => (World.cell?_alloc_lt _ _ _ (by show w.heap.size < w2.heap.size; omega)).trans c0
  have HC3 := Lib.hid (fun (w3 : World) (hg : (w2.alloc (.cells #[.int .i64 x, .int .i64 to] 189)).grownBy w3 (Value.slice ao1 k cap1).ownBlock) => show w3.cell? ⟨w.heap.size, 0, none⟩ = some (.int .i64 gen) ∧ w3.heap[w.heap.size + 1]? = some (.cells #[.int .i64 0, .slice none 0 0] 30 (0, 0)) ∧ Below w.heap.size w w3 from by
   have hne : ∀ q, q < W.heap.size → some q ≠ (Value.slice ao1 k cap1).ownBlock := fun q hq e => by
    have := (HO.out.lt q e.symm).1
    omega
   have e0 := hg.block w.heap.size (by simp; omega) (hne _ (by omega))
   have e1 := hg.block (w.heap.size + 1) (by simp; omega) (hne _ (by omega))
   exact ⟨(World.cell?_of_block (a := ⟨w.heap.size, 0, none⟩) e0).trans (c0' _), e1.trans ((Below.heap_alloc _ _ _ hwl).trans hr2), (HB.out.alloc HB.out.size _).grown hg (by simp; omega) (fun q hq => by have := (HO.out.lt q hq).1; omega)⟩)
  clear hO2 hB2 HFO HNE c0
  go_wp2_with (first | (at_builtin; go_loud (refine append_lay rfl (.tmp 22) (.tmp 26) 28 189 i0 _ 2 16 rfl slice_pr hi hz0 hz1 hz2 rfl (by omega) W.heap.size (.slice ao1 k cap1) (flat (prV F T) k) k rfl ((owns_below HO.out ((Below.refl _ _).alloc (Nat.le_refl _) _))) (w2.heap.size + 1) (w2.heap.size + 1) (some ⟨w2.heap.size, 0, none⟩) 1 1 (fun _ => [.int .i64 x, .int .i64 to]) rfl (one_lay w2 x to) (fun _ _ => rfl) (fun _ _ => by simp [Value.oneCell']) (maxLen_ge (by omega)) (by omega) (by simp; omega) ?_); intro v' w3 hO3 hg3; obtain ⟨e0, e1, e2⟩ := HC3.out w3 hg3; obtain ⟨ao3, cap3, rfl⟩ := owns_slice hO3) | (refine wpList_store_row rfl 30 (.tmp 6) (.tmp 32) rfl (w.heap.size + 1) #[.int .i64 (gen + 1), .slice ao3 (k + 1) cap3] rfl rfl 30 _ e1 (by kernel_rfl) rfl (tb_one _ _ _ _) ?_; simp only [Act.put]))
  have hr4 := setRow_heap w3 (w.heap.size + 1) _ #[.int .i64 (gen + 1), .slice ao3 (k + 1) cap3] 30 (0, 0) e1
  refine bodyPost_ret (results_rp rfl rfl hr4 rfl) rfl ?_
  refine ⟨⟨_, rfl, ao3, cap3, by rw [HR.out.1], ?_⟩, e2.trans ⟨rfl, rfl, rfl, by simp, fun i hi => setRow_other w3 _ i _ (by omega)⟩⟩
  rw [HR.out.1, HR.out.2.1, HR.out.2.2, ← flat_new]
  have hg : w3.grownBy (w3.setRow (w.heap.size + 1) #[.int .i64 (gen + 1), .slice ao3 (k + 1) cap3]) (some (w.heap.size + 1)) := ⟨rfl, rfl, rfl, by simp, fun i _ hr => setRow_other _ _ _ _ (by simpa using hr)⟩
  refine owns_mono (hO3.kept hg ?_) (by omega)
  cases eo : (Value.slice ao3 (k + 1) cap3).ownBlock with
  | none => exact .inl rfl
  | some q => exact .inr (by have := (hO3.lt q eo).1; simp; omega)
end Rm
end Go.Proofs.YtonhedefjmkpcaaGreatDoor
/- remap: the reference's Copy. -/
namespace Go.Proofs.YtonhedefjmkpcaaGreatDoor
set_option maxRecDepth 20000
namespace Rm
open Go.RowKit Dk

end Rm
end Go.Proofs.YtonhedefjmkpcaaGreatDoor
/- remap: the reference's Same, of what is the same. -/
namespace Go.Proofs.YtonhedefjmkpcaaGreatDoor
set_option maxRecDepth 20000
namespace Rm
open Go.RowKit Dk

end Rm
end Go.Proofs.YtonhedefjmkpcaaGreatDoor
/- vol: the reference's Copy and Same (made by tools/gen_vlcopy.py). -/
namespace Go.Proofs.YtonhedefjmkpcaaGreatDoor
set_option maxRecDepth 20000
namespace Vl
open Go.RowKit Dk Gm Eqb Byt Rm

theorem own_only {w w' : World} {base : Nat} {t : TypeId} {q : Nat} {v : Value} {n : Nat} {l : List Value} {b : Nat} (h : w.ownsRow base t q v n l) (hg : w.grownBy w' (some b)) (hb : b < base) : w'.ownsRow base t q v n l :=
 h.kept hg (by
  cases e : v.ownBlock with
  | none => exact .inl rfl
  | some c => exact .inr fun hc => by injection hc with hc; have := (h.lt c e).1; omega)
theorem owns_more {w : World} {B B' : Nat} {e : TypeId} {k n : Nat} {v : Value} {xs : List Value} (h : w.ownsRow B e k v n xs) (hb : B' ≤ B) : w.ownsRow B' e k v n xs := by
 refine ⟨h.1, ?_⟩
 rcases h.2 with h2 | ⟨g, cap, cur, hv, hb', h5⟩
 ·exact .inl h2
 ·exact .inr ⟨g, cap, cur, hv, by omega, h5⟩
section
variable {w w' : World} {base base' b : Nat} {n m : Nat} {S : Nat → Sec} {C : Nat → Wr} {fu : Int} {d : Bool} {gen : Int} {k : Nat} {F T : Nat → Int} {A B Z : Int} {kk : Nat} {f : Nat → Int} {u : Value} {sa ca pa ao : Option Addr} {sc cc cap kc : Nat}
end
theorem undV : Tryz.prog.underlying 36 = some (.struct (Tryz.prog.fieldsOf 36)) := by kernel_rfl
theorem zvV (w : World) : (zeroValue 36).run Tryz.prog w = .ok (.agg #[.slice none 0 0, .slice none 0 0, .int .i64 0, .bool false, .int .i64 0, .slice none 0 0, .int .i64 0, .int .i64 0, .int .i64 0, .slice none 0 0]) w :=
 (zero_of_info (P := Tryz.prog) (t := 36) (v := .agg #[.slice none 0 0, .slice none 0 0, .int .i64 0, .bool false, .int .i64 0, .slice none 0 0, .int .i64 0, .int .i64 0, .int .i64 0, .slice none 0 0]) (n := 10) (by kernel_rfl)).1 w

section
variable {w W : World} {n m : Nat} {S : Nat → Sec} {C : Nat → Wr} {fu : Int} {d : Bool} {gen : Int} {k : Nat} {F T : Nat → Int} {A B Z : Int} {kk : Nat} {f : Nat → Int} {sa : Option Addr} {sc : Nat} {ca : Option Addr} {cc : Nat} {pa : Option Addr} {cap : Nat} {ao : Option Addr} {kc : Nat} {L : Nat → Bool} {u0 u1 u2 u3 u4 u5 u6 u7 u8 u9 : Value} {w' w'' : World}
end
end Vl
end Go.Proofs.YtonhedefjmkpcaaGreatDoor
