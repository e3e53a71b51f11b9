import Derived.Test.YtonhedefjmkpcaaGreatDoorPJWd
import Derived.Test.YtonhedefjmkpcaaGreatDoorPJSh
import Derived.Test.YtonhedefjmkpcaaGreatDoorPDkMem
import Derived.Maps.OwnSet
import Derived.Maps.Views
/- remap: tables as numbers: halves, pairs, bytes. -/
namespace Go.Proofs.YtonhedefjmkpcaaGreatDoor
set_option maxRecDepth 20000
namespace Rm
open Go.RowKit Byt

def halfN (s : Int) : Int := if s < 28 ∨ 4096 < s ∨ s % 2 ≠ 0 then 0 else (s - 20) / 2
theorem halfN_bd (s : Int) : 0 ≤ halfN s ∧ halfN s ≤ 2038 ∧ (halfN s ≠ 0 → 4 ≤ halfN s ∧ s = 2 * halfN s + 20) := by
 unfold halfN
 split
 ·omega
 ·omega
def lentB (h n : Int) : Bool := decide (0 ≤ n) && decide (n < 2 * h) && decide (2 ≤ n % h)
theorem lent_bd {h n : Int} (hl : lentB h n = true) : 0 ≤ n ∧ n < 2 * h ∧ 2 ≤ n % h := by simpa [lentB, and_assoc] using hl
def pairB (h s f t : Int) : Bool := lentB h f && decide (2 * h ≤ t) && decide (t < s)
def pairsB (h s : Int) (F T : Nat → Int) : Nat → Bool
 | 0 => true
 | j + 1 => pairsB h s F T j && pairB h s (F j) (T j)
/-- none of the first n is x -/
def noneB (F : Nat → Int) (x : Int) : Nat → Bool
 | 0 => true
 | j + 1 => noneB F x j && decide (F j ≠ x)
/-- all of the first n are unlike -/
def distB (F : Nat → Int) : Nat → Bool
 | 0 => true
 | j + 1 => distB F j && noneB F (F j) j
theorem noneB_iff {F : Nat → Int} {x : Int} : ∀ {n}, noneB F x n = true ↔ ∀ i, i < n → F i ≠ x
 | 0 => by simp [noneB]
 | n + 1 => by
  simp only [noneB, Bool.and_eq_true, decide_eq_true_eq, noneB_iff (n := n)]
  constructor
  ·rintro ⟨h1, h2⟩ i hi
   by_cases e : i = n
   ·subst e; exact h2
   ·exact h1 i (by omega)
  ·intro h
   exact ⟨fun i hi => h i (by omega), h n (by omega)⟩
theorem distB_iff {F : Nat → Int} : ∀ {n}, distB F n = true ↔ ∀ i k, i < n → k < n → i ≠ k → F i ≠ F k
 | 0 => by simp [distB]
 | n + 1 => by
  simp only [distB, Bool.and_eq_true, distB_iff (n := n), noneB_iff]
  constructor
  ·rintro ⟨h1, h2⟩ i k hi hk hik
   by_cases e : i = n
   ·subst e; exact fun h => h2 k (by omega) h.symm
   ·by_cases e2 : k = n
    ·subst e2; exact h2 i (by omega)
    ·exact h1 i k (by omega) (by omega) hik
  ·intro h
   exact ⟨fun i k hi hk => h i k (by omega) (by omega), fun i hi => h i n (by omega) (by omega) (by omega)⟩
theorem pairsB_iff {h s : Int} {F T : Nat → Int} : ∀ {n}, pairsB h s F T n = true ↔ ∀ i, i < n → pairB h s (F i) (T i) = true
 | 0 => by simp [pairsB]
 | n + 1 => by
  simp only [pairsB, Bool.and_eq_true, pairsB_iff (n := n)]
  constructor
  ·rintro ⟨h1, h2⟩ i hi
   by_cases e : i = n
   ·subst e; exact h2
   ·exact h1 i (by omega)
  ·intro h
   exact ⟨fun i hi => h i (by omega), h n (by omega)⟩
/-- is it a right table -/
def rightB (s gen : Int) (n : Nat) (F T : Nat → Int) : Bool :=
 decide (halfN s ≠ 0) && decide (0 ≤ gen) && decide (gen ≤ 4611686018427387904) && decide (n ≤ 20) && pairsB (halfN s) s F T n && distB F n && distB T n
theorem right_parts {s gen : Int} {n : Nat} {F T : Nat → Int} (h : rightB s gen n F T = true) : halfN s ≠ 0 ∧ 0 ≤ gen ∧ gen ≤ 4611686018427387904 ∧ n ≤ 20 ∧ pairsB (halfN s) s F T n = true ∧ distB F n = true ∧ distB T n = true := by
 simpa [rightB, and_assoc] using h
/-- the first of the first n that is x; -1: none -/
def findI (F : Nat → Int) (x : Int) : Nat → Int
 | 0 => -1
 | j + 1 => if 0 ≤ findI F x j then findI F x j else if F j = x then j else -1
theorem find_none {F : Nat → Int} {x : Int} : ∀ {n}, noneB F x n = true → findI F x n = -1
 | 0, _ => rfl
 | n + 1, h => by
  simp only [noneB, Bool.and_eq_true, decide_eq_true_eq] at h
  simp only [findI, find_none h.1]
  rw [if_neg (by omega), if_neg h.2]
theorem find_at {F : Nat → Int} {x : Int} {j : Nat} (h0 : noneB F x j = true) (h1 : F j = x) : ∀ {n}, j < n → findI F x n = j
 | 0, h => by omega
 | n + 1, h => by
  by_cases e : j = n
  ·subst e
   simp only [findI, find_none h0]
   rw [if_neg (by omega), if_pos h1]
  ·simp only [findI, find_at h0 h1 (n := n) (by omega)]
   rw [if_pos (by omega)]
theorem find_bd (F : Nat → Int) (x : Int) : ∀ n : Nat, -1 ≤ findI F x n ∧ findI F x n < n ∧ (0 ≤ findI F x n → F (findI F x n).toNat = x)
 | 0 => by simp [findI]
 | n + 1 => by
  obtain ⟨h1, h2, h3⟩ := find_bd F x n
  simp only [findI]
  split
  ·exact ⟨h1, by omega, h3⟩
  ·split
   ·rename_i e
    exact ⟨by omega, by omega, fun _ => by rw [Int.toNat_natCast]; exact e⟩
   ·exact ⟨by omega, by omega, by omega⟩
/-- the sector that stands for x -/
def atT (F T : Nat → Int) (n : Nat) (x : Int) : Int := if 0 ≤ findI F x n then T (findI F x n).toNat else x

/-- a table's bytes, but for the sum -/
def head (gen : Int) (n : Nat) : Nat → Int := put (Wd.putF 128 1 8 gen (put (fun _ => 0) 0 109)) 9 n
def pairsD (F T : Nat → Int) (D : Nat → Int) : Nat → Nat → Int
 | 0 => D
 | j + 1 => Wd.putF 128 (12 + 4 * j) 2 (T j) (Wd.putF 128 (10 + 4 * j) 2 (F j) (pairsD F T D j))
def tabD (gen : Int) (n : Nat) (F T : Nat → Int) : Nat → Int := pairsD F T (head gen n) n
/-- .. with the sum of the first 96 of them behind these -/
def sealD (D : Nat → Int) : Nat → Int := mix D 96 32 (Sha.sumB (Sha.sumS (tab 96 D)))
def putV (s gen : Int) (n : Nat) (F T : Nat → Int) : Nat → Int := if rightB s gen n F T then sealD (tabD gen n F T) else fun _ => 0
def putEr (s gen : Int) (n : Nat) (F T : Nat → Int) : Int := if rightB s gen n F T then 0 else 1

end Rm
end Go.Proofs.YtonhedefjmkpcaaGreatDoor
/- remap: Half, lent, tableAt, and the reference's Half, Usable. -/
namespace Go.Proofs.YtonhedefjmkpcaaGreatDoor
set_option maxRecDepth 20000
namespace Rm
open Go.RowKit

set_option maxHeartbeats 400000 in
theorem half_any (s : Int) (w : World) : Calls Tryz.prog 126 #[.int .i64 s] w fun e w' => e = .returned (.int .i64 (halfN s)) ∧ Below w.heap.size w w' := by
 by_cases h1 : s < 28
 ·have hv : halfN s = 0 := by unfold halfN; rw [if_pos (.inl h1)]
  rw [hv]
  clear hv
  go_enter Tryz.func126, Tryz.ntmps126
  go_wp2_with fail
  go_ret
  exact ⟨rfl, Below.refl _ _⟩
 by_cases h2 : 4096 < s
 ·have hv : halfN s = 0 := by unfold halfN; rw [if_pos (.inr (.inl h2))]
  rw [hv]
  clear hv
  go_enter Tryz.func126, Tryz.ntmps126
  go_wp2_with fail
  go_ret
  exact ⟨rfl, Below.refl _ _⟩
 have h0 : 0 ≤ s := by omega
 by_cases h3 : s % 2 = 0
 ·have hv : halfN s = (s - 20) / 2 := by unfold halfN; rw [if_neg (by omega)]
  have h3' : (s % 2 == 0) = true := by simpa using h3
  have h3'' : (s % 2 != 0) = false := by simpa using h3
  rw [hv]
  clear hv h3
  go_enter Tryz.func126, Tryz.ntmps126
  go_wp2_with fail
  go_ret
  exact ⟨rfl, Below.refl _ _⟩
 ·have hv : halfN s = 0 := by unfold halfN; rw [if_pos (.inr (.inr h3))]
  have h3' : (s % 2 == 0) = false := by simpa using h3
  have h3'' : (s % 2 != 0) = true := by simpa using h3
  rw [hv]
  clear hv h3
  go_enter Tryz.func126, Tryz.ntmps126
  go_wp2_with fail
  go_ret
  exact ⟨rfl, Below.refl _ _⟩

set_option maxHeartbeats 400000 in
theorem lent_any (h n : Int) (w : World) (h0 : 0 ≤ h) (h1 : h ≤ 4096) : Calls Tryz.prog 127 #[.int .i64 h, .int .i64 n] w fun e w' => e = .returned (.bool (lentB h n)) ∧ Below w.heap.size w w' := by
 by_cases n0 : n < 0
 ·have hv : lentB h n = false := by unfold lentB; rw [decide_eq_false (by omega)]; rfl
  rw [hv]
  clear hv
  have n0' : ¬ 0 ≤ n := by omega
  go_enter Tryz.func127, Tryz.ntmps127
  go_wp2_with fail
  go_ret
  exact ⟨rfl, Below.refl _ _⟩
 have n0' : 0 ≤ n := by omega
 by_cases n1 : n < 2 * h
 ·have hp : 0 < h := by omega
  have hv : lentB h n = decide (2 ≤ n % h) := by unfold lentB; rw [decide_eq_true n0', decide_eq_true n1]; rfl
  rw [hv]
  clear hv
  have hm : 0 ≤ n % h := Int.emod_nonneg _ (by omega)
  go_enter Tryz.func127, Tryz.ntmps127
  go_wp2_with fail
  go_ret
  exact ⟨rfl, Below.refl _ _⟩
 ·have hv : lentB h n = false := by unfold lentB; rw [decide_eq_false (p := n < 2 * h) n1]; simp
  rw [hv]
  clear hv
  go_enter Tryz.func127, Tryz.ntmps127
  go_wp2_with fail
  go_ret
  exact ⟨rfl, Below.refl _ _⟩

theorem tableAt_any (h gen c : Int) (w : World) (h0 : 0 ≤ h) (h1 : h ≤ 4096) (g0 : 0 ≤ gen) (c0 : 0 ≤ c) (c1 : c ≤ 1) : Calls Tryz.prog 118 #[.int .i64 h, .int .i64 gen, .int .i64 c] w fun e w' => e = .returned (.int .i64 (c * h + gen % 2)) ∧ Below w.heap.size w w' := by
 have hc : c = 0 ∨ c = 1 := by omega
 rcases hc with rfl | rfl
 all_goals
  go_enter Tryz.func118, Tryz.ntmps118
  go_wp2_with fail
  go_ret
  exact ⟨by simp, Below.refl _ _⟩
end Rm
end Go.Proofs.YtonhedefjmkpcaaGreatDoor
/- remap: sets of numbers as maps. -/
namespace Go.Proofs.YtonhedefjmkpcaaGreatDoor
set_option maxRecDepth 20000
namespace Rm
open Go.RowKit Go.Maps Go.WideShapes

abbrev DU := DataW Unit
def unitD : DU := .agg []
def keysL (F : Nat → Int) (n : Nat) : List Lit := (List.range n).map fun i => Lit.int .i64 (F i)
theorem keysL_succ (F : Nat → Int) (n : Nat) : keysL F (n + 1) = keysL F n ++ [Lit.int .i64 (F n)] := by simp [keysL, List.range_succ]
theorem keysL_key (F : Nat → Int) (n : Nat) : ∀ x ∈ keysL F n, WideAt.IsKeyLit x := by
 intro x hx
 simp only [keysL, List.mem_map] at hx
 obtain ⟨i, _, rfl⟩ := hx
 trivial
/-- the set of the first n -/
def setD (F : Nat → Int) (n : Nat) : DU := setOf unitD (keysL F n)
theorem setD_succ (F : Nat → Int) (n : Nat) : setD F (n + 1) = (setD F n).put (Lit.int .i64 (F n)) unitD := by rw [setD, keysL_succ, setOf_snoc]; rfl
theorem same_int (a b : Int) : (Lit.int .i64 a).sameKey (Lit.int .i64 b) = decide (a = b) := by simp [Lit.sameKey]
theorem setD_has (F : Nat → Int) (n : Nat) (z : Int) : Maps.has (setD F n) (Lit.int .i64 z) = !noneB F z n := by
 rw [setD, has_setOf _ _ _ (keysL_key F n)]
 induction n with
 | zero => rfl
 | succ n ih =>
  rw [keysL_succ, List.any_append, ih]
  simp only [List.any_cons, List.any_nil, Bool.or_false, same_int, noneB, Bool.not_and]
  by_cases e : F n = z <;> simp [e]
def accL (F : Nat → Int) (n : Nat) : List Lit := (keysL F n).foldl addKey []
theorem accL_succ (F : Nat → Int) (n : Nat) : accL F (n + 1) = addKey (accL F n) (Lit.int .i64 (F n)) := by rw [accL, keysL_succ, List.foldl_append]; rfl
theorem accL_any (F : Nat → Int) (z : Int) : ∀ n, (accL F n).any (fun y => y.sameKey (Lit.int .i64 z)) = !noneB F z n
 | 0 => rfl
 | n + 1 => by
  have ih := accL_any F z n
  rw [accL_succ, addKey]
  have ih2 := accL_any F (F n) n
  cases h : noneB F (F n) n with
  | true =>
   rw [h] at ih2
   rw [ih2, if_neg (by simp), List.any_append, ih]
   simp only [List.any_cons, List.any_nil, Bool.or_false, same_int, noneB, Bool.not_and]
   by_cases e : F n = z <;> simp [e]
  | false =>
   rw [h] at ih2
   rw [ih2, if_pos (by simp), ih]
   simp only [noneB]
   by_cases e : F n = z
   ·rw [← e, h]; rfl
   ·simp [e]
theorem accL_len (F : Nat → Int) : ∀ n, (accL F n).length ≤ n ∧ ((accL F n).length = n ↔ distB F n = true)
 | 0 => by simp [accL, keysL, distB]
 | n + 1 => by
  obtain ⟨h1, h2⟩ := accL_len F n
  have h3 := accL_any F (F n) n
  rw [accL_succ, addKey, h3]
  simp only [distB, Bool.and_eq_true, ← h2]
  cases h : noneB F (F n) n with
  | true =>
   rw [if_neg (by simp), List.length_append]
   simp only [List.length_singleton, and_true]
   omega
  | false =>
   rw [if_pos (by simp)]
   simp only [Bool.false_eq_true, and_false, iff_false]
   omega
theorem setD_size (F : Nat → Int) (n : Nat) : Maps.size (setD F n) ≤ n ∧ (Maps.size (setD F n) = n ↔ distB F n = true) := by
 rw [setD, size_setOf _ _ (keysL_key F n)]
 exact accL_len F n

theorem map_t : Tryz.prog.underlying 187 = some (.map 3 190) := by kernel_rfl
theorem int_t : Tryz.prog.underlying 3 = some (.int .i64) := by kernel_rfl
theorem key_int : Keyed Tryz.prog 3 := int_keyed int_t
theorem i64_wf {z : Int} (h : -9223372036854775808 ≤ z ∧ z ≤ 9223372036854775807) : (Lit.int .i64 z).wf = true := by
 have h1 : IntKind.i64.min = -9223372036854775808 := rfl
 have h2 : IntKind.i64.max = 9223372036854775807 := rfl
 simp only [Lit.wf, Bool.and_eq_true, decide_eq_true_eq]
 omega
theorem key_of {z : Int} (h : -9223372036854775808 ≤ z ∧ z ≤ 9223372036854775807) : keyOf Tryz.prog 3 (.int .i64 z) = some (.int .i64 z) := keyOf_int_mk int_t (i64_wf h)
/-- block b is the set of F's first n -/
def IsSet (w : World) (b : Nat) (F : Nat → Int) (n : Nat) : Prop := w.ownsMap (H := Unit) Tryz.prog 3 unitElem b n (setD F n)
theorem IsSet.kept {w w' : World} {b : Nat} {F : Nat → Int} {n : Nat} {row : Option Nat} (h : IsSet w b F n) (hg : w.grownBy w' row) (hne : some b ≠ row) : IsSet w' b F n := World.ownsMap.kept h hg hne
theorem IsSet.lt {w : World} {b : Nat} {F : Nat → Int} {n : Nat} (h : IsSet w b F n) : b < w.heap.size := World.ownsMap.lt h
theorem IsSet.made (w : World) (F : Nat → Int) : IsSet (w.alloc (.map #[] 0)) w.heap.size F 0 := World.ownsMap_made _ _ _ _
theorem IsSet.below {w w' : World} {b : Nat} {F : Nat → Int} {n : Nat} (h : IsSet w b F n) (hb : Below w.heap.size w w') : IsSet w' b F n := h.kept (row := none) ⟨hb.os, hb.tape, hb.output, hb.size, fun i hi _ => hb.block i hi⟩ (by simp)

/-- m[F n] = struct{}{} -/
theorem wp_add {w : World} {o : Oper} {a : Act} {K : Act → World → Prop} {Q : Exit → Act → World → Prop} (m x v : Operand) (hop : o.op = Op.mapUpdate 187 m x v) (b n : Nat) (F : Nat → Int) (hn : n ≤ 1000000)
  (hm : a.eval m = .map (some b)) (hs : IsSet w b F n) (hx : a.eval x = .int .i64 (F n)) (hv : a.eval v = .agg #[]) (hF : -9223372036854775808 ≤ F n ∧ F n ≤ 9223372036854775807)
  (hK : ∀ w', IsSet w' b F (n + 1) → w.grownBy w' (some b) → K (a.put o.dst undef) w') : o.wp Tryz.prog a w K Q := by
 obtain ⟨w', hrun, r1, r2⟩ := World.ownsMap.update hs key_int map_t (by unfold maxLen; omega) (key_of hF) unitElem_mk
 unfold Oper.wp
 simp [execOp, hop, hm, hx, hv, hrun, Result.andThen]
 refine hK _ ?_ r2
 unfold IsSet
 rw [setD_succ]
 exact r1
theorem wpList_add {w : World} {ops : Array Oper} {rest : List Oper} {o : Oper} {a : Act} {Q : Exit → Act → World → Prop} (hgd : o.guard = none) (m x v : Operand) (hop : o.op = Op.mapUpdate 187 m x v) (b n : Nat) (F : Nat → Int) (hn : n ≤ 1000000)
  (hm : a.eval m = .map (some b)) (hs : IsSet w b F n) (hx : a.eval x = .int .i64 (F n)) (hv : a.eval v = .agg #[]) (hF : -9223372036854775808 ≤ F n ∧ F n ≤ 9223372036854775807)
  (hK : ∀ w', IsSet w' b F (n + 1) → w.grownBy w' (some b) → wpList Tryz.prog ops Q rest (a.put o.dst undef) w') : wpList Tryz.prog ops Q (o :: rest) a w :=
 wpList_plain hgd fun _ hK' => wp_add m x v hop b n F hn hm hs hx hv hF fun w' h1 h2 => hK' _ _ (hK w' h1 h2)
end Rm
end Go.Proofs.YtonhedefjmkpcaaGreatDoor
