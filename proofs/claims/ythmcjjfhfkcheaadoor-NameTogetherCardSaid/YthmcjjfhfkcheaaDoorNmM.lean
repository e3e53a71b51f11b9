/- Layer 12: the chapter as functions of bytes: names, pieces, steps, the clean path, the path of steps. No memory in this text. -/
import Derived.Lib.SplitLaws
import Derived.Lib.Bytealg
import Derived.Lib.IndexBytes
import Derived.Lib.Join
import Derived.Lib.Strings
namespace Go.Proofs.YthmcjjfhfkcheaaDoor
set_option maxRecDepth 20000
namespace Nm
open Go.Lib

abbrev T := List UInt8
/-- a name -/
def valid (l : T) : Bool := decide (1 ≤ l.length ∧ l.length ≤ 24 ∧ l ≠ [46] ∧ l ≠ [46, 46] ∧ (47 : UInt8) ∉ l ∧ (0 : UInt8) ∉ l)
/-- pieces, from the left -/
def pc : List UInt8 → List (List UInt8)
  | [] => [[]]
  | b :: l => if b = 47 then [] :: pc l else match pc l with
    | [] => [[b]]
    | h :: t => (b :: h) :: t
theorem pc_ne : ∀ l, pc l ≠ []
  | [] => by simp [pc]
  | b :: l => by
    unfold pc
    split
    · simp
    · split <;> simp
theorem pc_hit (l : List UInt8) : pc (47 :: l) = [] :: pc l := by simp [pc]
theorem pc_miss {b : UInt8} (h : b ≠ 47) (l : List UInt8) : ∃ x t, pc l = x :: t ∧ pc (b :: l) = (b :: x) :: t := by
  cases hp : pc l with
  | nil => exact absurd hp (pc_ne l)
  | cons x t => exact ⟨x, t, rfl, by simp [pc, h, hp]⟩
theorem pc_snoc_hit : ∀ l, pc (l ++ [47]) = pc l ++ [[]]
  | [] => by simp [pc]
  | b :: l => by
    by_cases h : b = 47
    · subst h; rw [List.cons_append, pc_hit, pc_hit, pc_snoc_hit l, List.cons_append]
    · obtain ⟨x, t, h1, h2⟩ := pc_miss h l
      obtain ⟨x', t', h3, h4⟩ := pc_miss h (l ++ [47])
      rw [List.cons_append, h4, h2]
      rw [pc_snoc_hit l, h1] at h3
      simp only [List.cons_append, List.cons.injEq] at h3
      rw [← h3.1, ← h3.2]; rfl
theorem pc_snoc_miss {b : UInt8} (hb : b ≠ 47) : ∀ l, ∃ H x, pc l = H ++ [x] ∧ pc (l ++ [b]) = H ++ [x ++ [b]]
  | [] => ⟨[], [], by simp [pc], by simp [pc, hb]⟩
  | c :: l => by
    obtain ⟨H, x, h1, h2⟩ := pc_snoc_miss hb l
    by_cases h : c = 47
    · subst h; exact ⟨[] :: H, x, by rw [pc_hit, h1, List.cons_append], by rw [List.cons_append, pc_hit, h2, List.cons_append]⟩
    · obtain ⟨y, t, h3, h4⟩ := pc_miss h l
      obtain ⟨y', t', h5, h6⟩ := pc_miss h (l ++ [b])
      rw [h1] at h3; rw [h2] at h5
      rw [List.cons_append, h4, h6]
      cases H with
      | nil =>
        simp only [List.nil_append, List.cons.injEq] at h3 h5
        exact ⟨[], c :: x, by rw [← h3.1, ← h3.2]; rfl, by rw [← h5.1, ← h5.2]; rfl⟩
      | cons z H =>
        simp only [List.cons_append, List.cons.injEq] at h3 h5
        exact ⟨(c :: z) :: H, x, by rw [← h3.1, ← h3.2]; rfl, by rw [← h5.1, ← h5.2]; rfl⟩

theorem split_pc : ∀ l : List UInt8, splitK [47] 0 (count l [47]) l = pc l
  | [] => by rw [count_miss (by simp [index])]; rfl
  | b :: l => by
    by_cases h : b = 47
    · subst h
      have hix : index (47 :: l) [47] = ((0 : Nat) : Int) := by rw [index]; simp [List.isPrefixOf]
      rw [count_cons_eq, Nat.add_comm, splitK, hix, pc_hit, ← split_pc l]
      simp
    · obtain ⟨x, t, h1, h2⟩ := pc_miss h l
      rw [count_cons_ne b 47 l h, h2]
      have hp : ([47] : List UInt8).isPrefixOf (b :: l) = false := by simp [List.isPrefixOf, Ne.symm h]
      have hix : index (b :: l) [47] = if index l [47] == -1 then -1 else index l [47] + 1 := by rw [index, hp]; simp
      have hs := split_pc l
      rcases index_spec l [47] with ⟨hm, _⟩ | ⟨i, hi, _⟩
      · rw [count_miss hm] at hs ⊢
        rw [splitK] at hs ⊢
        rw [h1] at hs
        simp only [List.cons.injEq] at hs
        rw [← hs.1, ← hs.2]
      · have hne : ¬ (index l [47] == -1) = true := fun e => by have := beq_iff_eq.1 e; omega
        rw [count_hit (by simp) hi, Nat.add_comm] at hs ⊢
        rw [splitK, if_neg hne, hi, h1] at hs
        rw [splitK, hix, if_neg hne, hi, if_neg (by intro e; have := beq_iff_eq.1 e; omega)]
        simp only [List.cons.injEq, List.length_cons, List.length_nil, Int.toNat_natCast] at hs
        have e : ((i : Int) + 1).toNat = i + 1 := by omega
        rw [e]
        simp only [List.length_cons, List.length_nil, Nat.add_zero, Nat.zero_add, List.take_succ_cons, List.drop_succ_cons]
        rw [← hs.1, ← hs.2]
        simp
theorem splitB_pc (l : T) : splitB ⟨#[47]⟩ 0 (countB ⟨l.toArray⟩ ⟨#[47]⟩) ⟨l.toArray⟩ = (pc l).map fun x => ⟨x.toArray⟩ := by
  have h := splitB_data ⟨#[47]⟩ 0 (countB ⟨l.toArray⟩ ⟨#[47]⟩) ⟨l.toArray⟩
  have h2 : (splitB ⟨#[47]⟩ 0 (countB ⟨l.toArray⟩ ⟨#[47]⟩) ⟨l.toArray⟩).map (·.data.toList) = pc l := by
    rw [h]; exact split_pc _
  rw [← h2, List.map_map]
  conv => lhs; rw [← List.map_id (splitB ⟨#[47]⟩ 0 (countB ⟨l.toArray⟩ ⟨#[47]⟩) ⟨l.toArray⟩)]
  exact List.map_congr_left fun x _ => by cases x; rfl
theorem pc_count (l : T) : countB ⟨l.toArray⟩ ⟨#[47]⟩ + 1 = (pc l).length := by
  rw [← splitB_all ⟨#[47]⟩ (by decide) 0 _ ⟨l.toArray⟩ rfl, splitB_pc, List.length_map]
theorem pc_len_le : ∀ l, (pc l).length ≤ l.length + 1
  | [] => by simp [pc]
  | b :: l => by
    have := pc_len_le l
    by_cases h : b = 47
    · subst h; rw [pc_hit]; simp; omega
    · obtain ⟨x, t, h1, h2⟩ := pc_miss h l
      rw [h2]; rw [h1] at this; simp at this ⊢; omega
theorem pc_short : ∀ l, ∀ x ∈ pc l, x.length ≤ l.length
  | [], x, hx => by simp [pc] at hx; subst hx; simp
  | b :: l, x, hx => by
    by_cases h : b = 47
    · subst h
      rw [pc_hit] at hx
      rcases List.mem_cons.1 hx with rfl | hx
      · simp
      · have := pc_short l x hx; simp; omega
    · obtain ⟨y, t, h1, h2⟩ := pc_miss h l
      rw [h2] at hx
      rcases List.mem_cons.1 hx with rfl | hx
      · have := pc_short l y (by rw [h1]; simp); simp; omega
      · have := pc_short l x (by rw [h1]; simp [hx]); simp; omega

/-- is a piece a step? -/
def keep (p : T) : Bool := !(p == []) && !(p == [46])
/-- may a step be? -/
def good (p : T) : Bool := p == [46, 46] || valid p
/-- may a path be, and what there is to say of it -/
def inr (s : T) : Bool := decide (1 ≤ s.length) && decide (s.length ≤ 240)
def okp (p : T) : Bool := !keep p || good p
def fine (s : T) : Bool := inr s && (pc s).all okp
def last (s : T) : T := (pc s).getLastD []
def steps (s : T) : List T := if fine s then (pc s).filter keep else []
def abs (s : T) : Bool := fine s && ([47] : T).isPrefixOf s
def dir (s : T) : Bool := fine s && (last s == [] || last s == [46] || last s == [46, 46])
def code (s : T) : Int := if fine s then 0 else 12
/-- one step more on a path that is being made clean -/
def st (a : Bool) (l : List T) (s : T) : List T :=
  if s == [46, 46] then (if decide (0 < l.length) && !(l.getLastD [] == [46, 46]) then l.dropLast else if a then l else l ++ [s]) else l ++ [s]
def red (a : Bool) (xs : List T) : List T := xs.foldl (st a) []
/-- the path of steps -/
def txt (xs : List T) : T := Lib.join xs [47]
def joinC (xs : List T) (a : Bool) : T := if a then 47 :: txt xs else if xs.length = 0 then [46] else txt xs
def joinR (xs : List T) (a : Bool) : T := if a then 47 :: txt xs else if txt xs = [] then [46] else txt xs
def clean (s : T) : T := if fine s then joinC (red (abs s) (steps s)) (abs s) else []
def pok (s : T) : Bool := fine s && !((steps s).length == 0) && !((steps s).getLastD [] == [46, 46])
def pdir (s : T) : T := if pok s then joinC (steps s).dropLast (abs s) else []
def pname (s : T) : T := if pok s then (steps s).getLastD [] else []
def pcode (s : T) : Int := if pok s then 0 else 12
end Nm
end Go.Proofs.YthmcjjfhfkcheaaDoor
