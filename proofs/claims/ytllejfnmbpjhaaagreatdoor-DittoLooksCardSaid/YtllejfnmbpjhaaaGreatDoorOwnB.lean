/- A row of bytes that the call owns, all of whose cells are bytes, also those beyond its length; append of bytes to it. -/
import Derived.Test.YtllejfnmbpjhaaaGreatDoorRows
import Derived.WalkKit
import Derived.Handy
import Derived.Lib.Hide
import Derived.Laws.AppendOwnNone
import Derived.Deep.MidRow
namespace Go.Proofs.YtllejfnmbpjhaaaGreatDoor
set_option maxRecDepth 20000
namespace OwnB
open Go.RowKit

def IsB (v : Value) : Prop := ∃ z : Int, v = .int .u8 z
def bs (xs : List Int) : List Value := xs.map (.int .u8 ·)
theorem bs_length (xs : List Int) : (bs xs).length = xs.length := by simp [bs]
theorem bs_append (xs ys : List Int) : bs (xs ++ ys) = bs xs ++ bs ys := by simp [bs]
theorem bs_one (xs : List Int) : ∀ u ∈ bs xs, u.oneCell' = true := by
  intro u hu
  simp only [bs, List.mem_map] at hu
  obtain ⟨z, _, rfl⟩ := hu
  rfl
theorem bs_byte (xs : List Int) : ∀ u ∈ bs xs, IsB u := by
  intro u hu
  simp only [bs, List.mem_map] at hu
  obtain ⟨z, _, rfl⟩ := hu
  exact ⟨z, rfl⟩

/-- v is a slice of the bytes xs, in a block of bytes alone, from block B on -/
def Own (w : World) (B : Nat) (e : TypeId) (v : Value) (xs : List Int) : Prop :=
  (v = .slice none 0 0 ∧ xs = []) ∨
  ∃ g cap cur, v = .slice (some ⟨g, 0, none⟩) xs.length cap ∧ B ≤ g ∧ w.heap[g]? = some (.cells cur e (0, 0)) ∧ xs.length ≤ cap ∧ cap ≤ maxLen ∧ cur.size = cap ∧ cur.toList.take xs.length = bs xs ∧ ∀ u ∈ cur.toList, IsB u
section
variable {w w' : World} {B : Nat} {e : TypeId} {v : Value} {xs : List Int}
theorem Own.owns (h : Own w B e v xs) : w.ownsRow B e 1 v xs.length (bs xs) := by
  refine ⟨by rw [bs_length]; omega, ?_⟩
  rcases h with ⟨h1, h2⟩ | ⟨g, cap, cur, h1, h2, h3, h4, h5, h6, h7, _⟩
  · subst h2; exact .inl ⟨h1, rfl⟩
  · exact .inr ⟨g, cap, cur, h1, h2, h3, h4, h5, by omega, by rw [Nat.mul_one]; exact h7⟩
theorem Own.nil (w : World) (B : Nat) (e : TypeId) : Own w B e (.slice none 0 0) [] := .inl ⟨rfl, rfl⟩
theorem Own.kept {row : Option Nat} (h : Own w B e v xs) (hg : w.grownBy w' row) (hne : v.ownBlock = none ∨ v.ownBlock ≠ row) : Own w' B e v xs := by
  rcases h with hn | ⟨g, cap, cur, rfl, hb, hgg, rest⟩
  · exact .inl hn
  · refine .inr ⟨g, cap, cur, rfl, hb, ?_, rest⟩
    rw [hg.block g (Array.getElem?_eq_some_iff.1 hgg).1 (by simpa [Value.ownBlock] using hne)]
    exact hgg
theorem Own.lt (h : Own w B e v xs) : ∀ k, v.ownBlock = some k → B ≤ k ∧ k < w.heap.size := h.owns.lt
theorem Own.slice (h : Own w B e v xs) : ∃ ao cap, v = .slice ao xs.length cap := by
  rcases h with ⟨h1, h2⟩ | ⟨g, cap, cur, h1, _⟩
  · subst h2; exact ⟨_, _, h1⟩
  · exact ⟨_, _, h1⟩
theorem Own.cell (h : Own w B e v xs) {g o n c : Nat} (hv : v = .slice (some ⟨g, o, none⟩) n c) {j : Nat} {z : Int} (hz : xs[j]? = some z) : w.cell? ⟨g, o + j, none⟩ = some (.int .u8 z) := by
  rcases h with ⟨h1, h2⟩ | ⟨g', cap, cur, h1, hb, hgg, _, _, hcs, ht, _⟩
  · subst h2; simp at hz
  · rw [h1] at hv
    injection hv with h2 h3 h4
    injection h2 with h2
    injection h2 with h2 h5
    subst h2 h5
    rw [Nat.zero_add, cell_of_row w g' j cur e (0, 0) hgg]
    have hj := (List.getElem?_eq_some_iff.1 hz).1
    have : (bs xs)[j]? = some (.int .u8 z) := by simp [bs, hz]
    rw [← ht, List.getElem?_take, if_pos hj] at this
    simpa using this
end

/-- what append(v, x) of one byte comes to -/
theorem run_append {P : Program} (w : World) (B : Nat) (t ty e : TypeId) (i : TypeInfo) (ht : P.underlying t = some (.slice e)) (hi : P.info? e = some i) (hz : i.zero = some (.int .u8 0))
    (hsize : i.size = 1) (hby : i.bytes = 1) (v : Value) (xs : List Int) (hown : Own w B e v xs)
    (ab ao : Nat) (c : Nat) (z : Int) (hx : w.cell? ⟨ab, ao, none⟩ = some (.int .u8 z)) (h63 : xs.length + 1 ≤ 1000000) (hB : B ≤ w.heap.size) :
    ∃ v' w', (Builtin.append_ #[t, t] ty #[v, .slice (some ⟨ab, ao, none⟩) 1 c]).run P w = .ok v' w' ∧ Own w' B e v' (xs ++ [z]) ∧ w.grownBy w' v.ownBlock ∧ (v'.ownBlock = v.ownBlock ∨ v'.ownBlock = some w.heap.size) := by
  have hnews : ∀ j u, (bs [z])[j]? = some u → w.cell? ((⟨ab, ao, none⟩ : Addr).add j) = some u := by
    intro j u hu
    have hj : j = 0 := by
      have := (List.getElem?_eq_some_iff.1 hu).1
      rw [bs_length] at this
      simp at this
      exact this
    subst hj
    simp [bs] at hu
    subst hu
    rw [Addr.add_mid]
    exact hx
  have hl : (bs [z]).length = 1 * i.size := by rw [hsize]; rfl
  have hzb : ∀ n, ∀ u ∈ (Builtin.zeroCells (Value.int .u8 0).cells n).toList, IsB u := by
    intro n u hu
    have : u = .int .u8 0 := by
      simp only [Builtin.zeroCells] at hu
      simp [Value.cells, Nat.mod_one] at hu
      exact hu.2.symm
    exact ⟨0, this⟩
  have hsz : ∀ n, (Builtin.zeroCells (Value.int .u8 0).cells n).size = n := by
    intro n; rw [size_zeroCells]; simp [Value.cells]
  have grown : ∀ (old : Nat) (row : Option Nat),
      Own (w.drew.alloc (.cells ((bs xs).toArray ++ (bs [z]).toArray ++ Builtin.zeroCells (Value.int .u8 0).cells (grownCap w (xs.length + 1) old e - (xs.length + 1))) e)) B e (.slice (some ⟨w.heap.size, 0, none⟩) (xs.length + 1) (grownCap w (xs.length + 1) old e)) (xs ++ [z]) ∧
      w.grownBy (w.drew.alloc (.cells ((bs xs).toArray ++ (bs [z]).toArray ++ Builtin.zeroCells (Value.int .u8 0).cells (grownCap w (xs.length + 1) old e - (xs.length + 1))) e)) row := by
    intro old row
    have hge := grownCap_ge w (xs.length + 1) old e
    have hcm : grownCap w (xs.length + 1) old e ≤ maxLen := grownCap_le_maxLen w (xs.length + 1) old e (by unfold maxLen; omega)
    refine ⟨.inr ⟨w.heap.size, _, _, by rw [List.length_append]; rfl, hB, heap_alloc_new w.drew _, by rw [List.length_append]; exact hge, hcm, ?_, ?_, ?_⟩, ⟨rfl, rfl, rfl, by simp, fun k hk _ => Below.heap_alloc _ _ _ hk⟩⟩
    · simp only [Array.size_append, List.size_toArray, hsz, bs_length, List.length_singleton]
      omega
    · simp only [Array.toList_append, List.append_assoc]
      rw [← List.append_assoc, ← bs_append, ← bs_length (xs ++ [z])]
      exact List.take_left
    · intro u hu
      simp only [Array.toList_append, List.mem_append] at hu
      rcases hu with (hu | hu) | hu
      · exact bs_byte _ u hu
      · exact bs_byte _ u hu
      · exact hzb _ u hu
  rcases hown with ⟨rfl, rfl⟩ | ⟨g, cap, cur, rfl, hbg, hg, hnc, hcm, hcs, htake, hcb⟩
  · have hr := run_append_nil (P := P) w t ty e i _ ht hi hz ⟨ab, ao, none⟩ 1 c (bs [z]) hl hnews (by omega) (by omega) (by omega)
    have hgr := grown 0 (Value.ownBlock (.slice none 0 0))
    simp only [List.length_nil, Nat.zero_add, List.nil_append] at hgr hr
    refine ⟨_, _, hr, ?_, ?_, .inr rfl⟩
    · have := hgr.1; simpa [bs] using this
    · have := hgr.2; simpa [bs] using this
  · have holen : (bs xs).length = xs.length * i.size := by rw [bs_length, hsize, Nat.mul_one]
    by_cases hroom : xs.length + 1 ≤ cap
    · have hfit : xs.length * i.size + (bs [z]).length ≤ cur.size := by rw [hl, hcs, hsize]; omega
      have hr := run_append_room (P := P) w t ty e i ht hi g xs.length cap cur hg ⟨ab, ao, none⟩ 1 c (bs [z]) hl hnews (bs_one _) hroom hfit
      rw [hsize, Nat.mul_one] at hr
      refine ⟨_, _, hr, .inr ⟨g, cap, _, by rw [List.length_append]; rfl, hbg, setRow_heap w g cur _ e _ hg, by rw [List.length_append]; exact hroom, hcm, ?_, ?_, ?_⟩, ⟨rfl, rfl, rfl, by simp, fun k _ hk => setRow_other w g k _ (fun e => hk (by simp [Value.ownBlock, e]))⟩, .inl rfl⟩
      · simp only [List.size_toArray, List.length_append, List.length_take, List.length_drop, Array.length_toList, bs_length, List.length_singleton]
        omega
      · rw [htake, ← bs_append, ← bs_length (xs ++ [z])]
        exact List.take_left
      · intro u hu
        simp only [List.mem_append] at hu
        rcases hu with (hu | hu) | hu
        · exact hcb u (List.mem_of_mem_take hu)
        · exact bs_byte _ u hu
        · exact hcb u (List.mem_of_mem_drop hu)
    · have hown1 : w.ownsRow B e 1 (.slice (some ⟨g, 0, none⟩) xs.length cap) xs.length (bs xs) := ⟨by rw [bs_length]; omega, .inr ⟨g, cap, cur, rfl, hbg, hg, hnc, hcm, by omega, by rw [Nat.mul_one]; exact htake⟩⟩
      have holds : ∀ j u, (bs xs)[j]? = some u → w.cell? ((⟨g, 0, none⟩ : Addr).add j) = some u := hown1.cells (g := g) rfl
      have hr := run_append_grow (P := P) w t ty e i _ ht hi hz ⟨g, 0, none⟩ xs.length cap (bs xs) holen holds ⟨ab, ao, none⟩ 1 c (bs [z]) hl hnews (by omega) (by omega) (growslice_fits (by omega) (by rw [hby]; omega))
      have hgr := grown cap (Value.ownBlock (.slice (some ⟨g, 0, none⟩) xs.length cap))
      exact ⟨_, _, hr, hgr.1, hgr.2, .inr rfl⟩

theorem wpList_append {P : Program} {w : World} {ops : Array Oper} {rest : List Oper} {o : Oper} {a : Act} {Q : Exit → Act → World → Prop} (hgd : o.guard = none) (s x : Operand) (t e : TypeId)
    (ho : o.op = .call { callee := .builtin .append, args := #[s, x], argTypes := #[t, t] })
    (B : Nat) (i : TypeInfo) (ht : P.underlying t = some (.slice e)) (hi : P.info? e = some i) (hz : i.zero = some (.int .u8 0)) (hsize : i.size = 1) (hby : i.bytes = 1)
    (v : Value) (xs : List Int) (hs : a.eval s = v) (hown : Own w B e v xs) (ab ao : Nat) (c : Nat) (z : Int) (hx : a.eval x = .slice (some ⟨ab, ao, none⟩) 1 c) (hc : w.cell? ⟨ab, ao, none⟩ = some (.int .u8 z)) (h63 : xs.length + 1 ≤ 1000000) (hB : B ≤ w.heap.size)
    (h : ∀ v' w', Own w' B e v' (xs ++ [z]) → w.grownBy w' v.ownBlock → (v'.ownBlock = v.ownBlock ∨ v'.ownBlock = some w.heap.size) → wpList P ops Q rest (a.put o.dst v') w') : wpList P ops Q (o :: rest) a w := by
  refine wpList_plain hgd fun K hK => ?_
  obtain ⟨v', w', hr, h2, h3, h4⟩ := run_append (P := P) w B t o.type e i ht hi hz hsize hby v xs hown ab ao c z hc h63 hB
  unfold Oper.wp execOp
  simp only [ho, resolve, invoke, builtin, Sem.run_bind, Sem.run_pure, Result.andThen_ok, List.map_toArray, List.map_cons, List.map_nil, hs, hx, hr]
  exact hK _ _ (h v' w' h2 h3 h4)

theorem step_append {P : Program} {w : World} {ops : Array Oper} {o : Oper} {a : Act} {K : Act → World → Prop} {Q : Exit → Act → World → Prop} {E : Prop} (hgd : o.guard = none) (s x : Operand) (t e : TypeId)
    (ho : o.op = .call { callee := .builtin .append, args := #[s, x], argTypes := #[t, t] })
    (B : Nat) (i : TypeInfo) (ht : P.underlying t = some (.slice e)) (hi : P.info? e = some i) (hz : i.zero = some (.int .u8 0)) (hsize : i.size = 1) (hby : i.bytes = 1)
    (v : Value) (xs : List Int) (hs : a.eval s = v) (hown : Own w B e v xs) (ab ao : Nat) (c : Nat) (z : Int) (hx : a.eval x = .slice (some ⟨ab, ao, none⟩) 1 c) (hc : w.cell? ⟨ab, ao, none⟩ = some (.int .u8 z)) (h63 : xs.length + 1 ≤ 1000000) (hB : B ≤ w.heap.size)
    (h : ∀ v' w', Own w' B e v' (xs ++ [z]) → w.grownBy w' v.ownBlock → (v'.ownBlock = v.ownBlock ∨ v'.ownBlock = some w.heap.size) → K (a.put o.dst v') w') :
    if Region.wanted o (yielded ops a.tmps) = true then Oper.wp P o a w K Q else E := by
  have hw : Region.wanted o (yielded ops a.tmps) = true := by simp [Region.wanted, hgd]
  rw [if_pos hw]
  obtain ⟨v', w', hr, h2, h3, h4⟩ := run_append (P := P) w B t o.type e i ht hi hz hsize hby v xs hown ab ao c z hc h63 hB
  unfold Oper.wp execOp
  simp only [ho, resolve, invoke, builtin, Sem.run_bind, Sem.run_pure, Result.andThen_ok, List.map_toArray, List.map_cons, List.map_nil, hs, hx, hr]
  exact h v' w' h2 h3 h4

end OwnB
end Go.Proofs.YtllejfnmbpjhaaaGreatDoor
