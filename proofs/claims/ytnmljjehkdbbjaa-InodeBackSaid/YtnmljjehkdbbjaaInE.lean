/- inode: parts: what bytes say of a node, whatever the order of the parts (made by tools/gen_ine.py). -/
import Derived.Test.YtnmljjehkdbbjaaInD
namespace Go.Proofs.Ytnmljjehkdbbjaa
set_option maxRecDepth 20000
namespace In
open Go.RowKit Dk Eqb Byt Pt

/-- the number that part k says -/
def nmF (f : Nat → Int) (k : Nat) : Int := Wd.takeN 64 (aI k) (kI k) f
/-- what bytes say of a node -/
def paN (f : Nat → Int) : Nd := ⟨0, nmF f 0, nmF f 1, tkV 64 8 f, nmF f 3, nmF f 2⟩
def rtS (f : Nat → Int) (seen : Array Nat) : Pn := if seen.contains 4 = true then tkV 64 8 f else pz
def nuS (f : Nat → Int) (seen : Array Nat) (k : Nat) : Int := if seen.contains k = true then nmF f k else 0
def esS (f : Nat → Int) (seen : Array Nat) : Int := if seen.contains 4 = true then tkE 64 8 f else 0
theorem rtS_4 (f : Nat → Int) (seen : Array Nat) : rtS f (seen.push 4) = tkV 64 8 f := by unfold rtS; rw [contains_push]; simp
theorem esS_4 (f : Nat → Int) (seen : Array Nat) : esS f (seen.push 4) = tkE 64 8 f := by unfold esS; rw [contains_push]; simp
theorem nuS_4 (f : Nat → Int) (seen : Array Nat) {k : Nat} (hk : k < 4) : nuS f (seen.push 4) k = nuS f seen k := by
  unfold nuS
  rw [contains_push, show (k == 4) = false from beq_eq_false_iff_ne.2 (by omega), Bool.or_false]
theorem rtS_i (f : Nat → Int) (seen : Array Nat) {i : Nat} (hi : i < 4) : rtS f (seen.push i) = rtS f seen := by
  unfold rtS
  rw [contains_push, show (4 == i) = false from beq_eq_false_iff_ne.2 (by omega), Bool.or_false]
theorem esS_i (f : Nat → Int) (seen : Array Nat) {i : Nat} (hi : i < 4) : esS f (seen.push i) = esS f seen := by
  unfold esS
  rw [contains_push, show (4 == i) = false from beq_eq_false_iff_ne.2 (by omega), Bool.or_false]
theorem nuS_i (f : Nat → Int) (seen : Array Nat) (i k : Nat) : nuS f (seen.push i) k = if k = i then nmF f i else nuS f seen k := by
  unfold nuS
  rw [contains_push]
  by_cases h : k = i
  · subst h; simp
  · rw [if_neg h, show (k == i) = false from beq_eq_false_iff_ne.2 h, Bool.or_false]

theorem blk_setCells {b : Nat} {t : TypeId} : ∀ (vs : List Value) (o : Nat) (w : World) (cur : Array Value), w.heap[b]? = some (.cells cur t (0, 0)) → o + vs.length ≤ cur.size →
    ∃ cur', (w.setCells b o vs).heap[b]? = some (.cells cur' t (0, 0)) ∧ cur'.size = cur.size ∧ ∀ j, cur'[j]? = if o ≤ j ∧ j < o + vs.length then vs[j - o]? else cur[j]?
  | [], o, w, cur, h, _ => ⟨cur, h, rfl, fun j => by rw [if_neg (by rw [List.length_nil]; omega)]⟩
  | v :: r, o, w, cur, h, hl => by
    rw [List.length_cons] at hl
    obtain ⟨cur', h1, h2, h3⟩ := blk_setCells r (o + 1) (w.setCell ⟨b, o, none⟩ v) (cur.setIfInBounds o v) (heap_setCell_same w b o cur t v h) (by simp; omega)
    refine ⟨cur', by rw [World.setCells]; exact h1, by rw [h2]; simp, fun j => ?_⟩
    rw [h3 j, List.length_cons]
    by_cases e : j = o
    · subst e
      rw [if_neg (by omega), if_pos (by omega), Nat.sub_self, Array.getElem?_setIfInBounds_self_of_lt (by omega)]
      rfl
    · rw [Array.getElem?_setIfInBounds_ne (by omega)]
      by_cases e2 : o + 1 ≤ j ∧ j < o + 1 + r.length
      · rw [if_pos e2, if_pos (by omega), show j - o = (j - (o + 1)) + 1 by omega, List.getElem?_cons_succ]
      · rw [if_neg e2, if_neg (by omega)]
theorem grown_setCell (w : World) (b o : Nat) (v : Value) : w.grownBy (w.setCell ⟨b, o, none⟩ v) (some b) := ⟨rfl, rfl, rfl, by simp [World.setCell], fun k _ hk => Below.heap_setCell _ _ _ _ (fun e => hk (by simp [e]))⟩
theorem grown_setCells : ∀ (w : World) (b o : Nat) (vs : List Value), w.grownBy (w.setCells b o vs) (some b)
  | _w, _b, _o, [] => ⟨rfl, rfl, rfl, Nat.le_refl _, fun _ _ _ => rfl⟩
  | w, b, o, v :: r => only_trans (grown_setCell w b o v) (grown_setCells (w.setCell ⟨b, o, none⟩ v) b (o + 1) r)
theorem nV_at (n : Nd) (j : Nat) : (nV n)[j]? = if j < 3 then [Value.int .i64 n.N, .int .i64 n.K, .int .i64 n.L][j]? else if j < 37 then (pV n.p)[j - 3]? else [Value.int .i64 n.z, .int .i64 n.c][j - 37]? := by
  by_cases h : j < 3
  · rw [if_pos h]
    match j, h with
    | 0, _ => rfl
    | 1, _ => rfl
    | 2, _ => rfl
    | k + 3, h => omega
  · obtain ⟨k, rfl⟩ : ∃ k, j = 3 + k := ⟨j - 3, by omega⟩
    rw [if_neg h, nV_st]
    unfold sV
    by_cases h2 : 3 + k < 37
    · rw [if_pos h2, List.getElem?_append_left (by rw [pV_length]; omega), Nat.add_sub_cancel_left]
    · rw [if_neg h2, List.getElem?_append_right (by rw [pV_length]; omega), pV_length]
      congr 1
      omega
theorem bn_root {w : World} {b : Nat} {n : Nd} (h : Bn w b n) (p : Pn) : Bn (w.setCells b 3 (pV p)) b ⟨n.N, n.K, n.L, p, n.z, n.c⟩ := by
  obtain ⟨cur, h1, h2, h3⟩ := blk_setCells (pV p) 3 w _ h.row (by rw [pV_length, nV_asize]; omega)
  refine ⟨?_⟩
  rw [h1]
  have e : cur = (nV ⟨n.N, n.K, n.L, p, n.z, n.c⟩).toArray := by
    refine Array.ext_getElem? fun j => ?_
    rw [h3 j, List.getElem?_toArray, List.getElem?_toArray, nV_at, nV_at, pV_length]
    by_cases h0 : j < 3
    · rw [if_neg (by omega), if_pos h0, if_pos h0]
    · rw [if_neg h0, if_neg h0]
      by_cases h1 : j < 37
      · rw [if_pos (by omega), if_pos h1]
      · rw [if_neg (by omega), if_neg h1, if_neg h1]
  rw [e]
theorem bn_set {w : World} {b : Nat} {n : Nd} (h : Bn w b n) (k : Nat) (v : Value) (m : Nd) (e : (nV n).toArray.setIfInBounds k v = (nV m).toArray) : Bn (w.setCell ⟨b, k, none⟩ v) b m :=
  ⟨by rw [heap_setCell_same w b k _ _ v h.row, e]⟩
theorem set_N (n : Nd) (x : Int) : (nV n).toArray.setIfInBounds 0 (.int .i64 x) = (nV ⟨x, n.K, n.L, n.p, n.z, n.c⟩).toArray := by kernel_rfl
theorem set_K (n : Nd) (x : Int) : (nV n).toArray.setIfInBounds 1 (.int .i64 x) = (nV ⟨n.N, x, n.L, n.p, n.z, n.c⟩).toArray := by kernel_rfl
theorem set_L (n : Nd) (x : Int) : (nV n).toArray.setIfInBounds 2 (.int .i64 x) = (nV ⟨n.N, n.K, x, n.p, n.z, n.c⟩).toArray := by kernel_rfl
theorem set_z (n : Nd) (x : Int) : (nV n).toArray.setIfInBounds 37 (.int .i64 x) = (nV ⟨n.N, n.K, n.L, n.p, x, n.c⟩).toArray := by kernel_rfl
theorem set_c (n : Nd) (x : Int) : (nV n).toArray.setIfInBounds 38 (.int .i64 x) = (nV ⟨n.N, n.K, n.L, n.p, n.z, x⟩).toArray := by kernel_rfl
theorem Bn.free {w : World} {b : Nat} {n : Nd} (h : Bn w b n) (k : Nat) : w.frozen? ⟨b, k, none⟩ = false := frozen_of_row w b k _ _ h.row
theorem Bn.there {w : World} {b : Nat} {n : Nd} (h : Bn w b n) : w.there b 3 34 := fun k hk => by
  refine ⟨?_, h.free _⟩
  rw [cell_of_row w b (3 + k) _ _ _ h.row]
  have : 3 + k < (nV n).toArray.size := by rw [nV_asize]; omega
  simp only [Array.getElem?_eq_getElem this, Option.isSome_some]

/-- the boxes of parts -/
structure Ps (w : World) (f : Nat → Int) (n : Nd) (g : Nat → Int) (seen : Array Nat) (wr : World) : Prop where
  bel : Below w.heap.size w wr
  sz : w.heap.size + 5 ≤ wr.heap.size
  by' : Bb wr w.heap.size f
  nd : Bn wr (w.heap.size + 1) n
  num : ∃ cur, wr.heap[w.heap.size + 2]? = some (.cells cur 58 (0, 0)) ∧ ∀ k, k < 4 → cur[k]? = some (.int .i64 (g k))
  rg : Rg wr (w.heap.size + 3) (w.heap.size + 4) seen
section
variable {w wr w' : World} {f : Nat → Int} {n n' : Nd} {g g' : Nat → Int} {seen seen' : Array Nat}
theorem Ps.at (h : Ps w f n g seen wr) {k : Nat} (hk : k < 4) : wr.cell? ⟨w.heap.size + 2, k, none⟩ = some (.int .i64 (g k)) ∧ wr.frozen? ⟨w.heap.size + 2, k, none⟩ = false := by
  obtain ⟨cur, h1, h2⟩ := h.num
  exact ⟨by rw [cell_of_row _ _ k _ _ _ h1, h2 k hk], frozen_of_row _ _ k _ _ h1⟩
theorem Ps.below (h : Ps w f n g seen wr) (hb : Below wr.heap.size wr w') : Ps w f n g seen w' := by
  have hs := h.sz
  obtain ⟨cur, h1, h2⟩ := h.num
  exact ⟨h.bel.trans (hb.mono (by omega)), by have := hb.size; omega, h.by'.keep (hb.block _ (by omega)), h.nd.keep (hb.block _ (by omega)), ⟨cur, (hb.block _ (by omega)).trans h1, h2⟩, h.rg.keep (hb.block _ (by omega)) (hb.block _ (by omega))⟩
theorem Ps.node (h : Ps w f n g seen wr) (hg : wr.grownBy w' (some (w.heap.size + 1))) (hn : Bn w' (w.heap.size + 1) n') : Ps w f n' g seen w' := by
  have hs := h.sz
  obtain ⟨cur, h1, h2⟩ := h.num
  have hk : ∀ b, b < w.heap.size + 5 → b ≠ w.heap.size + 1 → w'.heap[b]? = wr.heap[b]? := fun b hb hne => hg.block b (by omega) (by simpa using hne)
  exact ⟨h.bel.grown hg (by have := h.bel.size; omega) (fun j hj => by cases hj; omega), by have := hg.size; omega, h.by'.keep (hk _ (by omega) (by omega)), hn, ⟨cur, (hk _ (by omega) (by omega)).trans h1, h2⟩, h.rg.keep (hk _ (by omega) (by omega)) (hk _ (by omega) (by omega))⟩
theorem Ps.root (h : Ps w f n g seen wr) (p : Pn) : Ps w f ⟨n.N, n.K, n.L, p, n.z, n.c⟩ g seen (wr.setCells (w.heap.size + 1) 3 (pV p)) := h.node (grown_setCells _ _ _ _) (bn_root h.nd p)
theorem Ps.field (h : Ps w f n g seen wr) (k : Nat) (v : Value) (e : (nV n).toArray.setIfInBounds k v = (nV n').toArray) : Ps w f n' g seen (wr.setCell ⟨w.heap.size + 1, k, none⟩ v) := h.node (grown_setCell _ _ _ _) (bn_set h.nd k v n' e)
theorem Ps.numb (h : Ps w f n g seen wr) (i : Nat) (z : Int) : Ps w f n (fun k => if k = i then z else g k) seen (wr.setCell ⟨w.heap.size + 2, i, none⟩ (.int .i64 z)) := by
  have hs := h.sz
  obtain ⟨cur, h1, h2⟩ := h.num
  have hg := grown_setCell wr (w.heap.size + 2) i (.int .i64 z)
  generalize hw' : wr.setCell ⟨w.heap.size + 2, i, none⟩ (.int .i64 z) = w' at hg ⊢
  have hk : ∀ b, b < w.heap.size + 5 → b ≠ w.heap.size + 2 → w'.heap[b]? = wr.heap[b]? := fun b hb hne => hg.block b (by omega) (by simpa using hne)
  refine ⟨h.bel.grown hg (by have := h.bel.size; omega) (fun j hj => by cases hj; omega), by have := hg.size; omega, h.by'.keep (hk _ (by omega) (by omega)), h.nd.keep (hk _ (by omega) (by omega)), ?_, h.rg.keep (hk _ (by omega) (by omega)) (hk _ (by omega) (by omega))⟩
  refine ⟨cur.setIfInBounds i (.int .i64 z), by rw [← hw']; exact heap_setCell_same _ _ _ _ _ _ h1, fun k hk => ?_⟩
  by_cases e : k = i
  · subst e
    have hlt : k < cur.size := (Array.getElem?_eq_some_iff.1 (h2 k hk)).1
    rw [Array.getElem?_setIfInBounds_self_of_lt hlt, if_pos rfl]
  · rw [Array.getElem?_setIfInBounds_ne (by omega), if_neg e, h2 k hk]
theorem Ps.next (h : Ps w f n g seen wr) (hg : wr.grownBy w' (some (w.heap.size + 4))) (hr : Rg w' (w.heap.size + 3) (w.heap.size + 4) seen') : Ps w f n g seen' w' := by
  have hs := h.sz
  obtain ⟨cur, h1, h2⟩ := h.num
  have hk : ∀ b, b < w.heap.size + 5 → b ≠ w.heap.size + 4 → w'.heap[b]? = wr.heap[b]? := fun b hb hne => hg.block b (by omega) (by simpa using hne)
  exact ⟨h.bel.grown hg (by have := h.bel.size; omega) (fun j hj => by cases hj; omega), by have := hg.size; omega, h.by'.keep (hk _ (by omega) (by omega)), h.nd.keep (hk _ (by omega) (by omega)), ⟨cur, (hk _ (by omega) (by omega)).trans h1, h2⟩, hr⟩
theorem Ps.congr (h : Ps w f n g seen wr) (he : ∀ k, k < 4 → g k = g' k) (hn : n = n') : Ps w f n' g' seen wr := by
  subst hn
  obtain ⟨cur, h1, h2⟩ := h.num
  exact ⟨h.bel, h.sz, h.by', h.nd, ⟨cur, h1, fun k hk => by rw [h2 k hk, he k hk]⟩, h.rg⟩
end
/-- a region's moments: one part -/
structure Pr (w : World) (f : Nat → Int) (n n' : Nd) (g g' : Nat → Int) (seen : Array Nat) (pb : Nat) (a k : Int) (b : Bool) (w' : World) : Prop where
  st : Ps w f (if b = true then n' else n) (if b = true then g' else g) seen w'
  c0 : w'.cell? ⟨pb, 0, none⟩ = some (.int .i64 a)
  c1 : w'.cell? ⟨pb, 1, none⟩ = some (.int .i64 k)
section
variable {w w1 w' w'' : World} {f : Nat → Int} {n n' : Nd} {g g' : Nat → Int} {seen : Array Nat} {pb : Nat} {a k : Int} {b : Bool}
theorem pr_new (h : Ps w f n g seen w1) : ∃ w8, w8 = w1.alloc (.cells #[.int .i64 a, .int .i64 k] 62) ∧ Ps w f n g seen w8 ∧ w8.cell? ⟨w1.heap.size, 0, none⟩ = some (.int .i64 a) ∧ w8.cell? ⟨w1.heap.size, 1, none⟩ = some (.int .i64 k) := by
  refine ⟨_, rfl, h.below ((Below.refl _ _).alloc (Nat.le_refl _) _), ?_, ?_⟩
  · rw [cell_of_row _ _ 0 _ _ _ (heap_alloc_new w1 _)]; rfl
  · rw [cell_of_row _ _ 1 _ _ _ (heap_alloc_new w1 _)]; rfl
theorem Pr.start (h : Ps w f n g seen w') (h0 : w'.cell? ⟨pb, 0, none⟩ = some (.int .i64 a)) (h1 : w'.cell? ⟨pb, 1, none⟩ = some (.int .i64 k)) : Pr w f n n' g g' seen pb a k false { w' with drawn := w'.drawn + 1 } :=
  ⟨h.below (drawn_below w'), h0, h1⟩
theorem Pr.below (h : Pr w f n n' g g' seen pb a k b w') (hb : Below w'.heap.size w' w'') : Pr w f n n' g g' seen pb a k b w'' := by
  have hk := hb.block pb (cell_lt h.c0)
  exact ⟨h.st.below hb, (World.cell?_of_block hk).trans h.c0, (World.cell?_of_block hk).trans h.c1⟩
theorem Pr.turn (h : Pr w f n n' g g' seen pb a k false w') {x : Nat} (hx : pb ≠ x) (hg : w'.grownBy w'' (some x)) (hs : Ps w f n' g' seen w'') : Pr w f n n' g g' seen pb a k true w'' := by
  have hk := hg.block pb (cell_lt h.c0) (by simpa using hx)
  exact ⟨hs, (World.cell?_of_block hk).trans h.c0, (World.cell?_of_block hk).trans h.c1⟩
end
theorem results_2n {tmps : Array Value} {w : World} {B : Nat} {n : Nd} {e : Int} {fn : Func} {s r : Nat} (hf : fn.results = #[.cell s 28, .tmp r]) (h4 : tmps.getD s undef = .pointer (some ⟨B, 0, none⟩)) (h5 : tmps.getD r undef = .int .i64 e)
    (kV : w.heap[B]? = some (.cells (nV n).toArray 28 (0, 0))) : (results fn tmps).run Try.prog w = .ok (.tuple #[.agg (nV n).toArray, .int .i64 e]) w := by
  have h4' : tmps[s]?.getD undef = .pointer (some ⟨B, 0, none⟩) := by simpa using h4
  have h5' : tmps[r]?.getD undef = .int .i64 e := by simpa using h5
  have hv := run_loadVar_row (P := Try.prog) w B 28 28 (nV n).toArray (0, 0) _ kV undN rfl (sizeN' n)
  simp [results, hf, h4', h5', asAddr, hv]
def m8 (n : Nd) (b c : Bool) : Nd := ⟨0, if b = true then n.K else 0, if c = true then n.L else 0, n.p, 0, 0⟩
def m9 (n : Nd) (b c : Bool) : Nd := ⟨0, n.K, n.L, n.p, if c = true then n.z else 0, if b = true then n.c else 0⟩
/-- Pa6: what holds at each moment -/
def Pa6Inv (x0 x5 x7 x8 x9 x10 x11 x12 x13 x14 x15 x25 x26 x27 x28 x29 x30 x31 x32 x33 x34 x35 x36 x37 x38 x39 x40 x41 x42 x43 x44 x45 x46 x47 x48 x49 x50 x51 : Value) (w : World) (f : Nat → Int) (n n2 : Nd) (g g2 : Nat → Int) (seen : Array Nat) (pb : Nat) (a k : Int)  (L : Nat → Bool) (a' : Act) (w' : World) : Prop :=
  ∃ u0 u1 u2 u3 u4 u5 u6 u7 u8 u10, a' = { tmps := #[x0, .pointer (some ⟨w.heap.size, 0, none⟩), .pointer (some ⟨w.heap.size + 1, 0, none⟩), u10, .pointer (some ⟨w.heap.size + 2, 0, none⟩), x5, .pointer (some ⟨pb, 0, none⟩), x7, x8, x9, x10, x11, x12, x13, x14, x15, u4, u0, u1, u2, u3, u5, u6, u7, u8, x25, x26, x27, x28, x29, x30, x31, x32, x33, x34, x35, x36, x37, x38, x39, x40, x41, x42, x43, x44, x45, x46, x47, x48, x49, x50, x51], defers := [] } ∧ Fa L [(0, u0, .slice (some ⟨w.heap.size, 0, none⟩) 64 64), (1, u1, .pointer (some ⟨pb, 0, none⟩)), (2, u2, .int .i64 a), (3, u3, .tuple #[.agg (pV (tkV 64 8 f)).toArray, .int .i64 (tkE 64 8 f)]), (4, u4, .tuple #[.agg (pV (tkV 64 8 f)).toArray, .int .i64 (tkE 64 8 f)]), (5, u5, .agg (pV (tkV 64 8 f)).toArray), (6, u6, .int .i64 (tkE 64 8 f)), (7, u7, .pointer (some ⟨w.heap.size + 1, 3, none⟩)), (8, u8, .pointer (some ⟨w.heap.size + 1, 3, none⟩)), (10, u10, .int .i64 (tkE 64 8 f))] ∧ Od L [] ∧ Pr w f n n2 g g2 seen pb a k (L 9) w'
/-- Pa7: what holds at each moment -/
def Pa7Inv (x0 x7 x8 x9 x10 x11 x12 x13 x14 x15 x16 x17 x18 x19 x20 x21 x22 x23 x24 x36 x37 x38 x39 x40 x41 x42 x43 x44 x45 x46 x47 x48 x49 x50 x51 : Value) (w : World) (f : Nat → Int) (n n2 : Nd) (g g2 : Nat → Int) (seen : Array Nat) (pb : Nat) (a k : Int) (i : Nat) (E : Value)  (L : Nat → Bool) (a' : Act) (w' : World) : Prop :=
  ∃ u0 u1 u2 u3 u4 u5 u6 u7 u8 u9 u10, a' = { tmps := #[x0, .pointer (some ⟨w.heap.size, 0, none⟩), .pointer (some ⟨w.heap.size + 1, 0, none⟩), E, .pointer (some ⟨w.heap.size + 2, 0, none⟩), .int .i64 (i : Int), .pointer (some ⟨pb, 0, none⟩), x7, x8, x9, x10, x11, x12, x13, x14, x15, x16, x17, x18, x19, x20, x21, x22, x23, x24, u7, u0, u1, u2, u3, u4, u5, u6, u8, u9, u10, x36, x37, x38, x39, x40, x41, x42, x43, x44, x45, x46, x47, x48, x49, x50, x51], defers := [] } ∧ Fa L [(0, u0, .int .i64 (i : Int)), (1, u1, .slice (some ⟨w.heap.size, 0, none⟩) 64 64), (2, u2, .pointer (some ⟨pb, 0, none⟩)), (3, u3, .int .i64 a), (4, u4, .pointer (some ⟨pb, 1, none⟩)), (5, u5, .int .i64 k), (6, u6, .tuple #[.int .i64 (nmF f i), .int .i64 (Wd.takeE 64 (aI i) (kI i) f)]), (7, u7, .tuple #[.int .i64 (nmF f i), .int .i64 (Wd.takeE 64 (aI i) (kI i) f)]), (8, u8, .int .i64 (nmF f i)), (9, u9, .int .i64 (Wd.takeE 64 (aI i) (kI i) f)), (10, u10, .pointer (some ⟨w.heap.size + 2, i, none⟩))] ∧ Od L [] ∧ Pr w f n n2 g g2 seen pb a k (L 11) w'
/-- Pa8: what holds at each moment -/
def Pa8Inv (x0 x5 x6 x7 x8 x9 x10 x11 x12 x13 x14 x15 x16 x17 x18 x19 x20 x21 x22 x23 x24 x25 x26 x27 x28 x29 x30 x31 x32 x33 x34 x35 x42 x43 x44 x45 x46 x47 x48 x49 x50 x51 : Value) (w : World) (f : Nat → Int) (_n : Nd) (seen : Array Nat) (E : Value)  (L : Nat → Bool) (a' : Act) (w' : World) : Prop :=
  ∃ u0 u1 u2 u3 u4 u6, a' = { tmps := #[x0, .pointer (some ⟨w.heap.size, 0, none⟩), .pointer (some ⟨w.heap.size + 1, 0, none⟩), E, .pointer (some ⟨w.heap.size + 2, 0, none⟩), x5, x6, x7, x8, x9, x10, x11, x12, x13, x14, x15, x16, x17, x18, x19, x20, x21, x22, x23, x24, x25, x26, x27, x28, x29, x30, x31, x32, x33, x34, x35, u0, u1, u2, u3, u4, u6, x42, x43, x44, x45, x46, x47, x48, x49, x50, x51], defers := [] } ∧ Fa L [(0, u0, .pointer (some ⟨w.heap.size + 2, 0, none⟩)), (1, u1, .int .i64 (nmF f 0)), (2, u2, .pointer (some ⟨w.heap.size + 2, 1, none⟩)), (3, u3, .int .i64 (nmF f 1)), (4, u4, .pointer (some ⟨w.heap.size + 1, 1, none⟩)), (6, u6, .pointer (some ⟨w.heap.size + 1, 2, none⟩))] ∧ Od L [] ∧ Ps w f (m8 (paN f) (L 5) (L 7)) (nmF f) seen w'
/-- Pa9: what holds at each moment -/
def Pa9Inv (x0 x5 x6 x7 x8 x9 x10 x11 x12 x13 x14 x15 x16 x17 x18 x19 x20 x21 x22 x23 x24 x25 x26 x27 x28 x29 x30 x31 x32 x33 x34 x35 x36 x37 x38 x39 x40 x41 x50 x51 : Value) (w : World) (f : Nat → Int) (_n : Nd) (seen : Array Nat) (E : Value)  (L : Nat → Bool) (a' : Act) (w' : World) : Prop :=
  ∃ u0 u1 u2 u3 u4 u5 u7 u8, a' = { tmps := #[x0, .pointer (some ⟨w.heap.size, 0, none⟩), .pointer (some ⟨w.heap.size + 1, 0, none⟩), E, .pointer (some ⟨w.heap.size + 2, 0, none⟩), x5, x6, x7, x8, x9, x10, x11, x12, x13, x14, x15, x16, x17, x18, x19, x20, x21, x22, x23, x24, x25, x26, x27, x28, x29, x30, x31, x32, x33, x34, x35, x36, x37, x38, x39, x40, x41, u0, u1, u2, u3, u4, u5, u7, u8, x50, x51], defers := [] } ∧ Fa L [(0, u0, .pointer (some ⟨w.heap.size + 2, 2, none⟩)), (1, u1, .int .i64 (nmF f 2)), (2, u2, .pointer (some ⟨w.heap.size + 2, 3, none⟩)), (3, u3, .int .i64 (nmF f 3)), (4, u4, .pointer (some ⟨w.heap.size + 1, 3, none⟩)), (5, u5, .pointer (some ⟨w.heap.size + 1, 38, none⟩)), (7, u7, .pointer (some ⟨w.heap.size + 1, 3, none⟩)), (8, u8, .pointer (some ⟨w.heap.size + 1, 37, none⟩))] ∧ Od L [] ∧ Ps w f (m9 (paN f) (L 6) (L 9)) (nmF f) seen w'

theorem boxes2 (w : World) (f : Nat → Int) : ∃ W, W = (w.alloc (.cells (b64 f) 30)).alloc (.cells (nV nz).toArray 28) ∧ Below w.heap.size w W ∧ W.heap.size = w.heap.size + 2 ∧ Bb W w.heap.size f ∧ Bn W (w.heap.size + 1) nz := by
  obtain ⟨W1, h1, b1, x1, s1⟩ : ∃ W, W = w.alloc (.cells (b64 f) 30) ∧ Below w.heap.size w W ∧ Bb W w.heap.size f ∧ W.heap.size = w.heap.size + 1 := ⟨_, rfl, bb_new w f⟩
  obtain ⟨W2, h2, b2, x2, s2⟩ : ∃ W, W = W1.alloc (.cells (nV nz).toArray 28) ∧ Below W1.heap.size W1 W ∧ Bn W W1.heap.size nz ∧ W.heap.size = W1.heap.size + 1 := ⟨_, rfl, bn_new W1 nz⟩
  refine ⟨W2, by rw [h2, h1], b1.trans (b2.mono (by omega)), by omega, x1.keep (b2.block _ (by omega)), ?_⟩
  rw [← s1]
  exact x2
set_option maxRecDepth 100000 in
set_option maxHeartbeats 4000000 in
theorem parts_any (f : Nat → Int) (hf : ∀ i, i < 64 → 0 ≤ f i ∧ f i < 256) (w : World) : Calls Try.prog 25 #[.agg (b64 f)] w fun e w' => e = .returned (.tuple #[.agg (nV (paN f)).toArray, .int .i64 (tkE 64 8 f)]) ∧ Below w.heap.size w w' := by
  have HPL := Lib.hid (fun W => places_any W)
  have HF := Lib.hid hf
  obtain ⟨W, hW, hb0, hs0, hx0, hx1⟩ := boxes2 w f
  clear hf
  go_enter Try.func25, Try.ntmps25
  go_upto_region 1 with fail
  rw [znode, ← hW]
  clear hW
  go_upto_region 2 with fail
  obtain ⟨W4, hW4, hb4, hs4, hc4⟩ : ∃ W4, W4 = W.alloc (.cells #[.int .i64 0, .int .i64 0, .int .i64 0, .int .i64 0] 58) ∧ Below W.heap.size W W4 ∧ W4.heap.size = w.heap.size + 3 ∧ W4.heap[w.heap.size + 2]? = some (.cells #[.int .i64 0, .int .i64 0, .int .i64 0, .int .i64 0] 58 (0, 0)) := by
    refine ⟨_, rfl, (Below.refl _ _).alloc (Nat.le_refl _) _, by simp [hs0], ?_⟩
    rw [← hs0]
    exact heap_alloc_new W _
  rw [← hW4]
  have hB4 := hb0.trans (hb4.mono hb0.size)
  have hn4 := hx1.keep (hb4.block _ (by omega))
  have hy4 := hx0.keep (hb4.block _ (by omega))
  clear hW4 hb4 hx0 hx1 hb0
  go_wp2_with fail
  refine (HPL.out W4).mono ?_
  rintro _ w5 ⟨rfl, hw5⟩
  rw [hs4]
  dsimp only
  obtain ⟨hm5, hb5, hs5⟩ : w5.heap[w.heap.size + 3]? = some (.map (ES 5) 5) ∧ Below W4.heap.size W4 w5 ∧ w5.heap.size = w.heap.size + 4 := by
    subst hw5
    refine ⟨by rw [← hs4]; exact heap_alloc_new _ _, (Below.refl _ _).alloc (Nat.le_refl _) _, by simp [hs4]⟩
  have hS : Ps w f ⟨0, 0, 0, rtS f #[], 0, 0⟩ (nuS f #[]) #[] (w5.alloc (.mapIter (some (w.heap.size + 3)) 5 #[] 5)) := by
    have hb6 : Below w5.heap.size w5 (w5.alloc (.mapIter (some (w.heap.size + 3)) 5 #[] 5)) := (Below.refl _ _).alloc (Nat.le_refl _) _
    have hB : Below W4.heap.size W4 (w5.alloc (.mapIter (some (w.heap.size + 3)) 5 #[] 5)) := hb5.trans (hb6.mono hb5.size)
    refine ⟨hB4.trans (hB.mono (by omega)), by simp [hs5], hy4.keep (hB.block _ (by omega)), ?_, ⟨_, (hB.block _ (by omega)).trans hc4, fun k hk => ?_⟩, ?_⟩
    · have e : rtS f #[] = pz := by simp [rtS]
      rw [e]
      exact hn4.keep (hB.block _ (by omega))
    · have e : nuS f #[] k = 0 := by simp [nuS]
      rw [e]
      match k, hk with
      | 0, _ => rfl
      | 1, _ => rfl
      | 2, _ => rfl
      | 3, _ => rfl
      | j + 4, h => omega
    · have := rg_start hm5
      rwa [hs5] at this
  clear hw5 hb5 hB4 hn4 hy4 hc4 HPL hs0
  go_wp2_with (at_range; refine wpList_range5 rfl _ rfl (w.heap.size + 3) rfl hm5 ?_)
  go_frame
  rw [hs5]
  have HS := Lib.hid hS
  clear hS
  generalize w5.alloc (.mapIter (some (w.heap.size + 3)) 5 #[] 5) = w6 at *
  go_loopw [3, 5, 6] (fun e _ _ wr => ∃ seen, e = .int .i64 (esS f seen) ∧ Hid (Ps w f ⟨0, 0, 0, rtS f seen, 0, 0⟩ (nuS f seen) seen wr)) (fun _ _ _ wr => leftI (wr.iterSeen (w.heap.size + 4)))
  case atStart => exact ⟨#[], by simp [esS], HS⟩
  case round =>
    clear HS hm5 hs5
    obtain ⟨seen, rfl, hR⟩ := hrel
    have hrg := hR.out.rg
    have hsn := hrg.seen
    go_wp2_with (at_next; refine wpList_next5 rfl _ rfl (w.heap.size + 3) (w.heap.size + 4) seen rfl hrg (by omega) ?_ ?_)
    · intro hall
      have hall' : ∀ k, k < 5 → seen.contains k = true := fun k hk => by simpa using hall k hk
      have hE : Ps w f (m8 (paN f) false false) (nmF f) seen wr := hR.out.congr (fun k hk => by unfold nuS; rw [if_pos (hall' k (by omega))]) (by unfold rtS m8; rw [if_pos (hall' 4 (by omega))]; rfl)
      have hee : esS f seen = tkE 64 8 f := by unfold esS; rw [if_pos (hall' 4 (by omega))]
      rw [hee]
      have HE := Lib.hid hE
      clear hall hall' hE hrg hsn hR hee
      go_wp2_with fail
      refine QuietTail2.regionInv (n := 8) (Inv := Pa8Inv _ _ _ _ _ _ _ _ _ _ _ _ _ _ _ _ _ _ _ _ _ _ _ _ _ _ _ _ _ _ _ _ _ _ _ _ _ _ _ _ _ _ w f (paN f) seen _) (by kernel_rfl) (by decide) (by kernel_rfl) ⟨_, _, _, _, _, _, rfl, Fa.none _, Od.none _, ?_⟩ ?step ?fin
      exact HE.out.below (drawn_below _)
      case step =>
        rintro j o hi ho L a' w' ⟨u0, u1, u2, u3, u4, u6, rfl, TF, TO, TW⟩ hL hpre
        match j, hi with
        | 0, _ =>
          simp at ho
          subst ho
          go_simp
          exact ⟨_, u1, u2, u3, u4, u6, rfl, TF.set 0, TO.set 0 trivial, TW⟩
        | 1, _ =>
          simp at ho
          subst ho
          obtain rfl := TF.1 (hpre 0 (by kernel_rfl))
          have hc := (TW.at (k := 0) (by omega)).1
          go_simp
          exact ⟨_, _, u2, u3, u4, u6, rfl, TF.set 1, TO.set 1 trivial, TW⟩
        | 2, _ =>
          simp at ho
          subst ho
          go_simp
          exact ⟨u0, u1, _, u3, u4, u6, rfl, TF.set 2, TO.set 2 trivial, TW⟩
        | 3, _ =>
          simp at ho
          subst ho
          obtain rfl := TF.2.2.1 (hpre 2 (by kernel_rfl))
          have hc := (TW.at (k := 1) (by omega)).1
          go_simp
          exact ⟨u0, u1, _, _, u4, u6, rfl, TF.set 3, TO.set 3 trivial, TW⟩
        | 4, _ =>
          simp at ho
          subst ho
          go_simp
          exact ⟨u0, u1, u2, u3, _, u6, rfl, TF.set 4, TO.set 4 trivial, TW⟩
        | 5, _ =>
          simp at ho
          subst ho
          obtain rfl := TF.2.2.2.2.1 (hpre 4 (by kernel_rfl))
          obtain rfl := TF.2.1 (hpre 1 (by kernel_rfl))
          have hw := TW
          rw [hL] at hw
          have hc := hw.nd.K
          have hf := hw.nd.free 1
          go_simp
          exact ⟨u0, _, u2, u3, _, u6, rfl, TF.set 5, TO.set 5 trivial, (hw.field 1 _ (set_K _ _))⟩
        | 6, _ =>
          simp at ho
          subst ho
          go_simp
          exact ⟨u0, u1, u2, u3, u4, _, rfl, TF.set 6, TO.set 6 trivial, TW⟩
        | 7, _ =>
          simp at ho
          subst ho
          obtain rfl := TF.2.2.2.2.2.1 (hpre 6 (by kernel_rfl))
          obtain rfl := TF.2.2.2.1 (hpre 3 (by kernel_rfl))
          have hw := TW
          rw [hL] at hw
          have hc := hw.nd.L
          have hf := hw.nd.free 2
          go_simp
          exact ⟨u0, u1, u2, _, u4, _, rfl, TF.set 7, TO.set 7 trivial, (hw.field 2 _ (set_L _ _))⟩
        | i + 8, h => omega
      case fin =>
        rintro L a' w' hall ⟨u0, u1, u2, u3, u4, u6, rfl, TF, TO, hWD⟩
        rw [hall 5 (by omega), hall 7 (by omega)] at hWD
        clear TF TO
        refine wpList_nil ?_
        have HW8 := Lib.hid hWD
        clear hWD HE
        go_wp2_with fail
        refine QuietTail2.regionInv (n := 10) (Inv := Pa9Inv _ _ _ _ _ _ _ _ _ _ _ _ _ _ _ _ _ _ _ _ _ _ _ _ _ _ _ _ _ _ _ _ _ _ _ _ _ _ _ _ w f (paN f) seen _) (by kernel_rfl) (by decide) (by kernel_rfl) ⟨_, _, _, _, _, _, _, _, rfl, Fa.none _, Od.none _, ?_⟩ ?step ?fin
        exact HW8.out.below (drawn_below _)
        case step =>
          rintro j o hi ho L a' w' ⟨u0, u1, u2, u3, u4, u5, u7, u8, rfl, TF, TO, TW⟩ hL hpre
          match j, hi with
          | 0, _ =>
            simp at ho
            subst ho
            go_simp
            exact ⟨_, u1, u2, u3, u4, u5, u7, u8, rfl, TF.set 0, TO.set 0 trivial, TW⟩
          | 1, _ =>
            simp at ho
            subst ho
            obtain rfl := TF.1 (hpre 0 (by kernel_rfl))
            have hc := (TW.at (k := 2) (by omega)).1
            go_simp
            exact ⟨_, _, u2, u3, u4, u5, u7, u8, rfl, TF.set 1, TO.set 1 trivial, TW⟩
          | 2, _ =>
            simp at ho
            subst ho
            go_simp
            exact ⟨u0, u1, _, u3, u4, u5, u7, u8, rfl, TF.set 2, TO.set 2 trivial, TW⟩
          | 3, _ =>
            simp at ho
            subst ho
            obtain rfl := TF.2.2.1 (hpre 2 (by kernel_rfl))
            have hc := (TW.at (k := 3) (by omega)).1
            go_simp
            exact ⟨u0, u1, _, _, u4, u5, u7, u8, rfl, TF.set 3, TO.set 3 trivial, TW⟩
          | 4, _ =>
            simp at ho
            subst ho
            go_simp
            exact ⟨u0, u1, u2, u3, _, u5, u7, u8, rfl, TF.set 4, TO.set 4 trivial, TW⟩
          | 5, _ =>
            simp at ho
            subst ho
            obtain rfl := TF.2.2.2.2.1 (hpre 4 (by kernel_rfl))
            go_simp
            exact ⟨u0, u1, u2, u3, _, _, u7, u8, rfl, TF.set 5, TO.set 5 trivial, TW⟩
          | 6, _ =>
            simp at ho
            subst ho
            obtain rfl := TF.2.2.2.2.2.1 (hpre 5 (by kernel_rfl))
            obtain rfl := TF.2.1 (hpre 1 (by kernel_rfl))
            have hw := TW
            rw [hL] at hw
            have hc := hw.nd.c
            have hf := hw.nd.free 38
            go_simp
            exact ⟨u0, _, u2, u3, u4, _, u7, u8, rfl, TF.set 6, TO.set 6 trivial, (hw.field 38 _ (set_c _ _))⟩
          | 7, _ =>
            simp at ho
            subst ho
            go_simp
            exact ⟨u0, u1, u2, u3, u4, u5, _, u8, rfl, TF.set 7, TO.set 7 trivial, TW⟩
          | 8, _ =>
            simp at ho
            subst ho
            obtain rfl := TF.2.2.2.2.2.2.1 (hpre 7 (by kernel_rfl))
            go_simp
            exact ⟨u0, u1, u2, u3, u4, u5, _, _, rfl, TF.set 8, TO.set 8 trivial, TW⟩
          | 9, _ =>
            simp at ho
            subst ho
            obtain rfl := TF.2.2.2.2.2.2.2.1 (hpre 8 (by kernel_rfl))
            obtain rfl := TF.2.2.2.1 (hpre 3 (by kernel_rfl))
            have hw := TW
            rw [hL] at hw
            have hc := hw.nd.z
            have hf := hw.nd.free 37
            go_simp
            exact ⟨u0, u1, u2, _, u4, u5, u7, _, rfl, TF.set 9, TO.set 9 trivial, (hw.field 37 _ (set_z _ _))⟩
          | i + 10, h => omega
        case fin =>
          rintro L a' w' hall ⟨u0, u1, u2, u3, u4, u5, u7, u8, rfl, TF, TO, hWD⟩
          rw [hall 6 (by omega), hall 9 (by omega)] at hWD
          clear TF TO
          refine wpList_nil ?_
          have h9 : Ps w f (paN f) (nmF f) seen w' := hWD
          have hnd := h9.nd
          have hrow := hnd.all
          have HN := Lib.hid hnd
          have HB := Lib.hid h9
          clear h9 hnd hWD HW8
          go_wp2_with (first
            | (refine wpList_load_mid rfl 28 (.tmp 2) rfl (w.heap.size + 1) 0 rfl (nV (paN f)) _ (by exact hrow) undN rfl (sizeN _) ?_; simp only [Act.put, List.setIfInBounds_toArray, List.set_cons_succ, List.set_cons_zero])
            | (refine @wpList_store_row _ _ _ _ _ _ _ rfl 28 (.tmp 2) (.tmp 50) rfl (w.heap.size + 1) (nV (paN f)).toArray rfl rfl 28 _ HN.out.row (sizeN' _) rfl (nV_all _) ?_; simp only [Act.put]))
          refine bodyPost_ret (results_2n rfl rfl rfl (setRow_heap _ _ _ _ _ _ HN.out.row)) rfl ?_
          exact ⟨rfl, HB.out.bel.grown (grown_row _) (by have := HB.out.bel.size; have := HB.out.sz; omega) (fun j hj => by cases hj; omega)⟩
    · intro i w7 hi hns hrg7 hlt hg7 hs7 hen
      have h7 := hR.out.next hg7 hrg7
      have hsz7 := h7.sz
      have hns' : seen.contains i = false := by simpa using hns
      clear hns
      by_cases h4 : i = 4
      · subst h4
        simp only [plV, show aI 4 = 8 from rfl, show kI 4 = 40 from rfl] at hen ⊢
        go_upto_region 5 with fail
        obtain ⟨pb, hpb⟩ : ∃ pb, pb = wr.heap.size := ⟨_, rfl⟩
        rw [← hpb] at hs7 ⊢
        obtain ⟨w8, hw8, h8, c80, c81⟩ := pr_new (a := 8) (k := 40) h7
        rw [hs7] at c80 c81
        rw [← hw8]
        clear hw8 hen hrg7 hg7 hpb
        have HR8 := Lib.hid (Pr.start (n' := ⟨0, 0, 0, tkV 64 8 f, 0, 0⟩) (g' := nuS f seen) h8 c80 c81)
        have HTK := Lib.hid (fun W (h : Wd.Own W w.heap.size (some ⟨w.heap.size, 0, none⟩) 64 64 f) => Pt.take_any W w.heap.size (some ⟨w.heap.size, 0, none⟩) 64 64 f 8 h HF.out (by omega))
        have HSN := Lib.hid hsn
        clear h8 c80 c81 h7 hsn
        go_wp2_with fail
        refine QuietTail2.regionInv (n := 11) (Inv := Pa6Inv _ _ _ _ _ _ _ _ _ _ _ _ _ _ _ _ _ _ _ _ _ _ _ _ _ _ _ _ _ _ _ _ _ _ _ _ _ _ w f ⟨0, 0, 0, rtS f seen, 0, 0⟩ ⟨0, 0, 0, tkV 64 8 f, 0, 0⟩ (nuS f seen) (nuS f seen) (seen.push 4) pb 8 40) (by kernel_rfl) (by decide) (by kernel_rfl) ⟨_, _, _, _, _, _, _, _, _, _, rfl, Fa.none _, Od.none _, ?_⟩ ?step ?fin
        exact HR8.out
        case step =>
          rintro j o hi ho L a' w' ⟨u0, u1, u2, u3, u4, u5, u6, u7, u8, u10, rfl, TF, TO, TW⟩ hL hpre
          match j, hi with
          | 0, _ =>
            simp at ho
            subst ho
            go_simp
            exact ⟨_, u1, u2, u3, u4, u5, u6, u7, u8, u10, rfl, TF.set 0, TO.set 0 trivial, TW⟩
          | 1, _ =>
            simp at ho
            subst ho
            go_simp
            exact ⟨u0, _, u2, u3, u4, u5, u6, u7, u8, u10, rfl, TF.set 1, TO.set 1 trivial, TW⟩
          | 2, _ =>
            simp at ho
            subst ho
            obtain rfl := TF.2.1 (hpre 1 (by kernel_rfl))
            have hc := TW.c0
            go_simp
            exact ⟨u0, _, _, u3, u4, u5, u6, u7, u8, u10, rfl, TF.set 2, TO.set 2 trivial, TW⟩
          | 3, _ =>
            simp at ho
            subst ho
            obtain rfl := TF.1 (hpre 0 (by kernel_rfl))
            obtain rfl := TF.2.2.1 (hpre 2 (by kernel_rfl))
            have hw := TW
            go_simp
            refine (HTK.out w' hw.st.by'.own).mono ?_
            rintro _ w'' ⟨rfl, hb⟩
            exact ⟨_, u1, _, _, u4, u5, u6, u7, u8, u10, rfl, TF.set 3, TO.set 3 trivial, (hw.below hb)⟩
          | 4, _ =>
            simp at ho
            subst ho
            obtain rfl := TF.2.2.2.1 (hpre 3 (by kernel_rfl))
            go_simp
            exact ⟨u0, u1, u2, _, _, u5, u6, u7, u8, u10, rfl, TF.set 4, TO.set 4 trivial, TW⟩
          | 5, _ =>
            simp at ho
            subst ho
            obtain rfl := TF.2.2.2.2.1 (hpre 4 (by kernel_rfl))
            go_simp
            exact ⟨u0, u1, u2, u3, _, _, u6, u7, u8, u10, rfl, TF.set 5, TO.set 5 trivial, TW⟩
          | 6, _ =>
            simp at ho
            subst ho
            obtain rfl := TF.2.2.2.2.1 (hpre 4 (by kernel_rfl))
            go_simp
            exact ⟨u0, u1, u2, u3, _, u5, _, u7, u8, u10, rfl, TF.set 6, TO.set 6 trivial, TW⟩
          | 7, _ =>
            simp at ho
            subst ho
            go_simp
            exact ⟨u0, u1, u2, u3, u4, u5, u6, _, u8, u10, rfl, TF.set 7, TO.set 7 trivial, TW⟩
          | 8, _ =>
            simp at ho
            subst ho
            obtain rfl := TF.2.2.2.2.2.2.2.1 (hpre 7 (by kernel_rfl))
            go_simp
            exact ⟨u0, u1, u2, u3, u4, u5, u6, _, _, u10, rfl, TF.set 8, TO.set 8 trivial, TW⟩
          | 9, _ =>
            simp at ho
            subst ho
            obtain rfl := TF.2.2.2.2.2.1 (hpre 5 (by kernel_rfl))
            obtain rfl := TF.2.2.2.2.2.2.2.2.1 (hpre 8 (by kernel_rfl))
            have hw := TW
            rw [hL] at hw
            refine wp_store_mid 24 (.tmp 24) (.tmp 21) rfl (w.heap.size + 1) 3 (pV (tkV 64 8 f)).toArray rfl rfl (by rw [pV_asize]; exact hw.st.nd.there) (sizeP' _) (pV_all _) ?_
            simp only [Act.put]
            exact ⟨u0, u1, u2, u3, u4, _, u6, u7, _, u10, rfl, TF.set 9, TO.set 9 trivial, (hw.turn (by omega) (grown_setCells _ _ _ _) ((hw.st.root _).congr (fun _ _ => rfl) rfl))⟩
          | 10, _ =>
            simp at ho
            subst ho
            obtain rfl := TF.2.2.2.2.2.2.1 (hpre 6 (by kernel_rfl))
            go_simp
            exact ⟨u0, u1, u2, u3, u4, u5, _, u7, u8, _, rfl, TF.set 10, TO.set 10 trivial, TW⟩
          | i + 11, h => omega
        case fin =>
          rintro L a' w' hall ⟨u0, u1, u2, u3, u4, u5, u6, u7, u8, u10, rfl, TF, TO, hWD⟩
          rw [hall 9 (by omega)] at hWD
          obtain rfl := TF.2.2.2.2.2.2.2.2.2.1 (hall 10 (by omega))
          clear TF TO
          refine wpList_nil ?_
          obtain ⟨hS8, _, _⟩ := hWD
          have HS8 := Lib.hid (hS8.congr (g' := nuS f (seen.push 4)) (n' := ⟨0, 0, 0, rtS f (seen.push 4), 0, 0⟩) (fun k hk => (nuS_4 f seen hk).symm) (by rw [rtS_4]; rfl))
          have HE8 := Lib.hid (esS_4 f seen)
          clear hS8 HR8 HTK
          go_roundw
          case rel => first | exact ⟨_, _, _, _, _, _, _, _, _, _, _, _, _, _, _, _, _, _, _, _, ⟨_, by rw [HE8.out], HS8⟩, rfl⟩ | exact ⟨_, _, _, _, _, _, _, _, _, _, _, _, _, _, _, _, _, _, _, _, _, ⟨_, by rw [HE8.out], HS8⟩, rfl⟩ | exact ⟨_, _, _, _, _, _, _, _, _, _, _, _, _, _, _, _, _, _, _, _, _, _, ⟨_, by rw [HE8.out], HS8⟩, rfl⟩ | exact ⟨_, _, _, _, _, _, _, _, _, _, _, _, _, _, _, _, _, _, _, _, _, _, _, ⟨_, by rw [HE8.out], HS8⟩, rfl⟩ | exact ⟨_, _, _, _, _, _, _, _, _, _, _, _, _, _, _, _, _, _, _, _, _, _, _, _, ⟨_, by rw [HE8.out], HS8⟩, rfl⟩ | exact ⟨_, _, _, _, _, _, _, _, _, _, _, _, _, _, _, _, _, _, _, _, _, _, _, _, _, ⟨_, by rw [HE8.out], HS8⟩, rfl⟩ | exact ⟨_, _, _, _, _, _, _, _, _, _, _, _, _, _, _, _, _, _, _, _, _, _, _, _, _, _, ⟨_, by rw [HE8.out], HS8⟩, rfl⟩ | exact ⟨_, _, _, _, _, _, _, _, _, _, _, _, _, _, _, _, _, _, _, _, _, _, _, _, _, _, _, ⟨_, by rw [HE8.out], HS8⟩, rfl⟩ | exact ⟨_, _, _, _, _, _, _, _, _, _, _, _, _, _, _, _, _, _, _, _, _, _, _, _, _, _, _, _, ⟨_, by rw [HE8.out], HS8⟩, rfl⟩ | exact ⟨_, _, _, _, _, _, _, _, _, _, _, _, _, _, _, _, _, _, _, _, _, _, _, _, _, _, _, _, _, ⟨_, by rw [HE8.out], HS8⟩, rfl⟩ | exact ⟨_, _, _, _, _, _, _, _, _, _, _, _, _, _, _, _, _, _, _, _, _, _, _, _, _, _, _, _, _, _, ⟨_, by rw [HE8.out], HS8⟩, rfl⟩ | exact ⟨_, _, _, _, _, _, _, _, _, _, _, _, _, _, _, _, _, _, _, _, _, _, _, _, _, _, _, _, _, _, _, ⟨_, by rw [HE8.out], HS8⟩, rfl⟩ | exact ⟨_, _, _, _, _, _, _, _, _, _, _, _, _, _, _, _, _, _, _, _, _, _, _, _, _, _, _, _, _, _, _, _, ⟨_, by rw [HE8.out], HS8⟩, rfl⟩ | exact ⟨_, _, _, _, _, _, _, _, _, _, _, _, _, _, _, _, _, _, _, _, _, _, _, _, _, _, _, _, _, _, _, _, _, ⟨_, by rw [HE8.out], HS8⟩, rfl⟩ | exact ⟨_, _, _, _, _, _, _, _, _, _, _, _, _, _, _, _, _, _, _, _, _, _, _, _, _, _, _, _, _, _, _, _, _, _, ⟨_, by rw [HE8.out], HS8⟩, rfl⟩ | exact ⟨_, _, _, _, _, _, _, _, _, _, _, _, _, _, _, _, _, _, _, _, _, _, _, _, _, _, _, _, _, _, _, _, _, _, _, ⟨_, by rw [HE8.out], HS8⟩, rfl⟩ | exact ⟨_, _, _, _, _, _, _, _, _, _, _, _, _, _, _, _, _, _, _, _, _, _, _, _, _, _, _, _, _, _, _, _, _, _, _, _, ⟨_, by rw [HE8.out], HS8⟩, rfl⟩ | exact ⟨_, _, _, _, _, _, _, _, _, _, _, _, _, _, _, _, _, _, _, _, _, _, _, _, _, _, _, _, _, _, _, _, _, _, _, _, _, ⟨_, by rw [HE8.out], HS8⟩, rfl⟩ | exact ⟨_, _, _, _, _, _, _, _, _, _, _, _, _, _, _, _, _, _, _, _, _, _, _, _, _, _, _, _, _, _, _, _, _, _, _, _, _, _, ⟨_, by rw [HE8.out], HS8⟩, rfl⟩ | exact ⟨_, _, _, _, _, _, _, _, _, _, _, _, _, _, _, _, _, _, _, _, _, _, _, _, _, _, _, _, _, _, _, _, _, _, _, _, _, _, _, ⟨_, by rw [HE8.out], HS8⟩, rfl⟩ | exact ⟨_, _, _, _, _, _, _, _, _, _, _, _, _, _, _, _, _, _, _, _, _, _, _, _, _, _, _, _, _, _, _, _, _, _, _, _, _, _, _, _, ⟨_, by rw [HE8.out], HS8⟩, rfl⟩ | exact ⟨_, _, _, _, _, _, _, _, _, _, _, _, _, _, _, _, _, _, _, _, _, _, _, _, _, _, _, _, _, _, _, _, _, _, _, _, _, _, _, _, _, ⟨_, by rw [HE8.out], HS8⟩, rfl⟩ | exact ⟨_, _, _, _, _, _, _, _, _, _, _, _, _, _, _, _, _, _, _, _, _, _, _, _, _, _, _, _, _, _, _, _, _, _, _, _, _, _, _, _, _, _, ⟨_, by rw [HE8.out], HS8⟩, rfl⟩ | exact ⟨_, _, _, _, _, _, _, _, _, _, _, _, _, _, _, _, _, _, _, _, _, _, _, _, _, _, _, _, _, _, _, _, _, _, _, _, _, _, _, _, _, _, _, ⟨_, by rw [HE8.out], HS8⟩, rfl⟩ | exact ⟨_, _, _, _, _, _, _, _, _, _, _, _, _, _, _, _, _, _, _, _, _, _, _, _, _, _, _, _, _, _, _, _, _, _, _, _, _, _, _, _, _, _, _, _, ⟨_, by rw [HE8.out], HS8⟩, rfl⟩ | exact ⟨_, _, _, _, _, _, _, _, _, _, _, _, _, _, _, _, _, _, _, _, _, _, _, _, _, _, _, _, _, _, _, _, _, _, _, _, _, _, _, _, _, _, _, _, _, ⟨_, by rw [HE8.out], HS8⟩, rfl⟩ | exact ⟨_, _, _, _, _, _, _, _, _, _, _, _, _, _, _, _, _, _, _, _, _, _, _, _, _, _, _, _, _, _, _, _, _, _, _, _, _, _, _, _, _, _, _, _, _, _, ⟨_, by rw [HE8.out], HS8⟩, rfl⟩ | exact ⟨_, _, _, _, _, _, _, _, _, _, _, _, _, _, _, _, _, _, _, _, _, _, _, _, _, _, _, _, _, _, _, _, _, _, _, _, _, _, _, _, _, _, _, _, _, _, _, ⟨_, by rw [HE8.out], HS8⟩, rfl⟩
          case measure =>
            rw [HS8.out.rg.seen, HSN.out]
            exact hlt
      · have hi4 : i < 4 := by omega
        have e4 : ((i : Int) == 4) = false := beq_eq_false_iff_ne.2 (by omega)
        simp only [plV] at hen ⊢
        go_upto_region 5 with fail
        obtain ⟨pb, hpb⟩ : ∃ pb, pb = wr.heap.size := ⟨_, rfl⟩
        rw [← hpb] at hs7 ⊢
        obtain ⟨w8, hw8, h8, c80, c81⟩ := pr_new (a := aI i) (k := kI i) h7
        rw [hs7] at c80 c81
        rw [← hw8]
        clear hw8 hen hrg7 hg7 hpb h4
        have HR8 := Lib.hid (Pr.start (n' := ⟨0, 0, 0, rtS f seen, 0, 0⟩) (g' := fun k => if k = i then nmF f i else nuS f seen k) h8 c80 c81)
        have HTK := Lib.hid (fun W (h : Wd.Reads W (some ⟨w.heap.size, 0, none⟩) 64 64 f) => Wd.take_any W (some ⟨w.heap.size, 0, none⟩) 64 64 f (aI i) (kI i) h HF.out (by omega))
        have HSN := Lib.hid hsn
        clear h8 c80 c81 h7 hsn
        go_wp2_with fail
        refine QuietTail2.regionInv (n := 12) (Inv := Pa7Inv _ _ _ _ _ _ _ _ _ _ _ _ _ _ _ _ _ _ _ _ _ _ _ _ _ _ _ _ _ _ _ _ _ _ _ w f ⟨0, 0, 0, rtS f seen, 0, 0⟩ ⟨0, 0, 0, rtS f seen, 0, 0⟩ (nuS f seen) (fun k => if k = i then nmF f i else nuS f seen k) (seen.push i) pb (aI i) (kI i) i _) (by kernel_rfl) (by decide) (by kernel_rfl) ⟨_, _, _, _, _, _, _, _, _, _, _, rfl, Fa.none _, Od.none _, ?_⟩ ?step ?fin
        exact HR8.out
        case step =>
          rintro j o hi ho L a' w' ⟨u0, u1, u2, u3, u4, u5, u6, u7, u8, u9, u10, rfl, TF, TO, TW⟩ hL hpre
          match j, hi with
          | 0, _ =>
            simp at ho
            subst ho
            go_simp
            exact ⟨_, u1, u2, u3, u4, u5, u6, u7, u8, u9, u10, rfl, TF.set 0, TO.set 0 trivial, TW⟩
          | 1, _ =>
            simp at ho
            subst ho
            go_simp
            exact ⟨u0, _, u2, u3, u4, u5, u6, u7, u8, u9, u10, rfl, TF.set 1, TO.set 1 trivial, TW⟩
          | 2, _ =>
            simp at ho
            subst ho
            go_simp
            exact ⟨u0, u1, _, u3, u4, u5, u6, u7, u8, u9, u10, rfl, TF.set 2, TO.set 2 trivial, TW⟩
          | 3, _ =>
            simp at ho
            subst ho
            obtain rfl := TF.2.2.1 (hpre 2 (by kernel_rfl))
            have hc := TW.c0
            go_simp
            exact ⟨u0, u1, _, _, u4, u5, u6, u7, u8, u9, u10, rfl, TF.set 3, TO.set 3 trivial, TW⟩
          | 4, _ =>
            simp at ho
            subst ho
            go_simp
            exact ⟨u0, u1, u2, u3, _, u5, u6, u7, u8, u9, u10, rfl, TF.set 4, TO.set 4 trivial, TW⟩
          | 5, _ =>
            simp at ho
            subst ho
            obtain rfl := TF.2.2.2.2.1 (hpre 4 (by kernel_rfl))
            have hc := TW.c1
            go_simp
            exact ⟨u0, u1, u2, u3, _, _, u6, u7, u8, u9, u10, rfl, TF.set 5, TO.set 5 trivial, TW⟩
          | 6, _ =>
            simp at ho
            subst ho
            obtain rfl := TF.2.1 (hpre 1 (by kernel_rfl))
            obtain rfl := TF.2.2.2.1 (hpre 3 (by kernel_rfl))
            obtain rfl := TF.2.2.2.2.2.1 (hpre 5 (by kernel_rfl))
            have hw := TW
            go_simp
            refine (HTK.out w' hw.st.by'.own.reads).mono ?_
            rintro _ _ ⟨rfl, rfl⟩
            exact ⟨u0, _, u2, _, u4, _, _, u7, u8, u9, u10, rfl, TF.set 6, TO.set 6 trivial, TW⟩
          | 7, _ =>
            simp at ho
            subst ho
            obtain rfl := TF.2.2.2.2.2.2.1 (hpre 6 (by kernel_rfl))
            go_simp
            exact ⟨u0, u1, u2, u3, u4, u5, _, _, u8, u9, u10, rfl, TF.set 7, TO.set 7 trivial, TW⟩
          | 8, _ =>
            simp at ho
            subst ho
            obtain rfl := TF.2.2.2.2.2.2.2.1 (hpre 7 (by kernel_rfl))
            go_simp
            exact ⟨u0, u1, u2, u3, u4, u5, u6, _, _, u9, u10, rfl, TF.set 8, TO.set 8 trivial, TW⟩
          | 9, _ =>
            simp at ho
            subst ho
            obtain rfl := TF.2.2.2.2.2.2.2.1 (hpre 7 (by kernel_rfl))
            go_simp
            exact ⟨u0, u1, u2, u3, u4, u5, u6, _, u8, _, u10, rfl, TF.set 9, TO.set 9 trivial, TW⟩
          | 10, _ =>
            simp at ho
            subst ho
            obtain rfl := TF.1 (hpre 0 (by kernel_rfl))
            have hi5 : (i : Int) < 4 := by omega
            go_simp
            exact ⟨_, u1, u2, u3, u4, u5, u6, u7, u8, u9, _, rfl, TF.set 10, TO.set 10 trivial, TW⟩
          | 11, _ =>
            simp at ho
            subst ho
            obtain rfl := TF.2.2.2.2.2.2.2.2.1 (hpre 8 (by kernel_rfl))
            obtain rfl := TF.2.2.2.2.2.2.2.2.2.2.1 (hpre 10 (by kernel_rfl))
            have hw := TW
            rw [hL] at hw
            obtain ⟨hc, hf⟩ := hw.st.at hi4
            go_simp
            exact ⟨u0, u1, u2, u3, u4, u5, u6, u7, _, u9, _, rfl, TF.set 11, TO.set 11 trivial, (hw.turn (by omega) (grown_setCell _ _ _ _) (hw.st.numb _ _))⟩
          | i + 12, h => omega
        case fin =>
          rintro L a' w' hall ⟨u0, u1, u2, u3, u4, u5, u6, u7, u8, u9, u10, rfl, TF, TO, hWD⟩
          rw [hall 11 (by omega)] at hWD
          clear TF TO
          refine wpList_nil ?_
          obtain ⟨hS8, _, _⟩ := hWD
          have HS8 := Lib.hid (hS8.congr (g' := nuS f (seen.push i)) (n' := ⟨0, 0, 0, rtS f (seen.push i), 0, 0⟩) (fun k _ => (nuS_i f seen i k).symm) (by rw [rtS_i f seen hi4]; rfl))
          have HE8 := Lib.hid (esS_i f seen hi4)
          clear hS8 HR8 HTK
          go_roundw
          case rel => first | exact ⟨_, _, _, _, _, _, _, _, _, _, _, _, _, _, _, _, _, _, _, _, ⟨_, by rw [HE8.out], HS8⟩, rfl⟩ | exact ⟨_, _, _, _, _, _, _, _, _, _, _, _, _, _, _, _, _, _, _, _, _, ⟨_, by rw [HE8.out], HS8⟩, rfl⟩ | exact ⟨_, _, _, _, _, _, _, _, _, _, _, _, _, _, _, _, _, _, _, _, _, _, ⟨_, by rw [HE8.out], HS8⟩, rfl⟩ | exact ⟨_, _, _, _, _, _, _, _, _, _, _, _, _, _, _, _, _, _, _, _, _, _, _, ⟨_, by rw [HE8.out], HS8⟩, rfl⟩ | exact ⟨_, _, _, _, _, _, _, _, _, _, _, _, _, _, _, _, _, _, _, _, _, _, _, _, ⟨_, by rw [HE8.out], HS8⟩, rfl⟩ | exact ⟨_, _, _, _, _, _, _, _, _, _, _, _, _, _, _, _, _, _, _, _, _, _, _, _, _, ⟨_, by rw [HE8.out], HS8⟩, rfl⟩ | exact ⟨_, _, _, _, _, _, _, _, _, _, _, _, _, _, _, _, _, _, _, _, _, _, _, _, _, _, ⟨_, by rw [HE8.out], HS8⟩, rfl⟩ | exact ⟨_, _, _, _, _, _, _, _, _, _, _, _, _, _, _, _, _, _, _, _, _, _, _, _, _, _, _, ⟨_, by rw [HE8.out], HS8⟩, rfl⟩ | exact ⟨_, _, _, _, _, _, _, _, _, _, _, _, _, _, _, _, _, _, _, _, _, _, _, _, _, _, _, _, ⟨_, by rw [HE8.out], HS8⟩, rfl⟩ | exact ⟨_, _, _, _, _, _, _, _, _, _, _, _, _, _, _, _, _, _, _, _, _, _, _, _, _, _, _, _, _, ⟨_, by rw [HE8.out], HS8⟩, rfl⟩ | exact ⟨_, _, _, _, _, _, _, _, _, _, _, _, _, _, _, _, _, _, _, _, _, _, _, _, _, _, _, _, _, _, ⟨_, by rw [HE8.out], HS8⟩, rfl⟩ | exact ⟨_, _, _, _, _, _, _, _, _, _, _, _, _, _, _, _, _, _, _, _, _, _, _, _, _, _, _, _, _, _, _, ⟨_, by rw [HE8.out], HS8⟩, rfl⟩ | exact ⟨_, _, _, _, _, _, _, _, _, _, _, _, _, _, _, _, _, _, _, _, _, _, _, _, _, _, _, _, _, _, _, _, ⟨_, by rw [HE8.out], HS8⟩, rfl⟩ | exact ⟨_, _, _, _, _, _, _, _, _, _, _, _, _, _, _, _, _, _, _, _, _, _, _, _, _, _, _, _, _, _, _, _, _, ⟨_, by rw [HE8.out], HS8⟩, rfl⟩ | exact ⟨_, _, _, _, _, _, _, _, _, _, _, _, _, _, _, _, _, _, _, _, _, _, _, _, _, _, _, _, _, _, _, _, _, _, ⟨_, by rw [HE8.out], HS8⟩, rfl⟩ | exact ⟨_, _, _, _, _, _, _, _, _, _, _, _, _, _, _, _, _, _, _, _, _, _, _, _, _, _, _, _, _, _, _, _, _, _, _, ⟨_, by rw [HE8.out], HS8⟩, rfl⟩ | exact ⟨_, _, _, _, _, _, _, _, _, _, _, _, _, _, _, _, _, _, _, _, _, _, _, _, _, _, _, _, _, _, _, _, _, _, _, _, ⟨_, by rw [HE8.out], HS8⟩, rfl⟩ | exact ⟨_, _, _, _, _, _, _, _, _, _, _, _, _, _, _, _, _, _, _, _, _, _, _, _, _, _, _, _, _, _, _, _, _, _, _, _, _, ⟨_, by rw [HE8.out], HS8⟩, rfl⟩ | exact ⟨_, _, _, _, _, _, _, _, _, _, _, _, _, _, _, _, _, _, _, _, _, _, _, _, _, _, _, _, _, _, _, _, _, _, _, _, _, _, ⟨_, by rw [HE8.out], HS8⟩, rfl⟩ | exact ⟨_, _, _, _, _, _, _, _, _, _, _, _, _, _, _, _, _, _, _, _, _, _, _, _, _, _, _, _, _, _, _, _, _, _, _, _, _, _, _, ⟨_, by rw [HE8.out], HS8⟩, rfl⟩ | exact ⟨_, _, _, _, _, _, _, _, _, _, _, _, _, _, _, _, _, _, _, _, _, _, _, _, _, _, _, _, _, _, _, _, _, _, _, _, _, _, _, _, ⟨_, by rw [HE8.out], HS8⟩, rfl⟩ | exact ⟨_, _, _, _, _, _, _, _, _, _, _, _, _, _, _, _, _, _, _, _, _, _, _, _, _, _, _, _, _, _, _, _, _, _, _, _, _, _, _, _, _, ⟨_, by rw [HE8.out], HS8⟩, rfl⟩ | exact ⟨_, _, _, _, _, _, _, _, _, _, _, _, _, _, _, _, _, _, _, _, _, _, _, _, _, _, _, _, _, _, _, _, _, _, _, _, _, _, _, _, _, _, ⟨_, by rw [HE8.out], HS8⟩, rfl⟩ | exact ⟨_, _, _, _, _, _, _, _, _, _, _, _, _, _, _, _, _, _, _, _, _, _, _, _, _, _, _, _, _, _, _, _, _, _, _, _, _, _, _, _, _, _, _, ⟨_, by rw [HE8.out], HS8⟩, rfl⟩ | exact ⟨_, _, _, _, _, _, _, _, _, _, _, _, _, _, _, _, _, _, _, _, _, _, _, _, _, _, _, _, _, _, _, _, _, _, _, _, _, _, _, _, _, _, _, _, ⟨_, by rw [HE8.out], HS8⟩, rfl⟩ | exact ⟨_, _, _, _, _, _, _, _, _, _, _, _, _, _, _, _, _, _, _, _, _, _, _, _, _, _, _, _, _, _, _, _, _, _, _, _, _, _, _, _, _, _, _, _, _, ⟨_, by rw [HE8.out], HS8⟩, rfl⟩ | exact ⟨_, _, _, _, _, _, _, _, _, _, _, _, _, _, _, _, _, _, _, _, _, _, _, _, _, _, _, _, _, _, _, _, _, _, _, _, _, _, _, _, _, _, _, _, _, _, ⟨_, by rw [HE8.out], HS8⟩, rfl⟩ | exact ⟨_, _, _, _, _, _, _, _, _, _, _, _, _, _, _, _, _, _, _, _, _, _, _, _, _, _, _, _, _, _, _, _, _, _, _, _, _, _, _, _, _, _, _, _, _, _, _, ⟨_, by rw [HE8.out], HS8⟩, rfl⟩
          case measure =>
            rw [HS8.out.rg.seen, HSN.out]
            exact hlt
end In
end Go.Proofs.Ytnmljjehkdbbjaa
