/- inode: a node's cells, its box; == of nodes, of stems, of 64 bytes. -/
import Derived.Test.YtnmljjehkdbbjaaPtRight
import Derived.Test.YtnmljjehkdbbjaaPtPut
namespace Go.Proofs.Ytnmljjehkdbbjaa
set_option maxRecDepth 20000
namespace In
open Go.RowKit Dk Eqb Byt Pt

/-- a stem's cells -/
def sV (p : Pn) (z c : Int) : List Value := pV p ++ [.int .i64 z, .int .i64 c]
theorem sV_length (p : Pn) (z c : Int) : (sV p z c).length = 36 := by unfold sV; rw [List.length_append, pV_length]; rfl
theorem sV_one (p : Pn) (z c : Int) : ∀ u ∈ sV p z c, u.oneCell' = true := fun u hu => by
  rcases List.mem_append.1 hu with h | h
  · exact pV_one p u h
  · simp at h
    rcases h with rfl | rfl <;> rfl
theorem undS : Try.prog.underlying 26 = some (.struct (Try.prog.fieldsOf 26)) := by kernel_rfl
theorem sizeS (p : Pn) (z c : Int) : (Try.prog.info? 26).map (·.size) = some (sV p z c).length := by rw [sV_length]; kernel_rfl
theorem sizeS' (p : Pn) (z c : Int) : (Try.prog.info? 26).map (·.size) = some (sV p z c).toArray.size := by rw [List.size_toArray]; exact sizeS p z c
theorem sV_all (p : Pn) (z c : Int) : (sV p z c).toArray.all (·.oneCell') = true := all_oneCell_toArray (sV_one p z c)
/-- a node -/
structure Nd where
  N : Int
  K : Int
  L : Int
  p : Pn
  z : Int
  c : Int
/-- its cells -/
def nV (n : Nd) : List Value := .int .i64 n.N :: .int .i64 n.K :: .int .i64 n.L :: sV n.p n.z n.c
theorem nV_length (n : Nd) : (nV n).length = 39 := by simp [nV, sV_length]
theorem nV_asize (n : Nd) : (nV n).toArray.size = 39 := by rw [List.size_toArray, nV_length]
theorem nV_one (n : Nd) : ∀ u ∈ nV n, u.oneCell' = true := by
  intro u hu
  simp only [nV, List.mem_cons] at hu
  rcases hu with rfl | rfl | rfl | h
  · rfl
  · rfl
  · rfl
  · exact sV_one _ _ _ u h
theorem nV_all (n : Nd) : (nV n).toArray.all (·.oneCell') = true := all_oneCell_toArray (nV_one n)
def nz : Nd := ⟨0, 0, 0, pz, 0, 0⟩
theorem undN : Try.prog.underlying 28 = some (.struct (Try.prog.fieldsOf 28)) := by kernel_rfl
theorem sizeN (n : Nd) : (Try.prog.info? 28).map (·.size) = some (nV n).length := by rw [nV_length]; kernel_rfl
theorem sizeN' (n : Nd) : (Try.prog.info? 28).map (·.size) = some (nV n).toArray.size := by rw [List.size_toArray]; exact sizeN n
theorem zvN (w : World) : (zeroValue 28).run Try.prog w = .ok (.agg (nV nz).toArray) w := (zero_of_info (P := Try.prog) (t := 28) (v := .agg (nV nz).toArray) (n := 39) (by kernel_rfl)).1 w
theorem znode : (#[Value.int .i64 0, Value.int .i64 0, Value.int .i64 0, Value.int .i64 0, Value.int .i64 0, Value.int .u8 0, Value.int .u8 0, Value.int .u8 0, Value.int .u8 0, Value.int .u8 0, Value.int .u8 0, Value.int .u8 0, Value.int .u8 0, Value.int .u8 0, Value.int .u8 0, Value.int .u8 0, Value.int .u8 0, Value.int .u8 0, Value.int .u8 0, Value.int .u8 0, Value.int .u8 0, Value.int .u8 0, Value.int .u8 0, Value.int .u8 0, Value.int .u8 0, Value.int .u8 0, Value.int .u8 0, Value.int .u8 0, Value.int .u8 0, Value.int .u8 0, Value.int .u8 0, Value.int .u8 0, Value.int .u8 0, Value.int .u8 0, Value.int .u8 0, Value.int .u8 0, Value.int .u8 0, Value.int .i64 0, Value.int .i64 0] : Array Value) = (nV nz).toArray := by kernel_rfl
theorem builtNz : Try.prog.built 28 [] = some (nV nz).toArray := by kernel_rfl
theorem builtS (p : Pn) (c : Int) : Try.prog.built 26 [(0, .agg (pV p).toArray), (2, .int .i64 c)] = some (sV p 0 c).toArray := by kernel_rfl
theorem builtS3 (p : Pn) (z c : Int) : Try.prog.built 26 [(0, .agg (pV p).toArray), (1, .int .i64 z), (2, .int .i64 c)] = some (sV p z c).toArray := by kernel_rfl
theorem builtN (N K : Int) (p : Pn) (z c : Int) : Try.prog.built 28 [(0, .int .i64 N), (1, .int .i64 K), (3, .agg (sV p z c).toArray)] = some (nV ⟨N, K, 0, p, z, c⟩).toArray := by kernel_rfl
theorem builtN4 (N K L : Int) (p : Pn) (z c : Int) : Try.prog.built 28 [(0, .int .i64 N), (1, .int .i64 K), (2, .int .i64 L), (3, .agg (sV p z c).toArray)] = some (nV ⟨N, K, L, p, z, c⟩).toArray := by kernel_rfl

/-- a node's box -/
structure Bn (w : World) (b : Nat) (n : Nd) : Prop where
  row : w.heap[b]? = some (.cells (nV n).toArray 28 (0, 0))
section
variable {w w' : World} {b : Nat} {n : Nd}
theorem Bn.all (h : Bn w b n) : w.rangeAt b 0 (nV n) := fun j v hv => by
  rw [Nat.zero_add, cell_of_row w b j _ _ _ h.row]
  simpa using hv
theorem Bn.at (h : Bn w b n) (k : Nat) (v : Value) (hv : (nV n)[k]? = some v) : w.cell? ⟨b, k, none⟩ = some v := by
  have := h.all k v hv
  rwa [Nat.zero_add] at this
theorem Bn.N (h : Bn w b n) : w.cell? ⟨b, 0, none⟩ = some (.int .i64 n.N) := h.at 0 _ rfl
theorem Bn.K (h : Bn w b n) : w.cell? ⟨b, 1, none⟩ = some (.int .i64 n.K) := h.at 1 _ rfl
theorem Bn.L (h : Bn w b n) : w.cell? ⟨b, 2, none⟩ = some (.int .i64 n.L) := h.at 2 _ rfl
theorem nV_st (n : Nd) (j : Nat) : (nV n)[3 + j]? = (sV n.p n.z n.c)[j]? := by
  unfold nV
  rw [show 3 + j = j + 1 + 1 + 1 by omega]
  rfl
theorem sV_pt (p : Pn) (z c : Int) {j : Nat} {v : Value} (h : (pV p)[j]? = some v) : (sV p z c)[j]? = some v := by
  unfold sV
  rw [List.getElem?_append_left (List.getElem?_eq_some_iff.1 h).1]
  exact h
theorem Bn.st (h : Bn w b n) : w.rangeAt b 3 (sV n.p n.z n.c) := fun j v hv => h.at (3 + j) v (by rw [nV_st]; exact hv)
theorem Bn.pt (h : Bn w b n) : w.rangeAt b 3 (pV n.p) := fun j v hv => h.at (3 + j) v (by rw [nV_st]; exact sV_pt _ _ _ hv)
theorem Bn.z (h : Bn w b n) : w.cell? ⟨b, 37, none⟩ = some (.int .i64 n.z) := h.at 37 _ rfl
theorem Bn.c (h : Bn w b n) : w.cell? ⟨b, 38, none⟩ = some (.int .i64 n.c) := h.at 38 _ rfl
theorem Bn.keep (h : Bn w b n) (hb : w'.heap[b]? = w.heap[b]?) : Bn w' b n := ⟨hb.trans h.row⟩
theorem Bn.lt (h : Bn w b n) : b < w.heap.size := (Array.getElem?_eq_some_iff.1 h.row).1
theorem Bn.below {B : Nat} (h : Bn w b n) (hb : Below B w w') (hB : b < B) : Bn w' b n := h.keep (hb.block b hB)
end
theorem bn_new (w : World) (n : Nd) : Below w.heap.size w (w.alloc (.cells (nV n).toArray 28)) ∧ Bn (w.alloc (.cells (nV n).toArray 28)) w.heap.size n ∧ (w.alloc (.cells (nV n).toArray 28)).heap.size = w.heap.size + 1 :=
  ⟨(Below.refl _ _).alloc (Nat.le_refl _) _, ⟨heap_alloc_new _ _⟩, by simp⟩
/-- a stem's box -/
structure Bs (w : World) (b : Nat) (p : Pn) (z c : Int) : Prop where
  row : w.heap[b]? = some (.cells (sV p z c).toArray 26 (0, 0))
section
variable {w w' : World} {b : Nat} {p : Pn} {z c : Int}
theorem Bs.all (h : Bs w b p z c) : w.rangeAt b 0 (sV p z c) := fun j v hv => by
  rw [Nat.zero_add, cell_of_row w b j _ _ _ h.row]
  simpa using hv
theorem Bs.at (h : Bs w b p z c) (k : Nat) (v : Value) (hv : (sV p z c)[k]? = some v) : w.cell? ⟨b, k, none⟩ = some v := by
  have := h.all k v hv
  rwa [Nat.zero_add] at this
theorem Bs.pt (h : Bs w b p z c) : w.rangeAt b 0 (pV p) := fun j v hv => by
  rw [Nat.zero_add]
  exact h.at j v (sV_pt _ _ _ hv)
theorem Bs.sz (h : Bs w b p z c) : w.cell? ⟨b, 34, none⟩ = some (.int .i64 z) := h.at 34 _ rfl
theorem Bs.cp (h : Bs w b p z c) : w.cell? ⟨b, 35, none⟩ = some (.int .i64 c) := h.at 35 _ rfl
theorem Bs.keep (h : Bs w b p z c) (hb : w'.heap[b]? = w.heap[b]?) : Bs w' b p z c := ⟨hb.trans h.row⟩
theorem Bs.lt (h : Bs w b p z c) : b < w.heap.size := (Array.getElem?_eq_some_iff.1 h.row).1
end
theorem bs_new (w : World) (p : Pn) (z c : Int) : Below w.heap.size w (w.alloc (.cells (sV p z c).toArray 26)) ∧ Bs (w.alloc (.cells (sV p z c).toArray 26)) w.heap.size p z c ∧ (w.alloc (.cells (sV p z c).toArray 26)).heap.size = w.heap.size + 1 :=
  ⟨(Below.refl _ _).alloc (Nat.le_refl _) _, ⟨heap_alloc_new _ _⟩, by simp⟩

/-! == -/
theorem eq_ptd (d : Nat) (p q : Pn) (w : World) : (Op.equalIn (d + 3) 24 (.agg (pV p).toArray) (.agg (pV q).toArray)).run Try.prog w = .ok (eqP p q) w := by
  rw [run_equalIn_struct w (d + 2) 24 _ _ (by kernel_rfl) (by kernel_rfl)]
  obtain ⟨f0, f1, f2, hf, t0, o0, n0, t1, o1, n1, t2, o2, n2⟩ : ∃ f0 f1 f2 : Field, (Try.prog.fieldsOf 24).toList = [f0, f1, f2] ∧ f0.type = 3 ∧ f0.offset = 0 ∧ (f0.name ≠ "_") ∧ f1.type = 3 ∧ f1.offset = 1 ∧ (f1.name ≠ "_") ∧ f2.type = 22 ∧ f2.offset = 2 ∧ (f2.name ≠ "_") := ⟨_, _, _, rfl, rfl, rfl, by decide, rfl, rfl, by decide, rfl, rfl, by decide⟩
  rw [hf]
  unfold eqP
  simp only [Op.eqFields, Sem.run_bind, Sem.run_ite, if_pos n0, if_pos n1, if_pos n2, t0, o0, t1, o1, t2, o2]
  rw [part_i (pV p).toArray 0 p.A rfl w, Result.andThen_ok, part_i (pV q).toArray 0 q.A rfl w, Result.andThen_ok, run_equalIn_int w (d + 1) _ .i64 .i64 _ _ (by kernel_rfl), Result.andThen_ok]
  cases h0 : p.A == q.A with
  | false => simp
  | true =>
    simp only [Bool.not_true, Bool.false_eq_true, if_false, Bool.true_and]
    rw [part_i (pV p).toArray 1 p.B rfl w, Result.andThen_ok, part_i (pV q).toArray 1 q.B rfl w, Result.andThen_ok, run_equalIn_int w (d + 1) _ .i64 .i64 _ _ (by kernel_rfl), Result.andThen_ok]
    cases h1 : p.B == q.B with
    | false => simp
    | true =>
      simp only [Bool.not_true, Bool.false_eq_true, if_false, Bool.true_and]
      rw [part_sum p w, Result.andThen_ok, part_sum q w, Result.andThen_ok, eqD_sum d, Result.andThen_ok]
      cases h2 : eqB 32 p.S q.S with
      | false => simp
      | true => simp
def eqS (p : Pn) (z c : Int) (q : Pn) (y d : Int) : Bool := eqP p q && ((z == y) && (c == d))
theorem part_p (p : Pn) (z c : Int) (w : World) : (part 24 (sV p z c).toArray 0).run Try.prog w = .ok (.agg (pV p).toArray) w := by kernel_rfl
theorem eq_std (e : Nat) (p : Pn) (z c : Int) (q : Pn) (y d : Int) (w : World) : (Op.equalIn (e + 4) 26 (.agg (sV p z c).toArray) (.agg (sV q y d).toArray)).run Try.prog w = .ok (eqS p z c q y d) w := by
  rw [run_equalIn_struct w (e + 3) 26 _ _ (by kernel_rfl) (by kernel_rfl)]
  obtain ⟨f0, f1, f2, hf, t0, o0, n0, t1, o1, n1, t2, o2, n2⟩ : ∃ f0 f1 f2 : Field, (Try.prog.fieldsOf 26).toList = [f0, f1, f2] ∧ f0.type = 24 ∧ f0.offset = 0 ∧ (f0.name ≠ "_") ∧ f1.type = 3 ∧ f1.offset = 34 ∧ (f1.name ≠ "_") ∧ f2.type = 3 ∧ f2.offset = 35 ∧ (f2.name ≠ "_") := ⟨_, _, _, rfl, rfl, rfl, by decide, rfl, rfl, by decide, rfl, rfl, by decide⟩
  rw [hf]
  unfold eqS
  simp only [Op.eqFields, Sem.run_bind, Sem.run_ite, if_pos n0, if_pos n1, if_pos n2, t0, o0, t1, o1, t2, o2]
  rw [part_p p z c w, Result.andThen_ok, part_p q y d w, Result.andThen_ok, eq_ptd e p q w, Result.andThen_ok]
  cases h0 : eqP p q with
  | false => simp
  | true =>
    simp only [Bool.not_true, Bool.false_eq_true, if_false, Bool.true_and]
    rw [part_i (sV p z c).toArray 34 z rfl w, Result.andThen_ok, part_i (sV q y d).toArray 34 y rfl w, Result.andThen_ok, run_equalIn_int w (e + 2) _ .i64 .i64 _ _ (by kernel_rfl), Result.andThen_ok]
    cases h1 : z == y with
    | false => simp
    | true =>
      simp only [Bool.not_true, Bool.false_eq_true, if_false, Bool.true_and]
      rw [part_i (sV p z c).toArray 35 c rfl w, Result.andThen_ok, part_i (sV q y d).toArray 35 d rfl w, Result.andThen_ok, run_equalIn_int w (e + 2) _ .i64 .i64 _ _ (by kernel_rfl), Result.andThen_ok]
      cases h2 : c == d with
      | false => simp
      | true => simp
def eqN (n m : Nd) : Bool := (n.N == m.N) && ((n.K == m.K) && ((n.L == m.L) && eqS n.p n.z n.c m.p m.z m.c))
theorem part_s3 (n : Nd) (w : World) : (part 26 (nV n).toArray 3).run Try.prog w = .ok (.agg (sV n.p n.z n.c).toArray) w := by kernel_rfl
theorem eq_nd (n m : Nd) (w : World) : (Op.equalIn 10000 28 (.agg (nV n).toArray) (.agg (nV m).toArray)).run Try.prog w = .ok (eqN n m) w := by
  rw [run_equalIn_struct w 9999 28 _ _ (by kernel_rfl) (by kernel_rfl)]
  obtain ⟨f0, f1, f2, f3, hf, t0, o0, n0, t1, o1, n1, t2, o2, n2, t3, o3, n3⟩ : ∃ f0 f1 f2 f3 : Field, (Try.prog.fieldsOf 28).toList = [f0, f1, f2, f3] ∧ f0.type = 3 ∧ f0.offset = 0 ∧ (f0.name ≠ "_") ∧ f1.type = 3 ∧ f1.offset = 1 ∧ (f1.name ≠ "_") ∧ f2.type = 3 ∧ f2.offset = 2 ∧ (f2.name ≠ "_") ∧ f3.type = 26 ∧ f3.offset = 3 ∧ (f3.name ≠ "_") := ⟨_, _, _, _, rfl, rfl, rfl, by decide, rfl, rfl, by decide, rfl, rfl, by decide, rfl, rfl, by decide⟩
  rw [hf]
  unfold eqN
  simp only [Op.eqFields, Sem.run_bind, Sem.run_ite, if_pos n0, if_pos n1, if_pos n2, if_pos n3, t0, o0, t1, o1, t2, o2, t3, o3]
  rw [part_i (nV n).toArray 0 n.N rfl w, Result.andThen_ok, part_i (nV m).toArray 0 m.N rfl w, Result.andThen_ok, run_equalIn_int w 9998 _ .i64 .i64 _ _ (by kernel_rfl), Result.andThen_ok]
  cases h0 : n.N == m.N with
  | false => simp
  | true =>
    simp only [Bool.not_true, Bool.false_eq_true, if_false, Bool.true_and]
    rw [part_i (nV n).toArray 1 n.K rfl w, Result.andThen_ok, part_i (nV m).toArray 1 m.K rfl w, Result.andThen_ok, run_equalIn_int w 9998 _ .i64 .i64 _ _ (by kernel_rfl), Result.andThen_ok]
    cases h1 : n.K == m.K with
    | false => simp
    | true =>
      simp only [Bool.not_true, Bool.false_eq_true, if_false, Bool.true_and]
      rw [part_i (nV n).toArray 2 n.L rfl w, Result.andThen_ok, part_i (nV m).toArray 2 m.L rfl w, Result.andThen_ok, run_equalIn_int w 9998 _ .i64 .i64 _ _ (by kernel_rfl), Result.andThen_ok]
      cases h2 : n.L == m.L with
      | false => simp
      | true =>
        simp only [Bool.not_true, Bool.false_eq_true, if_false, Bool.true_and]
        rw [part_s3 n w, Result.andThen_ok, part_s3 m w, Result.andThen_ok, eq_std 9995, Result.andThen_ok]
        cases h3 : eqS n.p n.z n.c m.p m.z m.c with
        | false => simp
        | true => simp
theorem eqN_same (n : Nd) : eqN n n = true := by simp [eqN, eqS, eqP_same]
theorem guardN : Try.prog.eqGuardType Try.prog.depth 28 = false := by kernel_rfl

/-! 64 bytes -/
def b64 (f : Nat → Int) : Array Value := Sha.arr 64 (Sha.vu8 f)
theorem b64_get (f : Nat → Int) {i : Nat} (h : i < 64) : (b64 f)[i]? = some (.int .u8 (f i)) := by unfold b64; rw [Sha.arr_get _ h]; rfl
theorem b64_size (f : Nat → Int) : (b64 f).size = 64 := Sha.arr_size _ _
theorem b64_eq {f g : Nat → Int} (h : ∀ i, i < 64 → f i = g i) : b64 f = b64 g := by
  apply Array.ext_getElem?
  intro i
  by_cases hi : i < 64
  · rw [b64_get f hi, b64_get g hi, h i hi]
  · rw [Array.getElem?_eq_none (by rw [b64_size]; omega), Array.getElem?_eq_none (by rw [b64_size]; omega)]
theorem b64_all (f : Nat → Int) : (b64 f).all (·.oneCell') = true := by
  rw [Array.all_eq_true_iff_forall_mem]
  intro v hv
  obtain ⟨i, hi, e⟩ := Array.mem_iff_getElem.1 hv
  have h64 : i < 64 := by rw [b64_size] at hi; exact hi
  have : (b64 f)[i]? = some v := by rw [Array.getElem?_eq_getElem hi, e]
  rw [b64_get f h64] at this
  cases this
  rfl
theorem und64 : Try.prog.underlying 30 = some (.array 64 5) := by kernel_rfl
theorem size64 (f : Nat → Int) : (Try.prog.info? 30).map (·.size) = some (b64 f).size := by rw [b64_size]; kernel_rfl
theorem zv64 (w : World) : (zeroValue 30).run Try.prog w = .ok (.agg (b64 fun _ => 0)) w := (zero_of_info (P := Try.prog) (t := 30) (v := .agg (b64 fun _ => 0)) (n := 64) (by kernel_rfl)).1 w
theorem z64 : (#[Value.int .u8 0, Value.int .u8 0, Value.int .u8 0, Value.int .u8 0, Value.int .u8 0, Value.int .u8 0, Value.int .u8 0, Value.int .u8 0, Value.int .u8 0, Value.int .u8 0, Value.int .u8 0, Value.int .u8 0, Value.int .u8 0, Value.int .u8 0, Value.int .u8 0, Value.int .u8 0, Value.int .u8 0, Value.int .u8 0, Value.int .u8 0, Value.int .u8 0, Value.int .u8 0, Value.int .u8 0, Value.int .u8 0, Value.int .u8 0, Value.int .u8 0, Value.int .u8 0, Value.int .u8 0, Value.int .u8 0, Value.int .u8 0, Value.int .u8 0, Value.int .u8 0, Value.int .u8 0, Value.int .u8 0, Value.int .u8 0, Value.int .u8 0, Value.int .u8 0, Value.int .u8 0, Value.int .u8 0, Value.int .u8 0, Value.int .u8 0, Value.int .u8 0, Value.int .u8 0, Value.int .u8 0, Value.int .u8 0, Value.int .u8 0, Value.int .u8 0, Value.int .u8 0, Value.int .u8 0, Value.int .u8 0, Value.int .u8 0, Value.int .u8 0, Value.int .u8 0, Value.int .u8 0, Value.int .u8 0, Value.int .u8 0, Value.int .u8 0, Value.int .u8 0, Value.int .u8 0, Value.int .u8 0, Value.int .u8 0, Value.int .u8 0, Value.int .u8 0, Value.int .u8 0, Value.int .u8 0] : Array Value) = b64 fun _ => 0 := by kernel_rfl
theorem built64 : Try.prog.built 30 [] = some (b64 fun _ => 0) := by kernel_rfl
theorem guard64 : Try.prog.eqGuardType Try.prog.depth 30 = false := by kernel_rfl
theorem eq_64 (f g : Nat → Int) (w : World) : (Op.equalIn 10000 30 (.agg (b64 f)) (.agg (b64 g))).run Try.prog w = .ok (eqB 64 f g) w := by
  obtain ⟨i, hi⟩ : ∃ i, Try.prog.info? 5 = some i := ⟨_, rfl⟩
  rw [run_equalIn_array w 9999 (n := 64) (e := 5) _ _ (by kernel_rfl) hi, show Try.prog.cellsOf 5 = 1 by kernel_rfl]
  exact eqItems_any (k := .u8) (by kernel_rfl) (by kernel_rfl) 9998 _ _ f g w _ fun i hi => by
    have hi' : i < 64 := by simpa using hi
    exact ⟨b64_get f hi', b64_get g hi'⟩
/-- 64 bytes' box -/
structure Bb (w : World) (b : Nat) (f : Nat → Int) : Prop where
  row : w.heap[b]? = some (.cells (b64 f) 30 (0, 0))
section
variable {w w' : World} {b : Nat} {f : Nat → Int}
theorem Bb.keep (h : Bb w b f) (hb : w'.heap[b]? = w.heap[b]?) : Bb w' b f := ⟨hb.trans h.row⟩
theorem Bb.lt (h : Bb w b f) : b < w.heap.size := (Array.getElem?_eq_some_iff.1 h.row).1
theorem Bb.below {B : Nat} (h : Bb w b f) (hb : Below B w w') (hB : b < B) : Bb w' b f := h.keep (hb.block b hB)
theorem Bb.cell (h : Bb w b f) {j : Nat} (hj : j < 64) : w.cell? ⟨b, j, none⟩ = some (.int .u8 (f j)) := by rw [cell_of_row w b j _ _ _ h.row, b64_get f hj]
theorem Bb.all (h : Bb w b f) : w.rangeAt b 0 (b64 f).toList := fun j v hv => by
  rw [Nat.zero_add, cell_of_row w b j _ _ _ h.row]
  simpa using hv
theorem Bb.own (h : Bb w b f) : Wd.Own w b (some ⟨b, 0, none⟩) 64 64 f := ⟨Nat.le_refl _, by simp, .inr ⟨b, rfl, Nat.le_refl _, ⟨⟨b64 f, ⟨_, h.row⟩, fun j hj => by rw [Nat.zero_add]; exact b64_get f hj⟩⟩⟩⟩
theorem Bb.congr {g : Nat → Int} (h : Bb w b f) (he : ∀ i, i < 64 → f i = g i) : Bb w b g := ⟨by rw [← b64_eq he]; exact h.row⟩
end
theorem bb_new (w : World) (f : Nat → Int) : Below w.heap.size w (w.alloc (.cells (b64 f) 30)) ∧ Bb (w.alloc (.cells (b64 f) 30)) w.heap.size f ∧ (w.alloc (.cells (b64 f) 30)).heap.size = w.heap.size + 1 :=
  ⟨(Below.refl _ _).alloc (Nat.le_refl _) _, ⟨heap_alloc_new _ _⟩, by simp⟩
end In
end Go.Proofs.Ytnmljjehkdbbjaa
