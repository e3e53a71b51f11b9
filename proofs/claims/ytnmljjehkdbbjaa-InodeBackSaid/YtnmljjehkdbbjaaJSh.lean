import Derived.Test.YtnmljjehkdbbjaaJSha
import Derived.Test.YtnmljjehkdbbjaaBytes
import Derived.Deep.MidRow
import Derived.Lib.SlBytesConst
import Derived.ChangeKeysEq
/- padding, Concat, Pad and the reference's Pad. -/
namespace Go.Proofs.Ytnmljjehkdbbjaa
set_option maxRecDepth 20000
namespace Sha
open Go.RowKit

def zr (n : Nat) : Nat := (119 - n % 64) % 64
/-- byte i of what stands behind n bytes when they are padded -/
def pf (n z i : Nat) : Int := if i = 0 then 128 else if i < 1 + z then 0 else 8 * (n : Int) / 2 ^ (56 - 8 * (i - (1 + z))) % 256
def padK (n k : Nat) : List Int := (List.range k).map (pf n (zr n))
def padL (n : Nat) : List Int := padK n (zr n + 9)
theorem padK_next (n k : Nat) : padK n (k + 1) = padK n k ++ [pf n (zr n) k] := by simp [padK, List.range_succ]
theorem padK_length (n k : Nat) : (padK n k).length = k := by simp [padK]
theorem arr_bys (k : Nat) (f : Nat → Int) : (arr k (vu8 f)).toList = bys ((List.range k).map f) := by
  apply List.ext_getElem?
  intro i
  by_cases h : i < k
  · have e := arr_get (vu8 f) h
    simp [bys, h, vu8] at e ⊢
    exact e
  · simp [bys, h, arr]

theorem run_make_bytes (m : Nat) (hm : m ≤ 140737488355328) (W : World) : (Instr.makeSlice 48 (.int .i64 (m : Int)) (.int .i64 (m : Int))).run Try.prog W = .ok (.slice (some ⟨W.heap.size, 0, none⟩) m m) (W.alloc (.cells (arr m (vu8 fun _ => 0)) 5)) := by
  obtain ⟨i0, hi, hz0, hz1, hz2⟩ := info_parts bytes_info
  have h := run_make (P := Try.prog) W 48 5 i0 (.int .u8 0) bytes_slice hi hz0 .i64 .i64 m m (by omega) (by omega) (by rw [hz2]; omega) (by omega)
  rw [Int.toNat_natCast, hz1, Nat.mul_one, show madeCells (Value.int .u8 0).cells m = arr m (vu8 fun _ => 0) from Array.toList_inj.1 (by
    rw [show (Value.int .u8 0).cells = #[.int .u8 0] from rfl, toList_madeCells_one, arr_bys]
    apply List.ext_getElem?
    intro i
    by_cases hi : i < m
    · simp [bys, hi]
    · simp [bys, hi])] at h
  exact h

theorem pf_at (n z i j : Nat) (h : i = 1 + z + j) : pf n z i = 8 * (n : Int) / 2 ^ (56 - 8 * j) % 256 := by
  subst h
  unfold pf
  rw [if_neg (by omega), if_neg (by omega), show 1 + z + j - (1 + z) = j by omega]
theorem padf_end (n z : Nat) : (arr (1 + z + 8) fun i =>
    if i = 1 + z + 4 + 3 then Value.int .u8 (8 * (n : Int) % 4294967296 % 256)
    else if i = 1 + z + 4 + 2 then Value.int .u8 (8 * (n : Int) % 4294967296 / 256 % 256)
    else if i = 1 + z + 4 + 1 then Value.int .u8 (8 * (n : Int) % 4294967296 / 65536 % 256)
    else if i = 1 + z + 4 then Value.int .u8 (8 * (n : Int) % 4294967296 / 16777216 % 256)
    else if i = 1 + z + 3 then Value.int .u8 (8 * (n : Int) / 4294967296 % 256)
    else if i = 1 + z + 2 then Value.int .u8 (8 * (n : Int) / 4294967296 / 256 % 256)
    else if i = 1 + z + 1 then Value.int .u8 (8 * (n : Int) / 4294967296 / 65536 % 256)
    else if i = 1 + z then Value.int .u8 (8 * (n : Int) / 4294967296 / 16777216 % 256)
    else if i = 0 then Value.int .u8 128 else vu8 (fun _ => 0) i) = arr (1 + z + 8) (vu8 (pf n z)) := by
  refine arr_congr fun i hi => ?_
  simp only [vu8]
  rcases (show i = 0 ∨ (1 ≤ i ∧ i < 1 + z) ∨ i = 1 + z + 0 ∨ i = 1 + z + 1 ∨ i = 1 + z + 2 ∨ i = 1 + z + 3 ∨ i = 1 + z + 4 ∨ i = 1 + z + 5 ∨ i = 1 + z + 6 ∨ i = 1 + z + 7 by omega) with h | h | h | h | h | h | h | h | h | h
  · rw [if_neg (by omega), if_neg (by omega), if_neg (by omega), if_neg (by omega), if_neg (by omega), if_neg (by omega), if_neg (by omega), if_neg (by omega), if_pos h]
    unfold pf
    rw [if_pos h]
  · rw [if_neg (by omega), if_neg (by omega), if_neg (by omega), if_neg (by omega), if_neg (by omega), if_neg (by omega), if_neg (by omega), if_neg (by omega), if_neg (by omega)]
    unfold pf
    rw [if_neg (by omega), if_pos h.2]
  · rw [pf_at n z i 0 h, if_neg (by omega), if_neg (by omega), if_neg (by omega), if_neg (by omega), if_neg (by omega), if_neg (by omega), if_neg (by omega), if_pos (by omega)]
    refine congrArg (Value.int .u8) ?_
    rw [show (2 : Int) ^ (56 - 8 * 0) = 72057594037927936 from by decide]
    try omega
  · rw [pf_at n z i 1 h, if_neg (by omega), if_neg (by omega), if_neg (by omega), if_neg (by omega), if_neg (by omega), if_neg (by omega), if_pos (by omega)]
    refine congrArg (Value.int .u8) ?_
    rw [show (2 : Int) ^ (56 - 8 * 1) = 281474976710656 from by decide]
    try omega
  · rw [pf_at n z i 2 h, if_neg (by omega), if_neg (by omega), if_neg (by omega), if_neg (by omega), if_neg (by omega), if_pos (by omega)]
    refine congrArg (Value.int .u8) ?_
    rw [show (2 : Int) ^ (56 - 8 * 2) = 1099511627776 from by decide]
    try omega
  · rw [pf_at n z i 3 h, if_neg (by omega), if_neg (by omega), if_neg (by omega), if_neg (by omega), if_pos (by omega)]
    refine congrArg (Value.int .u8) ?_
    rw [show (2 : Int) ^ (56 - 8 * 3) = 4294967296 from by decide]
    try omega
  · rw [pf_at n z i 4 h, if_neg (by omega), if_neg (by omega), if_neg (by omega), if_pos (by omega)]
    refine congrArg (Value.int .u8) ?_
    rw [show (2 : Int) ^ (56 - 8 * 4) = 16777216 from by decide]
    try omega
  · rw [pf_at n z i 5 h, if_neg (by omega), if_neg (by omega), if_pos (by omega)]
    refine congrArg (Value.int .u8) ?_
    rw [show (2 : Int) ^ (56 - 8 * 5) = 65536 from by decide]
    try omega
  · rw [pf_at n z i 6 h, if_neg (by omega), if_pos (by omega)]
    refine congrArg (Value.int .u8) ?_
    rw [show (2 : Int) ^ (56 - 8 * 6) = 256 from by decide]
    try omega
  · rw [pf_at n z i 7 h, if_pos (by omega)]
    refine congrArg (Value.int .u8) ?_
    rw [show (2 : Int) ^ (56 - 8 * 7) = 1 from by decide]
    try omega
theorem arr_there (w : World) {m : Nat} (f : Nat → Value) {t : TypeId} {j : Nat} (h : j < m) : ∃ v, (w.alloc (.cells (arr m f) t)).cell? ⟨w.heap.size, j, none⟩ = some v := ⟨_, by rw [World.cell?_alloc_new, arr_get _ h]⟩
theorem arr_free (w : World) (A : Array Value) (t : TypeId) {j : Nat} : (w.alloc (.cells A t)).frozen? ⟨w.heap.size, j, none⟩ = false := frozen_of_row _ _ _ _ _ (heap_alloc_new _ _)

theorem own_form {w : World} {base : Nat} {v : Value} {xs : List Int} (h : w.ownsRow base 5 1 v xs.length (bys xs)) : ∃ ao cap, v = .slice ao xs.length cap := by
  rcases h.2 with ⟨rfl, hn⟩ | ⟨g, cap, cur, rfl, _⟩
  · exact ⟨none, 0, by rw [hn]⟩
  · exact ⟨_, _, rfl⟩
theorem own_base {w : World} {base base' : Nat} {e : TypeId} {v : Value} {n : Nat} {xs : List Value} (h : w.ownsRow base e 1 v n xs) (hb : base' ≤ base) : w.ownsRow base' e 1 v n xs := by
  refine ⟨h.1, ?_⟩
  rcases h.2 with h2 | ⟨g, cap, cur, h3, h4, h5⟩
  · exact .inl h2
  · exact .inr ⟨g, cap, cur, h3, by omega, h5⟩
theorem Lies.alloc {w : World} {B : Nat} {ao : Option Addr} {cap : Nat} {xs : List Int} (h : Lies w B ao cap xs) (hB : B ≤ w.heap.size) (o : Obj) : Lies (w.alloc o) B ao cap xs := h.keep fun p hp => World.cell?_alloc_lt w o p (by omega)
theorem padL_length (n : Nat) : (padL n).length = zr n + 9 := padK_length _ _
end Sha
end Go.Proofs.Ytnmljjehkdbbjaa
/- The reference's Pad. -/
namespace Go.Proofs.Ytnmljjehkdbbjaa
set_option maxRecDepth 20000
namespace Sha
open Go.RowKit

def vlen : Value → Nat
  | .slice _ n _ => n
  | _ => 0
theorem lies_one (w : World) (x : Int) : Lies (w.alloc (.cells #[.int .u8 x] 5)) (w.heap.size + 1) (some ⟨w.heap.size, 0, none⟩) 1 [x] := by
  refine ⟨by simp, by simp, fun _ => ⟨w.heap.size, 0, rfl, by omega, fun i hi => ?_⟩⟩
  obtain rfl : i = 0 := by simpa using hi
  simp

theorem pf_zero (n k : Nat) (h : k < zr n) : pf n (zr n) (1 + k) = 0 := by
  unfold pf; rw [if_neg (by omega), if_pos (by omega)]
theorem pf_first (n : Nat) : padK n 1 = [128] := by simp [padK, pf]

theorem pf_byte (n z j : Nat) : 8 * (n : Int) / 2 ^ (56 - 8 * j) % 256 = pf n z (1 + z + j) := (pf_at n z (1 + z + j) j rfl).symm
structure PadW (w : World) (xs : List Int) (n k : Nat) (v : Value) (wr : World) : Prop where
  own : wr.ownsRow w.heap.size 5 1 v (xs ++ padK n k).length (bys (xs ++ padK n k))
  below : Below w.heap.size w wr

end Sha
end Go.Proofs.Ytnmljjehkdbbjaa
/- steps: the fold of Step over the blocks of a slice. -/
namespace Go.Proofs.Ytnmljjehkdbbjaa
set_option maxRecDepth 20000
namespace Sha
open Go.RowKit Go.Sort

/-- block k of the bytes xs -/
def blk (xs : List Int) (k : Nat) : Nat → Int := fun i => xs.getD (64 * k + i) 0
/-- the numbers behind k blocks -/
def stL (K : Nat → Int) (xs : List Int) (s : S8) : Nat → S8
  | 0 => s
  | k + 1 => stepS K (stL K xs s k) (blk xs k)

theorem blk_byte {xs : List Int} (h : Byte xs) (k j : Nat) : 0 ≤ blk xs k j ∧ blk xs k j < 256 := by
  unfold blk
  rw [List.getD_eq_getElem?_getD]
  cases hx : xs[64 * k + j]? with
  | none => simp
  | some v =>
    have := h v (List.mem_of_getElem? hx)
    simpa using this

theorem quiet_load_mid {P : Program} {C : World → Prop} {o : Oper} {a : Act} {K : Act → Prop} (ty : TypeId) (x : Operand) (ho : o.op = .load ty x) (b off : Nat) (hx : a.eval x = .pointer (some ⟨b, off, none⟩)) (cs : Array Value) (d : TypeDesc)
    (hg : ∀ w, C w → w.rangeAt b off cs.toList) (hu : P.underlying ty = some d) (hd : d.isRow = true) (hi : (P.info? ty).map (·.size) = some cs.size) (h : K (a.put o.dst (.agg cs))) : o.quiet P a C K := by
  refine ⟨.agg cs, fun w hw => ?_, h⟩
  unfold Oper.quietAt execOp
  have e := run_loadAt_mid (P := P) w b off ty cs.toList d (hg w hw) hu hd (by rw [Array.length_toList]; exact hi)
  simp only [Array.toArray_toList] at e
  simp only [ho, hx, e, Sem.run_bind, Sem.run_pure, Result.andThen_ok]
  exact ⟨rfl, rfl⟩

theorem run_array64 (a : Addr) (l c : Nat) (hl : 64 ≤ l) (W : World) : (Instr.arrayAt 30 (.slice (some a) l c)).run Try.prog W = .ok (.pointer (some a)) W := by
  have hu : Try.prog.underlying 30 = some (.array 64 5) := by kernel_rfl
  unfold Instr.arrayAt
  rw [Sem.run_bind, run_underlying hu]
  have h : ¬ l < 64 := by omega
  simp [Result.andThen, h]
end Sha
end Go.Proofs.Ytnmljjehkdbbjaa
/- sha.Sum. -/
namespace Go.Proofs.Ytnmljjehkdbbjaa
set_option maxRecDepth 20000
namespace Sha
open Go.RowKit Go.Sort

theorem size_elem (W : World) : (sizeOf (Try.prog.elem 48)).run Try.prog W = .ok 1 W := by kernel_rfl
theorem under_elem : Try.prog.underlying 48 = some (.slice (Try.prog.elem 48)) := by kernel_rfl

/-- b[:e] -/
theorem run_cut_hi {w : World} {B : Nat} {ao : Option Addr} {cap n e : Nat} {xs : List Int} (hl : Lies w B ao cap xs) (hn : n = xs.length) (he : e ≤ n) :
    (∀ W, (Instr.sliceAt 48 (.slice ao n cap) none (some (.int .i64 (e : Int))) none).run Try.prog W = .ok (.slice ao e cap) W) ∧ Lies w B ao cap (xs.take e) := by
  have hr := hl.room
  refine ⟨fun W => ?_, ⟨by rw [List.length_take]; omega, hl.nil, fun hx => ?_⟩⟩
  · rw [run_sliceAt_slice W 48 _ _ _ _ under_elem, run_slice_h W 48 ao n cap under_elem .i64 (e : Int) (by omega) (by omega), size_elem]
    simp only [Result.andThen, sliced, Int.toNat_natCast, Nat.sub_zero, Nat.zero_mul]
    by_cases h0 : cap = 0
    · simp [h0]
    · rw [if_neg h0]
      cases ao with
      | none => rfl
      | some a => simp [Addr.add]
  · obtain ⟨b, off, e1, hb, hc⟩ := hl.cells (by rintro rfl; simp at hx)
    refine ⟨b, off, e1, hb, fun i hi => ?_⟩
    rw [List.length_take] at hi
    rw [hc i (by omega)]
    simp only [List.getD_eq_getElem?_getD, List.getElem?_take]
    rw [if_pos (by omega)]

/-- b[e:] -/
theorem run_cut_lo {w : World} {B : Nat} {ao : Option Addr} {cap n e : Nat} {xs : List Int} (hl : Lies w B ao cap xs) (hn : n = xs.length) (he : e ≤ n) :
    ∃ a2, (∀ W, (Instr.sliceAt 48 (.slice ao n cap) (some (.int .i64 (e : Int))) none none).run Try.prog W = .ok (.slice a2 (n - e) (cap - e)) W) ∧ Lies w B a2 (cap - e) (xs.drop e) := by
  have hr := hl.room
  refine ⟨if cap = e then ao else ao.map (·.add (e * 1)), fun W => ?_, ⟨by rw [List.length_drop]; omega, fun h => ?_, fun hx => ?_⟩⟩
  · rw [run_sliceAt_slice W 48 _ _ _ _ under_elem, run_slice_l W 48 ao n cap under_elem .i64 (e : Int) (by omega) (by omega), size_elem]
    simp only [Result.andThen, sliced, Int.toNat_natCast]
  · by_cases hc : cap = e
    · omega
    · rw [if_neg hc] at h
      cases ao with
      | none => have := hl.nil rfl; omega
      | some a => simp at h
  · have hlen : e < xs.length := by
      rcases Nat.lt_or_ge e xs.length with h | h
      · exact h
      · exact absurd (List.drop_eq_nil_of_le h) hx
    obtain ⟨b, off, e1, hb, hc⟩ := hl.cells (by rintro rfl; simp at hlen)
    rw [if_neg (by omega), e1]
    refine ⟨b, off + e, by simp [Addr.add_mid], hb, fun i hi => ?_⟩
    rw [List.length_drop] at hi
    rw [Nat.add_assoc, hc (e + i) (by omega)]
    simp only [List.getD_eq_getElem?_getD, List.getElem?_drop]

theorem byte_take {xs : List Int} (h : Byte xs) (e : Nat) : Byte (xs.take e) := fun x hx => h x (List.mem_of_mem_take hx)
theorem byte_drop {xs : List Int} (h : Byte xs) (e : Nat) : Byte (xs.drop e) := fun x hx => h x (List.mem_of_mem_drop hx)
theorem byte_append {xs ys : List Int} (h : Byte xs) (k : Byte ys) : Byte (xs ++ ys) := fun x hx => (List.mem_append.1 hx).elim (h x) (k x)
theorem byte_padK (n k : Nat) : Byte (padK n k) := by
  intro x hx
  simp only [padK, List.mem_map] at hx
  obtain ⟨i, _, rfl⟩ := hx
  unfold pf
  split
  · omega
  · split
    · omega
    · exact ⟨Int.emod_nonneg _ (by omega), Int.emod_lt_of_pos _ (by omega)⟩

theorem keepL {L : Nat → Bool} {i j : Nat} {p : Prop} (h : L i = true → p) (hij : (i == j) = false) : (i == j || L i) = true → p := fun e => h (by rwa [hij, Bool.false_or] at e)

theorem info32 {f : Nat → Value} : (Try.prog.info? 22).map (·.size) = some (arr 32 f).size := by
  rw [arr_size]; kernel_rfl
theorem zeros32 : (#[.int .u8 0, .int .u8 0, .int .u8 0, .int .u8 0, .int .u8 0, .int .u8 0, .int .u8 0, .int .u8 0, .int .u8 0, .int .u8 0, .int .u8 0, .int .u8 0, .int .u8 0, .int .u8 0, .int .u8 0, .int .u8 0,
  .int .u8 0, .int .u8 0, .int .u8 0, .int .u8 0, .int .u8 0, .int .u8 0, .int .u8 0, .int .u8 0, .int .u8 0, .int .u8 0, .int .u8 0, .int .u8 0, .int .u8 0, .int .u8 0, .int .u8 0, .int .u8 0] : Array Value) = arr 32 (vu8 fun _ => 0) := by kernel_rfl
theorem s0_arr : s0.vals = arr 8 (vu32 s0.at) := vals_arr _

/-- the numbers behind all blocks of the padded bytes of xs -/
def sumS (xs : List Int) : S8 := stL kT (xs ++ padL xs.length) s0 ((xs.length + zr xs.length + 9) / 64)
theorem blk_left {A B : List Int} {k : Nat} (h : 64 * (k + 1) ≤ A.length) (j : Nat) (hj : j < 64) : blk (A ++ B) k j = blk A k j := by
  unfold blk
  simp only [List.getD_eq_getElem?_getD]
  rw [List.getElem?_append_left (by omega)]
theorem blk_right {A B : List Int} {q : Nat} (h : A.length = 64 * q) (k j : Nat) : blk (A ++ B) (q + k) j = blk B k j := by
  unfold blk
  simp only [List.getD_eq_getElem?_getD]
  rw [List.getElem?_append_right (by omega), show 64 * (q + k) + j - A.length = 64 * k + j by omega]
theorem ws_congr {x y : Nat → Int} (h : ∀ j, j < 64 → x j = y j) : ∀ k, ws x k = ws y k
  | 0 => by
    funext t
    simp only [ws, ws0]
    by_cases ht : t < 16
    · rw [if_pos ht, if_pos ht]
      unfold wd
      rw [h _ (by omega), h _ (by omega), h _ (by omega), h _ (by omega)]
    · rw [if_neg ht, if_neg ht]
  | k + 1 => by
    have ih := ws_congr h k
    simp only [ws, ih]
theorem stepS_congr {K : Nat → Int} {s : S8} {x y : Nat → Int} (h : ∀ j, j < 64 → x j = y j) : stepS K s x = stepS K s y := by
  unfold stepS
  rw [ws_congr h 48]
theorem stL_left {K : Nat → Int} {A B : List Int} {s : S8} {q : Nat} (h : A.length = 64 * q) : ∀ k, k ≤ q → stL K (A ++ B) s k = stL K A s k
  | 0, _ => rfl
  | k + 1, hk => by
    simp only [stL]
    rw [stL_left h k (by omega)]
    exact stepS_congr fun j hj => blk_left (by omega) j hj
theorem stL_right {K : Nat → Int} {A B : List Int} {s : S8} {q : Nat} (h : A.length = 64 * q) : ∀ k, stL K (A ++ B) s (q + k) = stL K B (stL K A s q) k
  | 0 => stL_left h q (Nat.le_refl _)
  | k + 1 => by
    show stepS K (stL K (A ++ B) s (q + k)) (blk (A ++ B) (q + k)) = stepS K (stL K B (stL K A s q) k) (blk B k)
    rw [stL_right h k]
    exact stepS_congr fun j _ => blk_right h k j
theorem sumS_split {xs : List Int} {n e : Nat} (hn : n = xs.length) (he : e = n - n % 64) : sumS xs = stL kT (xs.drop e ++ padL n) (stL kT (xs.take e) s0 (e / 64)) ((n - e + zr n + 9) / 64) := by
  subst hn
  unfold sumS
  have hl : (xs.take e).length = 64 * (e / 64) := by rw [List.length_take]; omega
  have h1 := stL_right (K := kT) (A := xs.take e) (B := xs.drop e ++ padL xs.length) (s := s0) hl ((xs.length - e + zr xs.length + 9) / 64)
  rw [← List.append_assoc, List.take_append_drop] at h1
  rw [← h1]
  congr 1
  unfold zr
  omega
/-- byte i of a sum -/
def sumB (t : S8) (i : Nat) : Int := t.at (i / 4) / 2 ^ (24 - 8 * (i % 4)) % 256
def outF (t : S8) (k i : Nat) : Int := if i < 4 * k then sumB t i else 0
/-- the world of Sum's last loop behind k numbers; the bytes lie in block gs -/
structure FinW (t : S8) (gs : Nat) (w : World) (k : Nat) (wr : World) : Prop where
  out : wr.heap[gs]? = some (.cells (arr 32 (vu8 (outF t k))) 22 (0, 0))
  res : wr.heap[w.heap.size]? = some (.cells (arr 32 (vu8 fun _ => 0)) 22 (0, 0))
  below : Below w.heap.size w wr
  far : w.heap.size < gs
theorem FinW.start {t : S8} {w W3 : World} (hr : W3.heap[w.heap.size]? = some (.cells (arr 32 (vu8 fun _ => 0)) 22 (0, 0))) (hb : Below w.heap.size w W3) (hl : w.heap.size < W3.heap.size) :
    FinW t W3.heap.size w 0 (W3.alloc (.cells (arr 32 (vu8 fun _ => 0)) 22)) := by
  refine ⟨?_, ?_, hb.alloc hb.size _, hl⟩
  · rw [show arr 32 (vu8 (outF t 0)) = arr 32 (vu8 fun _ => 0) from arr_congr fun i _ => by simp [vu8, outF]]; exact heap_alloc_new _ _
  · rw [heap_alloc_old _ _ hl]; exact hr
theorem cell_set {w : World} {g m : Nat} {f : Nat → Value} {t : TypeId} (h : w.heap[g]? = some (.cells (arr m f) t (0, 0))) (j : Nat) (v : Value) :
    (w.setCell ⟨g, j, none⟩ v).heap[g]? = some (.cells (arr m fun i => if i = j then v else f i) t (0, 0)) := by
  have e := heap_setCell_same w g j (arr m f) t v h
  rwa [arr_set] at e
theorem FinW.there {t : S8} {gs : Nat} {w : World} {k : Nat} {wr : World} (h : FinW t gs w k wr) {j : Nat} (hj : j < 32) : ∃ v, wr.cell? ⟨gs, j, none⟩ = some v := ⟨_, by rw [cell_of_row wr gs j _ _ _ h.out, arr_get _ hj]⟩
theorem FinW.free {t : S8} {gs : Nat} {w : World} {k : Nat} {wr : World} (h : FinW t gs w k wr) (j : Nat) : wr.frozen? ⟨gs, j, none⟩ = false := frozen_of_row wr gs j _ _ h.out
theorem slice_block32 (b k : Nat) (hk : k < 8) (W : World) : (Instr.sliceAt 22 (.pointer (some ⟨b, 0, none⟩)) (some (.int .i64 (4 * (k : Int)))) none none).run Try.prog W = .ok (.slice (some ⟨b, 4 * k, none⟩) (32 - 4 * k) (32 - 4 * k)) W := by
  have hal : Try.prog.arrayLen 22 = 32 := by kernel_rfl
  have hsz : (sizeOf (Try.prog.elem 22)).run Try.prog W = .ok 1 W := by kernel_rfl
  rw [run_sliceAt_array_l W 22 ⟨b, 0, none⟩ (by kernel_rfl) .i64 (4 * (k : Int)) (by omega) (by rw [hal]; omega), hsz, hal]
  have e : (4 * (k : Int)).toNat = 4 * k := by omega
  simp only [Result.andThen, slicedAt, e, Nat.mul_one]
  rw [if_neg (by omega)]
  simp [Addr.add]
  omega
theorem FinW.next {t : S8} {gs : Nat} {w : World} {k : Nat} {wr : World} (h : FinW t gs w k wr) (_hk : k < 8) :
    FinW t gs w (k + 1) ((((wr.setCell ⟨gs, 4 * k, none⟩ (.int .u8 (t.at k / 16777216 % 256))).setCell ⟨gs, 4 * k + 1, none⟩ (.int .u8 (t.at k / 65536 % 256))).setCell ⟨gs, 4 * k + 2, none⟩ (.int .u8 (t.at k / 256 % 256))).setCell ⟨gs, 4 * k + 3, none⟩ (.int .u8 (t.at k % 256))) := by
  have hf := h.far
  refine ⟨?_, ?_, (((h.below.setCell (by simp only []; omega) _).setCell (by simp only []; omega) _).setCell (by simp only []; omega) _).setCell (by simp only []; omega) _, hf⟩
  · have e2 : arr 32 (vu8 (outF t (k + 1))) = arr 32 (fun i => if i = 4 * k + 3 then Value.int .u8 (t.at k % 256) else if i = 4 * k + 2 then Value.int .u8 (t.at k / 256 % 256) else if i = 4 * k + 1 then Value.int .u8 (t.at k / 65536 % 256) else if i = 4 * k then Value.int .u8 (t.at k / 16777216 % 256) else vu8 (outF t k) i) := arr_congr fun i hi => by
      symm
      simp only [vu8, outF]
      rcases (show i < 4 * k ∨ i = 4 * k ∨ i = 4 * k + 1 ∨ i = 4 * k + 2 ∨ i = 4 * k + 3 ∨ 4 * (k + 1) ≤ i by omega) with c | c | c | c | c | c
      · rw [if_neg (by omega), if_neg (by omega), if_neg (by omega), if_neg (by omega), if_pos c, if_pos (by omega)]
      · rw [if_neg (by omega), if_neg (by omega), if_neg (by omega), if_pos c, if_pos (by omega)]
        unfold sumB
        rw [show i / 4 = k by omega, show i % 4 = 0 by omega]; rfl
      · rw [if_neg (by omega), if_neg (by omega), if_pos c, if_pos (by omega)]
        unfold sumB
        rw [show i / 4 = k by omega, show i % 4 = 1 by omega]; rfl
      · rw [if_neg (by omega), if_pos c, if_pos (by omega)]
        unfold sumB
        rw [show i / 4 = k by omega, show i % 4 = 2 by omega]; rfl
      · rw [if_pos c, if_pos (by omega)]
        unfold sumB
        rw [show i / 4 = k by omega, show i % 4 = 3 by omega]; simp
      · rw [if_neg (by omega), if_neg (by omega), if_neg (by omega), if_neg (by omega), if_neg (by omega), if_neg (by omega)]
    rw [e2]
    exact cell_set (cell_set (cell_set (cell_set h.out (4 * k) _) (4 * k + 1) _) (4 * k + 2) _) (4 * k + 3) _
  · rw [heap_setCell_other _ _ _ _ (by simp only []; omega), heap_setCell_other _ _ _ _ (by simp only []; omega), heap_setCell_other _ _ _ _ (by simp only []; omega), heap_setCell_other _ _ _ _ (by simp only []; omega)]
    exact h.res

/-- a slice of the bytes ys -/
def Sl (ys : List Int) (w : World) (u : Value) : Prop := ∃ a k c, u = .slice a k c ∧ Hid (k = ys.length) ∧ Lies w w.heap.size a c ys
/-- a slice of two slices, the second one of the bytes ys -/
def Sl2 (T : Value) (ys : List Int) (w : World) (u : Value) : Prop := ∃ g a k c, u = .slice (some ⟨g, 0, none⟩) 2 2 ∧ w.cell? ⟨g, 0, none⟩ = some T ∧ w.cell? ⟨g, 1, none⟩ = some (.slice a k c) ∧ Hid (k = ys.length) ∧ Lies w w.heap.size a c ys
theorem Sl.later {ys : List Int} {w w' : World} {u : Value} (h : Sl ys w u) (b : Below w.heap.size w w') : Sl ys w' u := by
  obtain ⟨a, k, c, e, hk, hl⟩ := h
  exact ⟨a, k, c, e, hk, (hl.below b).more b.size⟩
theorem Sl2.later {T : Value} {ys : List Int} {w w' : World} {u : Value} (h : Sl2 T ys w u) (b : Below w.heap.size w w') : Sl2 T ys w' u := by
  obtain ⟨g, a, k, c, e, h0, h1, hk, hl⟩ := h
  have hg := block_lt_of_cell h0
  exact ⟨g, a, k, c, e, (b.cell (p := ⟨g, 0, none⟩) hg).trans h0, (b.cell (p := ⟨g, 1, none⟩) hg).trans h1, hk, (hl.below b).more b.size⟩
theorem sl_own {w : World} {base : Nat} {v : Value} {ys : List Int} (h : w.ownsRow base 5 1 v ys.length (bys ys)) : Sl ys w v := by
  obtain ⟨a, c, rfl⟩ := own_form h
  exact ⟨a, _, c, rfl, Lib.hid rfl, lies_own h⟩

/-- what holds while 'h = steps(h, slices.Concat(b[end:], padding(len(b))))' is carried out -/
def SumInv2 (u8 u9 u10 u11 u12 u13 B T1 T2 : Value) (e n g : Nat) (ds : List Int) (H H2 : S8) (w W : World) (L : Nat → Bool) (a : Act) (w' : World) : Prop :=
  ∃ u19 u20 u21 u22 u23 u24 u25 u26 u27 u28, a = { tmps := #[B, undef, .pointer (some ⟨w.heap.size, 0, none⟩), .int .i64 e, .pointer (some ⟨g, 0, none⟩), undef, undef, undef, u8, u9, u10, u11, u12, u13, .agg (arr 8 (vu32 s0.at)), B, .int .i64 e, T1, .agg (arr 8 (vu32 H.at)),
    u19, u20, u21, u22, u23, u24, u25, u26, u27, u28, undef, undef, undef, undef, undef, undef, undef, undef, undef, undef, undef, undef], defers := [] } ∧
    (L 0 = true → u19 = .agg (arr 8 (vu32 H.at))) ∧ (L 1 = true → u20 = B) ∧ (L 2 = true → u21 = .int .i64 e) ∧ (L 3 = true → u22 = T2) ∧ (L 4 = true → u23 = B) ∧ (L 5 = true → u24 = .int .i64 n) ∧
    (L 6 = true → Sl (padL n) w' u25) ∧ (L 7 = true → Sl2 T2 (padL n) w' u26) ∧ (L 8 = true → Sl (ds ++ padL n) w' u27) ∧ (L 9 = true → u28 = .agg (arr 8 (vu32 H2.at))) ∧ Below W.heap.size W w'

end Sha
end Go.Proofs.Ytnmljjehkdbbjaa
/- The sum of abc, reckoned; alive. -/
namespace Go.Proofs.Ytnmljjehkdbbjaa
set_option maxRecDepth 20000
namespace Sha
open Go.RowKit Go.Sort

def abcX : Nat → Int := blk ([97, 98, 99] ++ padL 3) 0
def WL : List Int := [1633837952, 0, 0, 0, 0, 0, 0, 0, 0, 0, 0, 0, 0, 0, 0, 24, 1633837952, 983040, 2108187653, 1610613702, 1050508152, 25426944, 316456923, 3806512014, 3357629466, 3073800610, 3854317833, 845560923, 2636160359, 3968280267, 1881225380, 3552024379, 2482346367, 996719219, 2952069057, 4043988066, 176896406, 1924104970, 2483675966, 610538786, 2672279444, 4037431130, 1042573945, 657669027, 206005234, 2215296807, 2049510749, 106709978, 4215179723, 3430291419, 3118885940, 2845390439, 2226839261, 3256115900, 344409900, 2987358873, 4015503821, 3957764664, 2682456414, 2025622859, 2755645205, 1720397816, 4004225740, 313650667]
def SL : List S8 := [
  ⟨1779033703, 3144134277, 1013904242, 2773480762, 1359893119, 2600822924, 528734635, 1541459225⟩,
  ⟨1567288269, 1779033703, 3144134277, 1013904242, 4197074466, 1359893119, 2600822924, 528734635⟩,
  ⟨1516951981, 1567288269, 1779033703, 3144134277, 2026797449, 4197074466, 1359893119, 2600822924⟩,
  ⟨3368241063, 1516951981, 1567288269, 1779033703, 4180228587, 2026797449, 4197074466, 1359893119⟩,
  ⟨3578852966, 3368241063, 1516951981, 1567288269, 618661968, 4180228587, 2026797449, 4197074466⟩,
  ⟨71342698, 3578852966, 3368241063, 1516951981, 1135452741, 618661968, 4180228587, 2026797449⟩,
  ⟨725748213, 71342698, 3578852966, 3368241063, 1900175533, 1135452741, 618661968, 4180228587⟩,
  ⟨3842179968, 725748213, 71342698, 3578852966, 2603066369, 1900175533, 1135452741, 618661968⟩,
  ⟨2241887071, 3842179968, 725748213, 71342698, 207977081, 2603066369, 1900175533, 1135452741⟩,
  ⟨2382687417, 2241887071, 3842179968, 725748213, 852110732, 207977081, 2603066369, 1900175533⟩,
  ⟨2357671019, 2382687417, 2241887071, 3842179968, 482944406, 852110732, 207977081, 2603066369⟩,
  ⟨1201185780, 2357671019, 2382687417, 2241887071, 1131095016, 482944406, 852110732, 207977081⟩,
  ⟨4146054569, 1201185780, 2357671019, 2382687417, 2171590377, 1131095016, 482944406, 852110732⟩,
  ⟨2274437520, 4146054569, 1201185780, 2357671019, 509051416, 2171590377, 1131095016, 482944406⟩,
  ⟨3643992854, 2274437520, 4146054569, 1201185780, 1952073950, 509051416, 2171590377, 1131095016⟩,
  ⟨3227803614, 3643992854, 2274437520, 4146054569, 194179596, 1952073950, 509051416, 2171590377⟩,
  ⟨2969183118, 3227803614, 3643992854, 2274437520, 123276749, 194179596, 1952073950, 509051416⟩,
  ⟨567974555, 2969183118, 3227803614, 3643992854, 2150900380, 123276749, 194179596, 1952073950⟩,
  ⟨3271285201, 567974555, 2969183118, 3227803614, 2221859924, 2150900380, 123276749, 194179596⟩,
  ⟨4269243327, 3271285201, 567974555, 2969183118, 3431569761, 2221859924, 2150900380, 123276749⟩,
  ⟨3790736435, 4269243327, 3271285201, 567974555, 2959311225, 3431569761, 2221859924, 2150900380⟩,
  ⟨2647034723, 3790736435, 4269243327, 3271285201, 2329577776, 2959311225, 3431569761, 2221859924⟩,
  ⟨3261099373, 2647034723, 3790736435, 4269243327, 3777329520, 2329577776, 2959311225, 3431569761⟩,
  ⟨2812502591, 3261099373, 2647034723, 3790736435, 1240797514, 3777329520, 2329577776, 2959311225⟩,
  ⟨3319086477, 2812502591, 3261099373, 2647034723, 2856829767, 1240797514, 3777329520, 2329577776⟩,
  ⟨472655928, 3319086477, 2812502591, 3261099373, 673443729, 2856829767, 1240797514, 3777329520⟩,
  ⟨3454534525, 472655928, 3319086477, 2812502591, 339230094, 673443729, 2856829767, 1240797514⟩,
  ⟨3056518332, 3454534525, 472655928, 3319086477, 3343672598, 339230094, 673443729, 2856829767⟩,
  ⟨2010346792, 3056518332, 3454534525, 472655928, 3992961016, 3343672598, 339230094, 673443729⟩,
  ⟨909411017, 2010346792, 3056518332, 3454534525, 1628611511, 3992961016, 3343672598, 339230094⟩,
  ⟨2684750640, 909411017, 2010346792, 3056518332, 2917635127, 1628611511, 3992961016, 3343672598⟩,
  ⟨3935906338, 2684750640, 909411017, 2010346792, 17410874, 2917635127, 1628611511, 3992961016⟩,
  ⟨1941126133, 3935906338, 2684750640, 909411017, 3126399250, 17410874, 2917635127, 1628611511⟩,
  ⟨2564891911, 1941126133, 3935906338, 2684750640, 2631529974, 3126399250, 17410874, 2917635127⟩,
  ⟨4267724277, 2564891911, 1941126133, 3935906338, 1495571923, 2631529974, 3126399250, 17410874⟩,
  ⟨2846323596, 4267724277, 2564891911, 1941126133, 140458035, 1495571923, 2631529974, 3126399250⟩,
  ⟨1705037796, 2846323596, 4267724277, 2564891911, 4105175766, 140458035, 1495571923, 2631529974⟩,
  ⟨1101421745, 1705037796, 2846323596, 4267724277, 124953195, 4105175766, 140458035, 1495571923⟩,
  ⟨887035396, 1101421745, 1705037796, 2846323596, 2768741693, 124953195, 4105175766, 140458035⟩,
  ⟨1841658506, 887035396, 1101421745, 1705037796, 4034403272, 2768741693, 124953195, 4105175766⟩,
  ⟨2045405306, 1841658506, 887035396, 1101421745, 519815328, 4034403272, 2768741693, 124953195⟩,
  ⟨3597076326, 2045405306, 1841658506, 887035396, 641019235, 519815328, 4034403272, 2768741693⟩,
  ⟨3745932591, 3597076326, 2045405306, 1841658506, 2206934801, 641019235, 519815328, 4034403272⟩,
  ⟨397020670, 3745932591, 3597076326, 2045405306, 3737995029, 2206934801, 641019235, 519815328⟩,
  ⟨2638983059, 397020670, 3745932591, 3597076326, 4255271982, 3737995029, 2206934801, 641019235⟩,
  ⟨643991573, 2638983059, 397020670, 3745932591, 2819559920, 4255271982, 3737995029, 2206934801⟩,
  ⟨1923828625, 643991573, 2638983059, 397020670, 3077922209, 2819559920, 4255271982, 3737995029⟩,
  ⟨2706117808, 1923828625, 643991573, 2638983059, 3581645993, 3077922209, 2819559920, 4255271982⟩,
  ⟨1098003085, 2706117808, 1923828625, 643991573, 4274981830, 3581645993, 3077922209, 2819559920⟩,
  ⟨91585771, 1098003085, 2706117808, 1923828625, 3178315832, 4274981830, 3581645993, 3077922209⟩,
  ⟨4045142696, 91585771, 1098003085, 2706117808, 1851537676, 3178315832, 4274981830, 3581645993⟩,
  ⟨2047150241, 4045142696, 91585771, 1098003085, 1391578359, 1851537676, 3178315832, 4274981830⟩,
  ⟨2288941602, 2047150241, 4045142696, 91585771, 1227037726, 1391578359, 1851537676, 3178315832⟩,
  ⟨270520975, 2288941602, 2047150241, 4045142696, 1386118400, 1227037726, 1391578359, 1851537676⟩,
  ⟨4117770203, 270520975, 2288941602, 2047150241, 2672265155, 1386118400, 1227037726, 1391578359⟩,
  ⟨1053056219, 4117770203, 270520975, 2288941602, 3842906959, 2672265155, 1386118400, 1227037726⟩,
  ⟨952932627, 1053056219, 4117770203, 270520975, 1422599787, 3842906959, 2672265155, 1386118400⟩,
  ⟨4241590395, 952932627, 1053056219, 4117770203, 2606665836, 1422599787, 3842906959, 2672265155⟩,
  ⟨3227702383, 4241590395, 952932627, 1053056219, 2118385806, 2606665836, 1422599787, 3842906959⟩,
  ⟨4290184306, 3227702383, 4241590395, 952932627, 1837350854, 2118385806, 2606665836, 1422599787⟩,
  ⟨3064893439, 4290184306, 3227702383, 4241590395, 2988158269, 1837350854, 2118385806, 2606665836⟩,
  ⟨3093179625, 3064893439, 4290184306, 3227702383, 2518632596, 2988158269, 1837350854, 2118385806⟩,
  ⟨80891244, 3093179625, 3064893439, 4290184306, 2492278198, 2518632596, 2988158269, 1837350854⟩,
  ⟨3550093669, 80891244, 3093179625, 3064893439, 4212265488, 2492278198, 2518632596, 2988158269⟩,
  ⟨1349398616, 3550093669, 80891244, 3093179625, 1593118500, 4212265488, 2492278198, 2518632596⟩]
def wl (t : Nat) : Int := WL.getD t 0
def sl (t : Nat) : S8 := SL.getD t s0

theorem wl_first : ∀ t : Fin 16, wd abcX t.val = wl t.val := by decide +kernel
theorem wl_next : ∀ k : Fin 48, nextW wl (16 + k.val) = wl (16 + k.val) := by decide +kernel
theorem nextW_congr {f g : Nat → Int} {t : Nat} (h : ∀ i, i < t → f i = g i) (ht : 16 ≤ t) : nextW f t = nextW g t := by
  unfold nextW
  rw [h _ (by omega), h _ (by omega), h _ (by omega), h _ (by omega)]
theorem ws_abc : ∀ k, k ≤ 48 → ∀ t, t < 16 + k → ws abcX k t = wl t
  | 0, _, t, ht => by
    simp only [ws, ws0]
    rw [if_pos (by omega)]
    exact wl_first ⟨t, by omega⟩
  | k + 1, hk, t, ht => by
    have ih := ws_abc k (by omega)
    simp only [ws]
    by_cases h : t = 16 + k
    · rw [if_pos h, nextW_congr (g := wl) (fun i hi => ih i hi) (by omega), h]
      exact wl_next ⟨k, by omega⟩
    · rw [if_neg h]
      exact ih t (by omega)
def eq8 (s t : S8) : Bool := s.a == t.a && s.b == t.b && s.c == t.c && s.d == t.d && s.e == t.e && s.f == t.f && s.g == t.g && s.h == t.h
theorem eq8_of {s t : S8} (h : eq8 s t = true) : s = t := by
  simp only [eq8, Bool.and_eq_true, beq_iff_eq] at h
  obtain ⟨⟨⟨⟨⟨⟨⟨h1, h2⟩, h3⟩, h4⟩, h5⟩, h6⟩, h7⟩, h8⟩ := h
  cases s; cases t
  simp only at h1 h2 h3 h4 h5 h6 h7 h8
  simp only [h1, h2, h3, h4, h5, h6, h7, h8]
theorem sl_next : ∀ k : Fin 64, eq8 (rnd (sl k.val) (kT k.val) (wl k.val)) (sl (k.val + 1)) = true := by decide +kernel
theorem sl_zero : sl 0 = s0 := by kernel_rfl
theorem stp_abc : ∀ k, k ≤ 64 → stp s0 kT (ws abcX 48) k = sl k
  | 0, _ => sl_zero.symm
  | k + 1, hk => by
    simp only [stp]
    rw [stp_abc k (by omega), ws_abc 48 (by omega) k (by omega)]
    exact eq8_of (sl_next ⟨k, by omega⟩)
theorem sum_abc : sumS [97, 98, 99] = addS (sl 64) s0 := by
  have e : sumS [97, 98, 99] = stepS kT s0 abcX := by kernel_rfl
  rw [e]
  unfold stepS
  rw [stp_abc 64 (by omega)]
theorem abc0 : sumB (sumS [97, 98, 99]) 0 = 186 := by rw [sum_abc]; decide +kernel
theorem abc1 : sumB (sumS [97, 98, 99]) 1 = 120 := by rw [sum_abc]; decide +kernel
theorem abc31 : sumB (sumS [97, 98, 99]) 31 = 173 := by rw [sum_abc]; decide +kernel

theorem byte_abc : Byte [97, 98, 99] := by
  intro x hx
  simp at hx
  omega
theorem lies_abc (w : World) : Lies (w.alloc (.cells #[.int .u8 97, .int .u8 98, .int .u8 99] 5 (3, 4))) (w.alloc (.cells #[.int .u8 97, .int .u8 98, .int .u8 99] 5 (3, 4))).heap.size (some ⟨w.heap.size, 0, none⟩) 3 [97, 98, 99] := by
  refine ⟨by simp, by simp, fun _ => ⟨w.heap.size, 0, rfl, by simp, fun i hi => ?_⟩⟩
  rw [Nat.zero_add, World.cell?_alloc_mark]
  match i, hi with
  | 0, _ => rfl
  | 1, _ => rfl
  | 2, _ => rfl
  | n + 3, h => exact absurd h (by simp)

theorem lies_nil (w : World) (B : Nat) : Lies w B none 0 [] := ⟨Nat.le_refl _, fun _ => rfl, fun h => absurd rfl h⟩

end Sha
end Go.Proofs.Ytnmljjehkdbbjaa
/- The reference's Sum. -/
namespace Go.Proofs.Ytnmljjehkdbbjaa
set_option maxRecDepth 20000
namespace Sha
open Go.RowKit Go.Sort

/-- a block's box behind j bytes -/
structure BlkW (ys : List Int) (k j : Nat) (w wr : World) : Prop where
  row : wr.heap[w.heap.size]? = some (.cells (arr 64 (vu8 fun i => if i < j then blk ys k i else 0)) 30 (0, 0))
  low : Below w.heap.size w wr
theorem BlkW.store {ys : List Int} {k j : Nat} {w wr : World} (h : BlkW ys k j w wr) : BlkW ys k (j + 1) w (wr.setCell ⟨w.heap.size, j, none⟩ (.int .u8 (blk ys k j))) := by
  refine ⟨?_, h.low.setCell (Nat.le_refl _) _⟩
  have e := heap_setCell_same wr w.heap.size j (arr 64 (vu8 fun i => if i < j then blk ys k i else 0)) 30 (.int .u8 (blk ys k j)) h.row
  rw [arr_set] at e
  have e2 : arr 64 (vu8 fun i => if i < j + 1 then blk ys k i else 0) = arr 64 (fun i => if i = j then Value.int .u8 (blk ys k j) else vu8 (fun i => if i < j then blk ys k i else 0) i) := arr_congr fun i _ => by
    simp only [vu8]
    by_cases h1 : i = j
    · subst h1; rw [if_pos rfl, if_pos (by omega)]
    · rw [if_neg h1]
      by_cases h2 : i < j
      · rw [if_pos h2, if_pos (by omega)]
      · rw [if_neg h2, if_neg (by omega)]
  rw [e2]
  exact e
theorem BlkW.free {ys : List Int} {k j : Nat} {w wr : World} (h : BlkW ys k j w wr) (i : Nat) : wr.frozen? ⟨w.heap.size, i, none⟩ = false := frozen_of_row wr _ i _ _ h.row
theorem BlkW.there {ys : List Int} {k j : Nat} {w wr : World} (h : BlkW ys k j w wr) {i : Nat} (hi : i < 64) : ∃ v, wr.cell? ⟨w.heap.size, i, none⟩ = some v := ⟨_, by rw [cell_of_row wr _ i _ _ _ h.row, arr_get _ hi]⟩

/-- the sum's box behind j bytes -/
structure OutW (s : S8) (j : Nat) (w wr : World) : Prop where
  row : wr.heap[w.heap.size]? = some (.cells (arr 32 (vu8 fun i => if i < j then sumB s i else 0)) 22 (0, 0))
  low : Below w.heap.size w wr
theorem OutW.store {s : S8} {j : Nat} {w wr : World} (h : OutW s j w wr) : OutW s (j + 1) w (wr.setCell ⟨w.heap.size, j, none⟩ (.int .u8 (sumB s j))) := by
  refine ⟨?_, h.low.setCell (Nat.le_refl _) _⟩
  have e := heap_setCell_same wr w.heap.size j (arr 32 (vu8 fun i => if i < j then sumB s i else 0)) 22 (.int .u8 (sumB s j)) h.row
  rw [arr_set] at e
  have e2 : arr 32 (vu8 fun i => if i < j + 1 then sumB s i else 0) = arr 32 (fun i => if i = j then Value.int .u8 (sumB s j) else vu8 (fun i => if i < j then sumB s i else 0) i) := arr_congr fun i _ => by
    simp only [vu8]
    by_cases h1 : i = j
    · subst h1; rw [if_pos rfl, if_pos (by omega)]
    · rw [if_neg h1]
      by_cases h2 : i < j
      · rw [if_pos h2, if_pos (by omega)]
      · rw [if_neg h2, if_neg (by omega)]
  rw [e2]
  exact e
theorem OutW.free {s : S8} {j : Nat} {w wr : World} (h : OutW s j w wr) (i : Nat) : wr.frozen? ⟨w.heap.size, i, none⟩ = false := frozen_of_row wr _ i _ _ h.row
theorem OutW.there {s : S8} {j : Nat} {w wr : World} (h : OutW s j w wr) {i : Nat} (hi : i < 32) : ∃ v, wr.cell? ⟨w.heap.size, i, none⟩ = some v := ⟨_, by rw [cell_of_row wr _ i _ _ _ h.row, arr_get _ hi]⟩

end Sha
end Go.Proofs.Ytnmljjehkdbbjaa
/- Two arrays of the same integers are equal; operations of a region that read and call quietly, one at a time. -/
namespace Go.Proofs.Ytnmljjehkdbbjaa
set_option maxRecDepth 20000
namespace Sha
open Go.RowKit Go.Sort

theorem eqItems_same {P : Program} {e : TypeId} {k : IntKind} (he : P.plainKey e = true) (hu : P.underlying e = some (.int k)) (d : Nat) (xs : Array Value) (F : Nat → Int) (w : World) :
    ∀ (is : List Nat), (∀ i ∈ is, xs[i]? = some (.int k (F i))) → (Op.eqItems (d + 1) e 1 xs xs is).run P w = .ok true w
  | [], _ => by simp [Op.eqItems]
  | i :: is, h => by
    have h1 := h i (by simp)
    simp only [Op.eqItems, Sem.run_bind, Nat.mul_one, run_part_plain w he h1, Result.andThen_ok, run_equalIn_int w d e k k (F i) (F i) hu]
    simpa using eqItems_same he hu d xs F w is fun j hj => h j (by simp [hj])

theorem equal_same32 (F : Nat → Int) (w : World) : (Op.equalIn 10000 22 (.agg (arr 32 (vu8 F))) (.agg (arr 32 (vu8 F)))).run Try.prog w = .ok true w := by
  obtain ⟨i, hi⟩ : ∃ i, Try.prog.info? 5 = some i := ⟨_, rfl⟩
  rw [run_equalIn_array w 9999 (n := 32) (e := 5) _ _ (by kernel_rfl) hi, show Try.prog.cellsOf 5 = 1 by kernel_rfl]
  exact eqItems_same (k := .u8) (by kernel_rfl) (by kernel_rfl) 9998 _ F w _ fun i hi => by rw [arr_get _ (by simpa using hi)]; rfl

section
variable {P : Program} {C : World → Prop} {a : Act} {o : Oper} {K : Act → Prop}
theorem quiet_call (f : FuncId) (args : Array Value) (v : Value) (ho : ∀ w, (execOp a.eval o).run P w = .ok (.enter f args) w) (hc : ∀ w, C w → Calls P f args w fun e w'' => e = .returned v ∧ C w'') (hk : K (a.put o.dst v)) : o.quiet P a C K :=
  ⟨v, fun w hw => by unfold Oper.quietAt; rw [ho w]; exact ⟨rfl, hc w hw⟩, hk⟩
theorem quiet_value (v : Value) (ho : ∀ w, C w → (execOp a.eval o).run P w = .ok (.value v) w) (hk : K (a.put o.dst v)) : o.quiet P a C K :=
  ⟨v, fun w hw => by unfold Oper.quietAt; rw [ho w hw]; exact ⟨rfl, rfl⟩, hk⟩
theorem quiet_load_rowC (ty : TypeId) (x : Operand) (ho : o.op = .load ty x) (g : Nat) (hx : a.eval x = .pointer (some ⟨g, 0, none⟩)) (t : TypeId) (cs : Array Value) (fr : Nat × Nat) (d : TypeDesc) (hg : ∀ w, C w → w.heap[g]? = some (.cells cs t fr))
    (hu : P.underlying ty = some d) (hd : (match d with | .struct _ | .array _ _ => true | _ => false) = true) (hi : (P.info? ty).map (·.size) = some cs.size) (hk : K (a.put o.dst (.agg cs))) : o.quiet P a C K :=
  quiet_value (.agg cs) (fun w hw => by
    unfold execOp
    simp only [ho, hx, Instr.loadAt, Instr.sureAddr, Sem.run_bind, Sem.run_pure, Result.andThen_ok, run_loadVar_row w g t ty cs fr d (hg w hw) hu hd hi]) hk
end

end Sha
end Go.Proofs.Ytnmljjehkdbbjaa
