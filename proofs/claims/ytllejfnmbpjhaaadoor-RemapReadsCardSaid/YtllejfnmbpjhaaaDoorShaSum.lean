/- sha.Sum. -/
import Derived.Test.YtllejfnmbpjhaaaDoorShaSteps
import Derived.Test.YtllejfnmbpjhaaaDoorShaPad
namespace Go.Proofs.YtllejfnmbpjhaaaDoor
set_option maxRecDepth 20000
namespace Sha
open Go.RowKit Go.Sort

theorem size_elem (W : World) : (sizeOf (Tryd.prog.elem 61)).run Tryd.prog W = .ok 1 W := by kernel_rfl
theorem under_elem : Tryd.prog.underlying 61 = some (.slice (Tryd.prog.elem 61)) := by kernel_rfl

/-- b[:e] -/
theorem run_cut_hi {w : World} {B : Nat} {ao : Option Addr} {cap n e : Nat} {xs : List Int} (hl : Lies w B ao cap xs) (hn : n = xs.length) (he : e ≤ n) :
    (∀ W, (Instr.sliceAt 61 (.slice ao n cap) none (some (.int .i64 (e : Int))) none).run Tryd.prog W = .ok (.slice ao e cap) W) ∧ Lies w B ao cap (xs.take e) := by
  have hr := hl.room
  refine ⟨fun W => ?_, ⟨by rw [List.length_take]; omega, hl.nil, fun hx => ?_⟩⟩
  · rw [run_sliceAt_slice W 61 _ _ _ _ under_elem, run_slice_h W 61 ao n cap under_elem .i64 (e : Int) (by omega) (by omega), size_elem]
    simp only [Result.andThen, sliced, Int.toNat_natCast, Nat.sub_zero, Nat.zero_mul]
    by_cases h0 : cap = 0
    · simp [h0]
    · rw [if_neg h0]
      cases ao with
      | none => rfl
      | some a => simp [Addr.add]
  · obtain ⟨b, off, e1, hb, hc⟩ := hl.cells (by rintro rfl; simp at hx)
    refine ⟨b, off, e1, hb, fun i hi => ?_⟩
    rw [List.length_take] at hi
    rw [hc i (by omega)]
    simp only [List.getD_eq_getElem?_getD, List.getElem?_take]
    rw [if_pos (by omega)]

/-- b[e:] -/
theorem run_cut_lo {w : World} {B : Nat} {ao : Option Addr} {cap n e : Nat} {xs : List Int} (hl : Lies w B ao cap xs) (hn : n = xs.length) (he : e ≤ n) :
    ∃ a2, (∀ W, (Instr.sliceAt 61 (.slice ao n cap) (some (.int .i64 (e : Int))) none none).run Tryd.prog W = .ok (.slice a2 (n - e) (cap - e)) W) ∧ Lies w B a2 (cap - e) (xs.drop e) := by
  have hr := hl.room
  refine ⟨if cap = e then ao else ao.map (·.add (e * 1)), fun W => ?_, ⟨by rw [List.length_drop]; omega, fun h => ?_, fun hx => ?_⟩⟩
  · rw [run_sliceAt_slice W 61 _ _ _ _ under_elem, run_slice_l W 61 ao n cap under_elem .i64 (e : Int) (by omega) (by omega), size_elem]
    simp only [Result.andThen, sliced, Int.toNat_natCast]
  · by_cases hc : cap = e
    · omega
    · rw [if_neg hc] at h
      cases ao with
      | none => have := hl.nil rfl; omega
      | some a => simp at h
  · have hlen : e < xs.length := by
      rcases Nat.lt_or_ge e xs.length with h | h
      · exact h
      · exact absurd (List.drop_eq_nil_of_le h) hx
    obtain ⟨b, off, e1, hb, hc⟩ := hl.cells (by rintro rfl; simp at hlen)
    rw [if_neg (by omega), e1]
    refine ⟨b, off + e, by simp [Addr.add_mid], hb, fun i hi => ?_⟩
    rw [List.length_drop] at hi
    rw [Nat.add_assoc, hc (e + i) (by omega)]
    simp only [List.getD_eq_getElem?_getD, List.getElem?_drop]

theorem byte_take {xs : List Int} (h : Byte xs) (e : Nat) : Byte (xs.take e) := fun x hx => h x (List.mem_of_mem_take hx)
theorem byte_drop {xs : List Int} (h : Byte xs) (e : Nat) : Byte (xs.drop e) := fun x hx => h x (List.mem_of_mem_drop hx)
theorem byte_append {xs ys : List Int} (h : Byte xs) (k : Byte ys) : Byte (xs ++ ys) := fun x hx => (List.mem_append.1 hx).elim (h x) (k x)
theorem byte_padK (n k : Nat) : Byte (padK n k) := by
  intro x hx
  simp only [padK, List.mem_map] at hx
  obtain ⟨i, _, rfl⟩ := hx
  unfold pf
  split
  · omega
  · split
    · omega
    · exact ⟨Int.emod_nonneg _ (by omega), Int.emod_lt_of_pos _ (by omega)⟩

theorem keepL {L : Nat → Bool} {i j : Nat} {p : Prop} (h : L i = true → p) (hij : (i == j) = false) : (i == j || L i) = true → p := fun e => h (by rwa [hij, Bool.false_or] at e)

theorem info32 {f : Nat → Value} : (Tryd.prog.info? 63).map (·.size) = some (arr 32 f).size := by
  rw [arr_size]; kernel_rfl
theorem zeros32 : (#[.int .u8 0, .int .u8 0, .int .u8 0, .int .u8 0, .int .u8 0, .int .u8 0, .int .u8 0, .int .u8 0, .int .u8 0, .int .u8 0, .int .u8 0, .int .u8 0, .int .u8 0, .int .u8 0, .int .u8 0, .int .u8 0,
  .int .u8 0, .int .u8 0, .int .u8 0, .int .u8 0, .int .u8 0, .int .u8 0, .int .u8 0, .int .u8 0, .int .u8 0, .int .u8 0, .int .u8 0, .int .u8 0, .int .u8 0, .int .u8 0, .int .u8 0, .int .u8 0] : Array Value) = arr 32 (vu8 fun _ => 0) := by kernel_rfl
theorem s0_arr : s0.vals = arr 8 (vu32 s0.at) := vals_arr _

/-- what holds while 'h := steps(squareRoots(), b[:end])' is carried out -/
def SumInv1 (B T1 : Value) (e : Nat) (H : S8) (w W : World) (L : Nat → Bool) (a : Act) (w' : World) : Prop :=
  ∃ u8 u9 u10 u11 u12 u13 u14 u15 u16 u17 u18 u4, a = { tmps := #[B, undef, .pointer (some ⟨w.heap.size, 0, none⟩), .int .i64 e, u4, undef, undef, undef, u8, u9, u10, u11, u12, u13, u14, u15, u16, u17, u18,
    undef, undef, undef, undef, undef, undef, undef, undef, undef, undef, undef, undef, undef, undef, undef, undef, undef, undef, undef, undef, undef, undef], defers := [] } ∧
    (L 0 = true → u14 = .agg (arr 8 (vu32 s0.at))) ∧ (L 1 = true → u15 = B) ∧ (L 2 = true → u16 = .int .i64 e) ∧ (L 3 = true → u17 = T1) ∧ (L 4 = true → u18 = .agg (arr 8 (vu32 H.at))) ∧
    (L 5 = true → ∃ g, u4 = .pointer (some ⟨g, 0, none⟩) ∧ W.heap.size ≤ g ∧ g < w'.heap.size ∧ w'.heap[g]? = some (.cells (arr 8 (vu32 fun _ => 0)) 132 (0, 0))) ∧ Below W.heap.size W w'

/-- the numbers behind all blocks of the padded bytes of xs -/
def sumS (xs : List Int) : S8 := stL kT (xs ++ padL xs.length) s0 ((xs.length + zr xs.length + 9) / 64)
theorem blk_left {A B : List Int} {k : Nat} (h : 64 * (k + 1) ≤ A.length) (j : Nat) (hj : j < 64) : blk (A ++ B) k j = blk A k j := by
  unfold blk
  simp only [List.getD_eq_getElem?_getD]
  rw [List.getElem?_append_left (by omega)]
theorem blk_right {A B : List Int} {q : Nat} (h : A.length = 64 * q) (k j : Nat) : blk (A ++ B) (q + k) j = blk B k j := by
  unfold blk
  simp only [List.getD_eq_getElem?_getD]
  rw [List.getElem?_append_right (by omega), show 64 * (q + k) + j - A.length = 64 * k + j by omega]
theorem ws_congr {x y : Nat → Int} (h : ∀ j, j < 64 → x j = y j) : ∀ k, ws x k = ws y k
  | 0 => by
    funext t
    simp only [ws, ws0]
    by_cases ht : t < 16
    · rw [if_pos ht, if_pos ht]
      unfold wd
      rw [h _ (by omega), h _ (by omega), h _ (by omega), h _ (by omega)]
    · rw [if_neg ht, if_neg ht]
  | k + 1 => by
    have ih := ws_congr h k
    simp only [ws, ih]
theorem stepS_congr {K : Nat → Int} {s : S8} {x y : Nat → Int} (h : ∀ j, j < 64 → x j = y j) : stepS K s x = stepS K s y := by
  unfold stepS
  rw [ws_congr h 48]
theorem stL_left {K : Nat → Int} {A B : List Int} {s : S8} {q : Nat} (h : A.length = 64 * q) : ∀ k, k ≤ q → stL K (A ++ B) s k = stL K A s k
  | 0, _ => rfl
  | k + 1, hk => by
    simp only [stL]
    rw [stL_left h k (by omega)]
    exact stepS_congr fun j hj => blk_left (by omega) j hj
theorem stL_right {K : Nat → Int} {A B : List Int} {s : S8} {q : Nat} (h : A.length = 64 * q) : ∀ k, stL K (A ++ B) s (q + k) = stL K B (stL K A s q) k
  | 0 => stL_left h q (Nat.le_refl _)
  | k + 1 => by
    show stepS K (stL K (A ++ B) s (q + k)) (blk (A ++ B) (q + k)) = stepS K (stL K B (stL K A s q) k) (blk B k)
    rw [stL_right h k]
    exact stepS_congr fun j _ => blk_right h k j
theorem sumS_split {xs : List Int} {n e : Nat} (hn : n = xs.length) (he : e = n - n % 64) : sumS xs = stL kT (xs.drop e ++ padL n) (stL kT (xs.take e) s0 (e / 64)) ((n - e + zr n + 9) / 64) := by
  subst hn
  unfold sumS
  have hl : (xs.take e).length = 64 * (e / 64) := by rw [List.length_take]; omega
  have h1 := stL_right (K := kT) (A := xs.take e) (B := xs.drop e ++ padL xs.length) (s := s0) hl ((xs.length - e + zr xs.length + 9) / 64)
  rw [← List.append_assoc, List.take_append_drop] at h1
  rw [← h1]
  congr 1
  unfold zr
  omega
/-- byte i of a sum -/
def sumB (t : S8) (i : Nat) : Int := t.at (i / 4) / 2 ^ (24 - 8 * (i % 4)) % 256
def outF (t : S8) (k i : Nat) : Int := if i < 4 * k then sumB t i else 0
/-- the world of Sum's last loop behind k numbers; the bytes lie in block gs -/
structure FinW (t : S8) (gs : Nat) (w : World) (k : Nat) (wr : World) : Prop where
  out : wr.heap[gs]? = some (.cells (arr 32 (vu8 (outF t k))) 63 (0, 0))
  res : wr.heap[w.heap.size]? = some (.cells (arr 32 (vu8 fun _ => 0)) 63 (0, 0))
  below : Below w.heap.size w wr
  far : w.heap.size < gs
theorem FinW.start {t : S8} {w W3 : World} (hr : W3.heap[w.heap.size]? = some (.cells (arr 32 (vu8 fun _ => 0)) 63 (0, 0))) (hb : Below w.heap.size w W3) (hl : w.heap.size < W3.heap.size) :
    FinW t W3.heap.size w 0 (W3.alloc (.cells (arr 32 (vu8 fun _ => 0)) 63)) := by
  refine ⟨?_, ?_, hb.alloc hb.size _, hl⟩
  · rw [show arr 32 (vu8 (outF t 0)) = arr 32 (vu8 fun _ => 0) from arr_congr fun i _ => by simp [vu8, outF]]; exact heap_alloc_new _ _
  · rw [heap_alloc_old _ _ hl]; exact hr
theorem cell_set {w : World} {g m : Nat} {f : Nat → Value} {t : TypeId} (h : w.heap[g]? = some (.cells (arr m f) t (0, 0))) (j : Nat) (v : Value) :
    (w.setCell ⟨g, j, none⟩ v).heap[g]? = some (.cells (arr m fun i => if i = j then v else f i) t (0, 0)) := by
  have e := heap_setCell_same w g j (arr m f) t v h
  rwa [arr_set] at e
theorem FinW.there {t : S8} {gs : Nat} {w : World} {k : Nat} {wr : World} (h : FinW t gs w k wr) {j : Nat} (hj : j < 32) : ∃ v, wr.cell? ⟨gs, j, none⟩ = some v := ⟨_, by rw [cell_of_row wr gs j _ _ _ h.out, arr_get _ hj]⟩
theorem FinW.free {t : S8} {gs : Nat} {w : World} {k : Nat} {wr : World} (h : FinW t gs w k wr) (j : Nat) : wr.frozen? ⟨gs, j, none⟩ = false := frozen_of_row wr gs j _ _ h.out
theorem slice_block32 (b k : Nat) (hk : k < 8) (W : World) : (Instr.sliceAt 63 (.pointer (some ⟨b, 0, none⟩)) (some (.int .i64 (4 * (k : Int)))) none none).run Tryd.prog W = .ok (.slice (some ⟨b, 4 * k, none⟩) (32 - 4 * k) (32 - 4 * k)) W := by
  have hal : Tryd.prog.arrayLen 63 = 32 := by kernel_rfl
  have hsz : (sizeOf (Tryd.prog.elem 63)).run Tryd.prog W = .ok 1 W := by kernel_rfl
  rw [run_sliceAt_array_l W 63 ⟨b, 0, none⟩ (by kernel_rfl) .i64 (4 * (k : Int)) (by omega) (by rw [hal]; omega), hsz, hal]
  have e : (4 * (k : Int)).toNat = 4 * k := by omega
  simp only [Result.andThen, slicedAt, e, Nat.mul_one]
  rw [if_neg (by omega)]
  simp [Addr.add]
  omega
theorem run_index8 (f : Nat → Int) (k : Nat) (hk : k < 8) (W : World) : (Instr.index 132 (.agg (arr 8 (vu32 f))) (.int .i64 (k : Int))).run Tryd.prog W = .ok (.int .u32 (f k)) W := by
  match k, hk with
  | 0, _ =>
    show (Instr.index 132 (.agg (arr 8 (vu32 f))) (.int .i64 0)).run Tryd.prog W = .ok (.int .u32 (f 0)) W
    kernel_rfl
  | 1, _ =>
    show (Instr.index 132 (.agg (arr 8 (vu32 f))) (.int .i64 1)).run Tryd.prog W = .ok (.int .u32 (f 1)) W
    kernel_rfl
  | 2, _ =>
    show (Instr.index 132 (.agg (arr 8 (vu32 f))) (.int .i64 2)).run Tryd.prog W = .ok (.int .u32 (f 2)) W
    kernel_rfl
  | 3, _ =>
    show (Instr.index 132 (.agg (arr 8 (vu32 f))) (.int .i64 3)).run Tryd.prog W = .ok (.int .u32 (f 3)) W
    kernel_rfl
  | 4, _ =>
    show (Instr.index 132 (.agg (arr 8 (vu32 f))) (.int .i64 4)).run Tryd.prog W = .ok (.int .u32 (f 4)) W
    kernel_rfl
  | 5, _ =>
    show (Instr.index 132 (.agg (arr 8 (vu32 f))) (.int .i64 5)).run Tryd.prog W = .ok (.int .u32 (f 5)) W
    kernel_rfl
  | 6, _ =>
    show (Instr.index 132 (.agg (arr 8 (vu32 f))) (.int .i64 6)).run Tryd.prog W = .ok (.int .u32 (f 6)) W
    kernel_rfl
  | 7, _ =>
    show (Instr.index 132 (.agg (arr 8 (vu32 f))) (.int .i64 7)).run Tryd.prog W = .ok (.int .u32 (f 7)) W
    kernel_rfl
  | n + 8, h => omega
theorem FinW.next {t : S8} {gs : Nat} {w : World} {k : Nat} {wr : World} (h : FinW t gs w k wr) (_hk : k < 8) :
    FinW t gs w (k + 1) ((((wr.setCell ⟨gs, 4 * k, none⟩ (.int .u8 (t.at k / 16777216 % 256))).setCell ⟨gs, 4 * k + 1, none⟩ (.int .u8 (t.at k / 65536 % 256))).setCell ⟨gs, 4 * k + 2, none⟩ (.int .u8 (t.at k / 256 % 256))).setCell ⟨gs, 4 * k + 3, none⟩ (.int .u8 (t.at k % 256))) := by
  have hf := h.far
  refine ⟨?_, ?_, (((h.below.setCell (by simp only []; omega) _).setCell (by simp only []; omega) _).setCell (by simp only []; omega) _).setCell (by simp only []; omega) _, hf⟩
  · have e2 : arr 32 (vu8 (outF t (k + 1))) = arr 32 (fun i => if i = 4 * k + 3 then Value.int .u8 (t.at k % 256) else if i = 4 * k + 2 then Value.int .u8 (t.at k / 256 % 256) else if i = 4 * k + 1 then Value.int .u8 (t.at k / 65536 % 256) else if i = 4 * k then Value.int .u8 (t.at k / 16777216 % 256) else vu8 (outF t k) i) := arr_congr fun i hi => by
      symm
      simp only [vu8, outF]
      rcases (show i < 4 * k ∨ i = 4 * k ∨ i = 4 * k + 1 ∨ i = 4 * k + 2 ∨ i = 4 * k + 3 ∨ 4 * (k + 1) ≤ i by omega) with c | c | c | c | c | c
      · rw [if_neg (by omega), if_neg (by omega), if_neg (by omega), if_neg (by omega), if_pos c, if_pos (by omega)]
      · rw [if_neg (by omega), if_neg (by omega), if_neg (by omega), if_pos c, if_pos (by omega)]
        unfold sumB
        rw [show i / 4 = k by omega, show i % 4 = 0 by omega]; rfl
      · rw [if_neg (by omega), if_neg (by omega), if_pos c, if_pos (by omega)]
        unfold sumB
        rw [show i / 4 = k by omega, show i % 4 = 1 by omega]; rfl
      · rw [if_neg (by omega), if_pos c, if_pos (by omega)]
        unfold sumB
        rw [show i / 4 = k by omega, show i % 4 = 2 by omega]; rfl
      · rw [if_pos c, if_pos (by omega)]
        unfold sumB
        rw [show i / 4 = k by omega, show i % 4 = 3 by omega]; simp
      · rw [if_neg (by omega), if_neg (by omega), if_neg (by omega), if_neg (by omega), if_neg (by omega), if_neg (by omega)]
    rw [e2]
    exact cell_set (cell_set (cell_set (cell_set h.out (4 * k) _) (4 * k + 1) _) (4 * k + 2) _) (4 * k + 3) _
  · rw [heap_setCell_other _ _ _ _ (by simp only []; omega), heap_setCell_other _ _ _ _ (by simp only []; omega), heap_setCell_other _ _ _ _ (by simp only []; omega), heap_setCell_other _ _ _ _ (by simp only []; omega)]
    exact h.res

/-- a slice of the bytes ys -/
def Sl (ys : List Int) (w : World) (u : Value) : Prop := ∃ a k c, u = .slice a k c ∧ Hid (k = ys.length) ∧ Lies w w.heap.size a c ys
/-- a slice of two slices, the second one of the bytes ys -/
def Sl2 (T : Value) (ys : List Int) (w : World) (u : Value) : Prop := ∃ g a k c, u = .slice (some ⟨g, 0, none⟩) 2 2 ∧ w.cell? ⟨g, 0, none⟩ = some T ∧ w.cell? ⟨g, 1, none⟩ = some (.slice a k c) ∧ Hid (k = ys.length) ∧ Lies w w.heap.size a c ys
theorem Sl.later {ys : List Int} {w w' : World} {u : Value} (h : Sl ys w u) (b : Below w.heap.size w w') : Sl ys w' u := by
  obtain ⟨a, k, c, e, hk, hl⟩ := h
  exact ⟨a, k, c, e, hk, (hl.below b).more b.size⟩
theorem Sl2.later {T : Value} {ys : List Int} {w w' : World} {u : Value} (h : Sl2 T ys w u) (b : Below w.heap.size w w') : Sl2 T ys w' u := by
  obtain ⟨g, a, k, c, e, h0, h1, hk, hl⟩ := h
  have hg := block_lt_of_cell h0
  exact ⟨g, a, k, c, e, (b.cell (p := ⟨g, 0, none⟩) hg).trans h0, (b.cell (p := ⟨g, 1, none⟩) hg).trans h1, hk, (hl.below b).more b.size⟩
theorem sl_own {w : World} {base : Nat} {v : Value} {ys : List Int} (h : w.ownsRow base 5 1 v ys.length (bys ys)) : Sl ys w v := by
  obtain ⟨a, c, rfl⟩ := own_form h
  exact ⟨a, _, c, rfl, Lib.hid rfl, lies_own h⟩

/-- what holds while 'h = steps(h, slices.Concat(b[end:], padding(len(b))))' is carried out -/
def SumInv2 (u8 u9 u10 u11 u12 u13 B T1 T2 : Value) (e n g : Nat) (ds : List Int) (H H2 : S8) (w W : World) (L : Nat → Bool) (a : Act) (w' : World) : Prop :=
  ∃ u19 u20 u21 u22 u23 u24 u25 u26 u27 u28, a = { tmps := #[B, undef, .pointer (some ⟨w.heap.size, 0, none⟩), .int .i64 e, .pointer (some ⟨g, 0, none⟩), undef, undef, undef, u8, u9, u10, u11, u12, u13, .agg (arr 8 (vu32 s0.at)), B, .int .i64 e, T1, .agg (arr 8 (vu32 H.at)),
    u19, u20, u21, u22, u23, u24, u25, u26, u27, u28, undef, undef, undef, undef, undef, undef, undef, undef, undef, undef, undef, undef], defers := [] } ∧
    (L 0 = true → u19 = .agg (arr 8 (vu32 H.at))) ∧ (L 1 = true → u20 = B) ∧ (L 2 = true → u21 = .int .i64 e) ∧ (L 3 = true → u22 = T2) ∧ (L 4 = true → u23 = B) ∧ (L 5 = true → u24 = .int .i64 n) ∧
    (L 6 = true → Sl (padL n) w' u25) ∧ (L 7 = true → Sl2 T2 (padL n) w' u26) ∧ (L 8 = true → Sl (ds ++ padL n) w' u27) ∧ (L 9 = true → u28 = .agg (arr 8 (vu32 H2.at))) ∧ Below W.heap.size W w'

set_option maxHeartbeats 1000000 in
theorem sum_any (n : Nat) (ao : Option Addr) (cap : Nat) (xs : List Int) (w : World) (hn : n = xs.length) (hl : Lies w w.heap.size ao cap xs) (hx : Byte xs) (hlen : n ≤ 140737488351232)
    (hK : ∀ k, k < 64 → w.cell? ⟨0, k, none⟩ = some (.int .u32 (kT k))) (hz : 0 < w.heap.size) :
    Calls Tryd.prog 65 #[.slice ao n cap] w fun e w' => e = .returned (.agg (arr 32 (vu8 (sumB (sumS xs))))) ∧ Below w.heap.size w w' := by
  obtain ⟨F, hF0⟩ : ∃ F, F = sumS xs := ⟨_, rfl⟩
  rw [← hF0]
  have HF := Lib.hid hF0
  clear hF0
  obtain ⟨e, he⟩ : ∃ e, e = n - n % 64 := ⟨_, rfl⟩
  have hen : e ≤ n := by omega
  have hei : (n : Int) - (n : Int) % 64 = (e : Int) := by omega
  obtain ⟨hcut1, hl1⟩ := run_cut_hi hl hn hen
  obtain ⟨a2, hcut2, hl2⟩ := run_cut_lo hl hn hen
  have HX := Lib.hid hx
  have HK := Lib.hid hK
  have HN := Lib.hid hn
  have HE := Lib.hid he
  have HC1 := Lib.hid hcut1
  have HC2 := Lib.hid hcut2
  have HL1 := Lib.hid hl1
  have HL2 := Lib.hid hl2
  clear hx hK hl hn he hcut1 hcut2 hl1 hl2
  go_enter Tryd.func65, Tryd.ntmps65
  go_wp2_with fail
  simp only [zeros32]
  have hres : (w.alloc (.cells (arr 32 (vu8 fun _ => 0)) 63)).heap[w.heap.size]? = some (.cells (arr 32 (vu8 fun _ => 0)) 63 (0, 0)) := heap_alloc_new _ _
  have hb : Below w.heap.size w (w.alloc (.cells (arr 32 (vu8 fun _ => 0)) 63)) := (Below.refl _ _).alloc (Nat.le_refl _) _
  have hs : w.heap.size < (w.alloc (.cells (arr 32 (vu8 fun _ => 0)) 63)).heap.size := by simp
  generalize w.alloc (.cells (arr 32 (vu8 fun _ => 0)) 63) = W at hres hb hs ⊢
  have HRES := Lib.hid hres
  clear hres hei
  obtain ⟨H, hH⟩ : ∃ H, H = stL kT (xs.take e) s0 (e / 64) := ⟨_, rfl⟩
  have HH := Lib.hid hH
  clear hH
  refine QuietTail.regionInv (n := 6) (Inv := SumInv1 (.slice ao n cap) (.slice ao e cap) e H w W) (by kernel_rfl) (by decide) (by kernel_rfl) ⟨_, _, _, _, _, _, _, _, _, _, _, _, rfl, by simp, by simp, by simp, by simp, by simp, by simp, ⟨rfl, rfl, rfl, Nat.le_refl _, fun _ _ => rfl⟩⟩ ?step ?fin
  case step =>
    rintro i o hi ho L a w' ⟨u8, u9, u10, u11, u12, u13, u14, u15, u16, u17, u18, u4, rfl, i0, i1, i2, i3, i4, i5, iB⟩ hL hpre
    have hsz := iB.size
    match i, hi with
    | 0, _ =>
      simp at ho
      subst ho
      go_simp
      refine (roots8_any w').mono ?_
      rw [s0_arr]
      rintro _ w'' ⟨rfl, hb2⟩
      refine ⟨u8, u9, u10, u11, u12, u13, _, u15, u16, u17, u18, u4, rfl, fun _ => rfl, keepL i1 rfl, keepL i2 rfl, keepL i3 rfl, keepL i4 rfl, keepL (fun h => ?_) rfl, iB.trans (hb2.mono hsz)⟩
      obtain ⟨g, e1, g1, g2, g3⟩ := i5 h
      exact ⟨g, e1, g1, Nat.lt_of_lt_of_le g2 hb2.size, (hb2.block g g2).trans g3⟩
    | 1, _ =>
      simp at ho
      subst ho
      go_simp
      exact ⟨u8, u9, u10, u11, u12, u13, u14, _, u16, u17, u18, u4, rfl, keepL i0 rfl, fun _ => rfl, keepL i2 rfl, keepL i3 rfl, keepL i4 rfl, keepL i5 rfl, iB⟩
    | 2, _ =>
      simp at ho
      subst ho
      go_simp
      exact ⟨u8, u9, u10, u11, u12, u13, u14, u15, _, u17, u18, u4, rfl, keepL i0 rfl, keepL i1 rfl, fun _ => rfl, keepL i3 rfl, keepL i4 rfl, keepL i5 rfl, iB⟩
    | 3, _ =>
      simp at ho
      subst ho
      obtain rfl := i1 (hpre 1 (by kernel_rfl))
      obtain rfl := i2 (hpre 2 (by kernel_rfl))
      have hcut := HC1.out w'
      go_simp
      exact ⟨u8, u9, u10, u11, u12, u13, u14, _, _, _, u18, u4, rfl, keepL i0 rfl, fun _ => rfl, fun _ => rfl, fun _ => rfl, keepL i4 rfl, keepL i5 rfl, iB⟩
    | 4, _ =>
      simp at ho
      subst ho
      obtain rfl := i0 (hpre 0 (by kernel_rfl))
      obtain rfl := i3 (hpre 3 (by kernel_rfl))
      go_simp
      refine (steps_any s0 e (e / 64) ao cap (xs.take e) w' kT (by have := HN.out; rw [List.length_take]; omega) (by have := HE.out; omega) ((((HL1.out.below hb).more (Nat.le_of_lt hs)).below iB).more hsz) (byte_take HX.out e) (by omega)
        (fun k hk => by rw [iB.cell (show 0 < W.heap.size by omega), hb.cell (show 0 < w.heap.size from hz)]; exact HK.out k hk) (by omega)).mono ?_
      rw [← HH.out]
      rintro _ w'' ⟨rfl, hb2⟩
      refine ⟨u8, u9, u10, u11, u12, u13, _, u15, u16, _, _, u4, rfl, fun _ => rfl, keepL i1 rfl, keepL i2 rfl, fun _ => rfl, fun _ => rfl, keepL (fun h => ?_) rfl, iB.trans (hb2.mono hsz)⟩
      obtain ⟨g, e1, g1, g2, g3⟩ := i5 h
      exact ⟨g, e1, g1, Nat.lt_of_lt_of_le g2 hb2.size, (hb2.block g g2).trans g3⟩
    | 5, _ =>
      simp at ho
      subst ho
      go_simp
      exact ⟨u8, u9, u10, u11, u12, u13, u14, u15, u16, u17, u18, _, rfl, keepL i0 rfl, keepL i1 rfl, keepL i2 rfl, keepL i3 rfl, keepL i4 rfl,
        fun _ => ⟨w'.heap.size, rfl, hsz, by simp, by rw [zeros8]; exact heap_alloc_new _ _⟩, iB.alloc hsz _⟩
    | n + 6, h => omega
  case fin =>
    rintro L a w' hall ⟨u8, u9, u10, u11, u12, u13, u14, u15, u16, u17, u18, u4, rfl, i0, i1, i2, i3, i4, i5, iB⟩
    obtain rfl := i0 (hall 0 (by omega))
    obtain rfl := i1 (hall 1 (by omega))
    obtain rfl := i2 (hall 2 (by omega))
    obtain rfl := i3 (hall 3 (by omega))
    obtain rfl := i4 (hall 4 (by omega))
    obtain ⟨g, rfl, g1, g2, g3⟩ := i5 (hall 5 (by omega))
    clear i0 i1 i2 i3 i4 i5 hall
    simp only [List.drop_succ_cons, List.drop_zero]
    refine wpList_store_row rfl 132 (.tmp 4) (.tmp 18) rfl g (arr 8 (vu32 H.at)) rfl rfl 132 _ g3 info8 (by rw [arr_size, arr_size]) (arr_one _ _) ?_
    have hg : (w'.setRow g (arr 8 (vu32 H.at))).heap[g]? = some (.cells (arr 8 (vu32 H.at)) 132 (0, 0)) := setRow_heap w' _ _ _ _ _ g3
    have hbf := below_setRow iB (g := g) g1 (arr 8 (vu32 H.at))
    have hsz : (w'.setRow g (arr 8 (vu32 H.at))).heap.size = w'.heap.size := size_setRow _ _ _
    generalize w'.setRow g (arr 8 (vu32 H.at)) = W2 at hg hbf hsz ⊢
    have hbw : Below w.heap.size w W2 := hb.trans (hbf.mono (by omega))
    have hr2 : W2.heap[w.heap.size]? = some (.cells (arr 32 (vu8 fun _ => 0)) 63 (0, 0)) := (hbf.block _ hs).trans HRES.out
    have hgl : g < W2.heap.size := by omega
    have hgw : w.heap.size < g := by omega
    clear hsz hbf g3 iB g2 hb
    have HG := Lib.hid hg
    have HR2 := Lib.hid hr2
    have HBW := Lib.hid hbw
    clear hg hr2 hbw
    simp only [Act.put]
    go_wp2_with fail
    obtain ⟨H2, hH2⟩ : ∃ H2, H2 = stL kT (xs.drop e ++ padL n) H ((n - e + zr n + 9) / 64) := ⟨_, rfl⟩
    have HH2 := Lib.hid hH2
    clear hH2
    have hpl := padL_length n
    have hdl : (xs.drop e).length = n - e := by rw [List.length_drop, ← HN.out]
    have hzr : zr n < 64 := by unfold zr; omega
    have hdv : n - e + zr n + 9 = 64 * ((n - e + zr n + 9) / 64) := by have := HE.out; unfold zr; omega
    have HDV := Lib.hid hdv
    have HPL := Lib.hid hpl
    have HDL := Lib.hid hdl
    clear hdv hpl hdl
    refine QuietTail.regionInv (n := 10) (Inv := SumInv2 u8 u9 u10 u11 u12 u13 (.slice ao n cap) (.slice ao e cap) (.slice a2 (n - e) (cap - e)) e n g (xs.drop e) H H2 w W2) (by kernel_rfl) (by decide) (by kernel_rfl) ⟨_, _, _, _, _, _, _, _, _, _, rfl, by simp, by simp, by simp, by simp, by simp, by simp, by simp, by simp, by simp, by simp, ⟨rfl, rfl, rfl, Nat.le_refl _, fun _ _ => rfl⟩⟩ ?step2 ?fin2
    case step2 =>
      rintro i o hi ho L a w' ⟨u19, u20, u21, u22, u23, u24, u25, u26, u27, u28, rfl, i0, i1, i2, i3, i4, i5, i6, i7, i8, i9, iB⟩ hL hpre
      have hsz := iB.size
      match i, hi with
      | 0, _ =>
        simp at ho
        subst ho
        refine wp_load_row 132 (.tmp 4) rfl g rfl 132 (arr 8 (vu32 H.at)) (0, 0) (.array 8 131) ((iB.block _ hgl).trans HG.out) (by kernel_rfl) rfl info8 ?_
        exact ⟨_, u20, u21, u22, u23, u24, u25, u26, u27, u28, rfl, fun _ => rfl, keepL i1 rfl, keepL i2 rfl, keepL i3 rfl, keepL i4 rfl, keepL i5 rfl, keepL i6 rfl, keepL i7 rfl, keepL i8 rfl, keepL i9 rfl, iB⟩
      | 1, _ =>
        simp at ho
        subst ho
        go_simp
        exact ⟨u19, _, u21, u22, u23, u24, u25, u26, u27, u28, rfl, keepL i0 rfl, fun _ => rfl, keepL i2 rfl, keepL i3 rfl, keepL i4 rfl, keepL i5 rfl, keepL i6 rfl, keepL i7 rfl, keepL i8 rfl, keepL i9 rfl, iB⟩
      | 2, _ =>
        simp at ho
        subst ho
        go_simp
        exact ⟨u19, u20, _, u22, u23, u24, u25, u26, u27, u28, rfl, keepL i0 rfl, keepL i1 rfl, fun _ => rfl, keepL i3 rfl, keepL i4 rfl, keepL i5 rfl, keepL i6 rfl, keepL i7 rfl, keepL i8 rfl, keepL i9 rfl, iB⟩
      | 3, _ =>
        simp at ho
        subst ho
        obtain rfl := i1 (hpre 1 (by kernel_rfl))
        obtain rfl := i2 (hpre 2 (by kernel_rfl))
        have hcut := HC2.out w'
        go_simp
        exact ⟨u19, _, _, _, u23, u24, u25, u26, u27, u28, rfl, keepL i0 rfl, fun _ => rfl, fun _ => rfl, fun _ => rfl, keepL i4 rfl, keepL i5 rfl, keepL i6 rfl, keepL i7 rfl, keepL i8 rfl, keepL i9 rfl, iB⟩
      | 4, _ =>
        simp at ho
        subst ho
        go_simp
        exact ⟨u19, u20, u21, u22, _, u24, u25, u26, u27, u28, rfl, keepL i0 rfl, keepL i1 rfl, keepL i2 rfl, keepL i3 rfl, fun _ => rfl, keepL i5 rfl, keepL i6 rfl, keepL i7 rfl, keepL i8 rfl, keepL i9 rfl, iB⟩
      | 5, _ =>
        simp at ho
        subst ho
        obtain rfl := i4 (hpre 4 (by kernel_rfl))
        go_simp
        exact ⟨u19, u20, u21, u22, _, _, u25, u26, u27, u28, rfl, keepL i0 rfl, keepL i1 rfl, keepL i2 rfl, keepL i3 rfl, fun _ => rfl, fun _ => rfl, keepL i6 rfl, keepL i7 rfl, keepL i8 rfl, keepL i9 rfl, iB⟩
      | 6, _ =>
        simp at ho
        subst ho
        obtain rfl := i5 (hpre 5 (by kernel_rfl))
        go_simp
        refine (padding_any n w' (by omega)).mono ?_
        rintro _ w'' ⟨v, rfl, hown, hb2⟩
        exact ⟨u19, u20, u21, u22, u23, _, v, u26, u27, u28, rfl, keepL i0 rfl, keepL i1 rfl, keepL i2 rfl, keepL i3 rfl, keepL i4 rfl, fun _ => rfl, fun _ => sl_own hown, keepL (fun h => (i7 h).later hb2) rfl, keepL (fun h => (i8 h).later hb2) rfl, keepL i9 rfl, iB.trans (hb2.mono hsz)⟩
      | 7, _ =>
        simp at ho
        subst ho
        obtain rfl := i3 (hpre 3 (by kernel_rfl))
        obtain ⟨a1, k1, c1, rfl, hk1, hl1⟩ := i6 (hpre 6 (by kernel_rfl))
        go_simp
        have hbA : Below w'.heap.size w' (w'.alloc (.cells #[.slice a2 (n - e) (cap - e), .slice a1 k1 c1] 61)) := (Below.refl _ _).alloc (Nat.le_refl _) _
        have hl3 : Lies (w'.alloc (.cells #[.slice a2 (n - e) (cap - e), .slice a1 k1 c1] 61)) (w'.alloc (.cells #[.slice a2 (n - e) (cap - e), .slice a1 k1 c1] 61)).heap.size a1 c1 (padL n) := (hl1.below hbA).more hbA.size
        exact ⟨u19, u20, u21, _, u23, u24, _, _, u27, u28, rfl, keepL i0 rfl, keepL i1 rfl, keepL i2 rfl, fun _ => rfl, keepL i4 rfl, keepL i5 rfl, fun _ => ⟨a1, k1, c1, rfl, hk1, hl3⟩,
          fun _ => ⟨w'.heap.size, a1, k1, c1, rfl, by rw [World.cell?_alloc_new]; rfl, by rw [World.cell?_alloc_new]; rfl, hk1, hl3⟩, keepL (fun h => (i8 h).later hbA) rfl, keepL i9 rfl, iB.trans (hbA.mono hsz)⟩
      | 8, _ =>
        simp at ho
        subst ho
        obtain ⟨g2, a1, k1, c1, rfl, d0, d1, hk1, hl1⟩ := i7 (hpre 7 (by kernel_rfl))
        go_simp
        refine (concat_any g2 (n - e) k1 a2 a1 (cap - e) c1 (xs.drop e) (padL n) w' HDL.out.symm hk1.out d0 d1 ((HL2.out.below HBW.out).below (iB.mono (by have := HBW.out.size; omega)) |>.more (by have := HBW.out.size; omega)) hl1 (by have := HPL.out; have := hk1.out; omega) (by have := HPL.out; have := hk1.out; omega)).mono ?_
        rintro _ w'' ⟨v, rfl, hown, hb2⟩
        exact ⟨u19, u20, u21, u22, u23, u24, u25, _, v, u28, rfl, keepL i0 rfl, keepL i1 rfl, keepL i2 rfl, keepL i3 rfl, keepL i4 rfl, keepL i5 rfl, keepL (fun h => (i6 h).later hb2) rfl, keepL (fun h => (i7 h).later hb2) rfl, fun _ => sl_own hown, keepL i9 rfl, iB.trans (hb2.mono hsz)⟩
      | 9, _ =>
        simp at ho
        subst ho
        obtain rfl := i0 (hpre 0 (by kernel_rfl))
        obtain ⟨a1, k1, c1, rfl, hk1, hl1⟩ := i8 (hpre 8 (by kernel_rfl))
        go_simp
        refine (steps_any H k1 ((n - e + zr n + 9) / 64) a1 c1 (xs.drop e ++ padL n) w' kT hk1.out (by have h1 := HDV.out; have h2 := HDL.out; have h3 := HPL.out; have h4 := hk1.out; rw [List.length_append] at h4; omega) hl1 (byte_append (byte_drop HX.out e) (byte_padK _ _)) (by have h2 := HDL.out; have h3 := HPL.out; have h4 := hk1.out; rw [List.length_append] at h4; omega)
          (fun k hk => by rw [iB.cell (show 0 < W2.heap.size by omega), HBW.out.cell (show 0 < w.heap.size from hz)]; exact HK.out k hk) (by omega)).mono ?_
        rw [← HH2.out]
        rintro _ w'' ⟨rfl, hb2⟩
        exact ⟨_, u20, u21, u22, u23, u24, u25, u26, _, _, rfl, fun _ => rfl, keepL i1 rfl, keepL i2 rfl, keepL i3 rfl, keepL i4 rfl, keepL i5 rfl, keepL (fun h => (i6 h).later hb2) rfl, keepL (fun h => (i7 h).later hb2) rfl, keepL (fun h => (i8 h).later hb2) rfl, fun _ => rfl, iB.trans (hb2.mono hsz)⟩
      | n + 10, h => omega
    case fin2 =>
      rintro L a w' hall ⟨u19, u20, u21, u22, u23, u24, u25, u26, u27, u28, rfl, i0, i1, i2, i3, i4, i5, i6, i7, i8, i9, iB⟩
      obtain rfl := i9 (hall 9 (by omega))
      clear i0 i1 i2 i3 i4 i5 i6 i7 i8 i9 hall
      simp only [List.drop_succ_cons, List.drop_zero]
      have hg3 := (iB.block _ hgl).trans HG.out
      refine wpList_store_row rfl 132 (.tmp 4) (.tmp 28) rfl g (arr 8 (vu32 H2.at)) rfl rfl 132 _ hg3 info8 (by rw [arr_size, arr_size]) (arr_one _ _) ?_
      have hbw := HBW.out
      have hws := hbw.size
      have hsz := iB.size
      have hg : (w'.setRow g (arr 8 (vu32 H2.at))).heap[g]? = some (.cells (arr 8 (vu32 H2.at)) 132 (0, 0)) := setRow_heap w' _ _ _ _ _ hg3
      have hr : (w'.setRow g (arr 8 (vu32 H2.at))).heap[w.heap.size]? = some (.cells (arr 32 (vu8 fun _ => 0)) 63 (0, 0)) := by
        rw [setRow_other _ _ _ _ (by omega)]; exact (iB.block _ (by omega)).trans HR2.out
      have hb3 : Below w.heap.size w (w'.setRow g (arr 8 (vu32 H2.at))) := below_setRow (hbw.trans (iB.mono hws)) (by omega) _
      have hs3 : (w'.setRow g (arr 8 (vu32 H2.at))).heap.size = w'.heap.size := size_setRow _ _ _
      have hgl3 : g < (w'.setRow g (arr 8 (vu32 H2.at))).heap.size := by omega
      generalize w'.setRow g (arr 8 (vu32 H2.at)) = W3 at hg hr hb3 hgl3 ⊢
      have hL : ∀ Z : Array Value, (W3.alloc (.cells Z 63)).heap[g]? = some (.cells (arr 8 (vu32 H2.at)) 132 (0, 0)) := fun Z => by rw [heap_alloc_old _ _ hgl3]; exact hg
      have HLL := Lib.hid hL
      have H0 : Hid (FinW H2 W3.heap.size w 0 (W3.alloc (.cells (arr 32 (vu8 fun _ => 0)) 63))) := FinW.start hr hb3 (by omega)
      clear hL hg hr hb3 hs3 hg3 iB hbw hws hsz HG HR2 HBW
      simp only [Act.put]
      repeat (first
        | (refine wpList_load_row rfl 132 (.tmp 4) rfl g rfl 132 (arr 8 (vu32 H2.at)) (0, 0) (.array 8 131) (HLL.out _) (by kernel_rfl) rfl info8 ?_; simp only [Act.put, List.setIfInBounds_toArray, List.set_cons_succ, List.set_cons_zero])
        | go_step)
      rw [zeros32]
      generalize W3.alloc (.cells (arr 32 (vu8 fun _ => 0)) 63) = W4 at H0 ⊢
      generalize W3.heap.size = gs at H0 ⊢
      go_loopw [30] (fun i wr => ∃ k : Nat, k ≤ 8 ∧ i = .int .i64 k ∧ FinW H2 gs w k wr) (fun i _ => 8 - (intOf i).toNat)
      case atStart => exact ⟨0, by omega, rfl, H0.out⟩
      case round =>
        clear H0 HLL
        obtain ⟨k, hk, rfl, hA⟩ := hrel
        by_cases hlt : k < 8
        · have hix := run_index8 H2.at k hlt
          have hsl := slice_block32 gs k hlt
          go_wp2_with fail
          refine (put_any gs (4 * k) (32 - 4 * k) (32 - 4 * k) (H2.at k) wr (by omega) (by omega) (hA.there (by omega)) (hA.there (by omega)) (hA.there (by omega)) (hA.there (by omega)) (hA.free _) (hA.free _) (hA.free _) (hA.free _)).mono ?_
          rintro _ w5 ⟨rfl, hw5⟩
          have hN := hA.next hlt
          rw [← hw5] at hN
          clear hw5 hA hix hsl
          dsimp only
          go_wp2_with fail
          go_roundw
          case rel => exact ⟨k + 1, by omega, by go_num, hN⟩
          case measure => simp [intOf]; omega
        · obtain rfl : k = 8 := by omega
          have hg := hA.out
          have h2 := hA.res
          have hb := hA.below
          have e8 : arr 32 (vu8 (outF H2 8)) = arr 32 (vu8 (sumB F)) := by
            have hF := HF.out
            rw [sumS_split HN.out HE.out, ← HH.out, ← HH2.out] at hF
            rw [hF]
            refine arr_congr fun i hi => ?_
            simp only [vu8, outF]
            rw [if_pos (by omega)]
          rw [e8] at hg
          have hres : (wr.setRow w.heap.size (arr 32 (vu8 (sumB F)))).heap[w.heap.size]? = some (.cells (arr 32 (vu8 (sumB F))) 63 (0, 0)) := setRow_heap wr _ _ _ _ _ h2
          have hb2 := below_setRow hb (g := w.heap.size) (Nat.le_refl _) (arr 32 (vu8 (sumB F)))
          clear hA hk hlt
          repeat (first
            | (refine wpList_load_row rfl 63 (.tmp 5) rfl gs rfl 63 (arr 32 (vu8 (sumB F))) (0, 0) (.array 32 5) hg (by kernel_rfl) rfl info32 ?_; simp only [Act.put, List.setIfInBounds_toArray, List.set_cons_succ, List.set_cons_zero])
            | (refine wpList_store_row rfl 63 (.tmp 2) (.tmp 40) rfl w.heap.size (arr 32 (vu8 (sumB F))) rfl rfl 63 _ h2 info32 (by rw [arr_size, arr_size]) (arr_one8 _ _) ?_; simp only [Act.put])
            | go_step)
          refine bodyPost_ret (results_cell_row rfl _ _ w.heap.size 63 (arr 32 (vu8 (sumB F))) (0, 0) (.array 32 5) rfl hres (by kernel_rfl) rfl info32) rfl ⟨rfl, hb2⟩

end Sha
end Go.Proofs.YtllejfnmbpjhaaaDoor
