/- padding, Concat, Pad and the reference's Pad. -/
import Derived.Test.YtllejfnmbpjhaaaDoorJSha
import Derived.Test.YtllejfnmbpjhaaaDoorBytes
namespace Go.Proofs.YtllejfnmbpjhaaaDoor
set_option maxRecDepth 20000
namespace Sha
open Go.RowKit

def zr (n : Nat) : Nat := (119 - n % 64) % 64
/-- byte i of what stands behind n bytes when they are padded -/
def pf (n z i : Nat) : Int := if i = 0 then 128 else if i < 1 + z then 0 else 8 * (n : Int) / 2 ^ (56 - 8 * (i - (1 + z))) % 256
def padK (n k : Nat) : List Int := (List.range k).map (pf n (zr n))
def padL (n : Nat) : List Int := padK n (zr n + 9)
theorem padK_next (n k : Nat) : padK n (k + 1) = padK n k ++ [pf n (zr n) k] := by simp [padK, List.range_succ]
theorem padK_length (n k : Nat) : (padK n k).length = k := by simp [padK]
theorem arr_bys (k : Nat) (f : Nat → Int) : (arr k (vu8 f)).toList = bys ((List.range k).map f) := by
  apply List.ext_getElem?
  intro i
  by_cases h : i < k
  · have e := arr_get (vu8 f) h
    simp [bys, h, vu8] at e ⊢
    exact e
  · simp [bys, h, arr]

theorem run_make_bytes (m : Nat) (hm : m ≤ 140737488355328) (W : World) : (Instr.makeSlice 61 (.int .i64 (m : Int)) (.int .i64 (m : Int))).run Tryd.prog W = .ok (.slice (some ⟨W.heap.size, 0, none⟩) m m) (W.alloc (.cells (arr m (vu8 fun _ => 0)) 5)) := by
  obtain ⟨i0, hi, hz0, hz1, hz2⟩ := info_parts bytes_info
  have h := run_make (P := Tryd.prog) W 61 5 i0 (.int .u8 0) bytes_slice hi hz0 .i64 .i64 m m (by omega) (by omega) (by rw [hz2]; omega) (by omega)
  rw [Int.toNat_natCast, hz1, Nat.mul_one, show madeCells (Value.int .u8 0).cells m = arr m (vu8 fun _ => 0) from Array.toList_inj.1 (by
    rw [show (Value.int .u8 0).cells = #[.int .u8 0] from rfl, toList_madeCells_one, arr_bys]
    apply List.ext_getElem?
    intro i
    by_cases hi : i < m
    · simp [bys, hi]
    · simp [bys, hi])] at h
  exact h

theorem pf_at (n z i j : Nat) (h : i = 1 + z + j) : pf n z i = 8 * (n : Int) / 2 ^ (56 - 8 * j) % 256 := by
  subst h
  unfold pf
  rw [if_neg (by omega), if_neg (by omega), show 1 + z + j - (1 + z) = j by omega]
theorem padf_end (n z : Nat) : (arr (1 + z + 8) fun i =>
    if i = 1 + z + 4 + 3 then Value.int .u8 (8 * (n : Int) % 4294967296 % 256)
    else if i = 1 + z + 4 + 2 then Value.int .u8 (8 * (n : Int) % 4294967296 / 256 % 256)
    else if i = 1 + z + 4 + 1 then Value.int .u8 (8 * (n : Int) % 4294967296 / 65536 % 256)
    else if i = 1 + z + 4 then Value.int .u8 (8 * (n : Int) % 4294967296 / 16777216 % 256)
    else if i = 1 + z + 3 then Value.int .u8 (8 * (n : Int) / 4294967296 % 256)
    else if i = 1 + z + 2 then Value.int .u8 (8 * (n : Int) / 4294967296 / 256 % 256)
    else if i = 1 + z + 1 then Value.int .u8 (8 * (n : Int) / 4294967296 / 65536 % 256)
    else if i = 1 + z then Value.int .u8 (8 * (n : Int) / 4294967296 / 16777216 % 256)
    else if i = 0 then Value.int .u8 128 else vu8 (fun _ => 0) i) = arr (1 + z + 8) (vu8 (pf n z)) := by
  refine arr_congr fun i hi => ?_
  simp only [vu8]
  rcases (show i = 0 ∨ (1 ≤ i ∧ i < 1 + z) ∨ i = 1 + z + 0 ∨ i = 1 + z + 1 ∨ i = 1 + z + 2 ∨ i = 1 + z + 3 ∨ i = 1 + z + 4 ∨ i = 1 + z + 5 ∨ i = 1 + z + 6 ∨ i = 1 + z + 7 by omega) with h | h | h | h | h | h | h | h | h | h
  · rw [if_neg (by omega), if_neg (by omega), if_neg (by omega), if_neg (by omega), if_neg (by omega), if_neg (by omega), if_neg (by omega), if_neg (by omega), if_pos h]
    unfold pf
    rw [if_pos h]
  · rw [if_neg (by omega), if_neg (by omega), if_neg (by omega), if_neg (by omega), if_neg (by omega), if_neg (by omega), if_neg (by omega), if_neg (by omega), if_neg (by omega)]
    unfold pf
    rw [if_neg (by omega), if_pos h.2]
  · rw [pf_at n z i 0 h, if_neg (by omega), if_neg (by omega), if_neg (by omega), if_neg (by omega), if_neg (by omega), if_neg (by omega), if_neg (by omega), if_pos (by omega)]
    refine congrArg (Value.int .u8) ?_
    rw [show (2 : Int) ^ (56 - 8 * 0) = 72057594037927936 from by decide]
    try omega
  · rw [pf_at n z i 1 h, if_neg (by omega), if_neg (by omega), if_neg (by omega), if_neg (by omega), if_neg (by omega), if_neg (by omega), if_pos (by omega)]
    refine congrArg (Value.int .u8) ?_
    rw [show (2 : Int) ^ (56 - 8 * 1) = 281474976710656 from by decide]
    try omega
  · rw [pf_at n z i 2 h, if_neg (by omega), if_neg (by omega), if_neg (by omega), if_neg (by omega), if_neg (by omega), if_pos (by omega)]
    refine congrArg (Value.int .u8) ?_
    rw [show (2 : Int) ^ (56 - 8 * 2) = 1099511627776 from by decide]
    try omega
  · rw [pf_at n z i 3 h, if_neg (by omega), if_neg (by omega), if_neg (by omega), if_neg (by omega), if_pos (by omega)]
    refine congrArg (Value.int .u8) ?_
    rw [show (2 : Int) ^ (56 - 8 * 3) = 4294967296 from by decide]
    try omega
  · rw [pf_at n z i 4 h, if_neg (by omega), if_neg (by omega), if_neg (by omega), if_pos (by omega)]
    refine congrArg (Value.int .u8) ?_
    rw [show (2 : Int) ^ (56 - 8 * 4) = 16777216 from by decide]
    try omega
  · rw [pf_at n z i 5 h, if_neg (by omega), if_neg (by omega), if_pos (by omega)]
    refine congrArg (Value.int .u8) ?_
    rw [show (2 : Int) ^ (56 - 8 * 5) = 65536 from by decide]
    try omega
  · rw [pf_at n z i 6 h, if_neg (by omega), if_pos (by omega)]
    refine congrArg (Value.int .u8) ?_
    rw [show (2 : Int) ^ (56 - 8 * 6) = 256 from by decide]
    try omega
  · rw [pf_at n z i 7 h, if_pos (by omega)]
    refine congrArg (Value.int .u8) ?_
    rw [show (2 : Int) ^ (56 - 8 * 7) = 1 from by decide]
    try omega
theorem arr_there (w : World) {m : Nat} (f : Nat → Value) {t : TypeId} {j : Nat} (h : j < m) : ∃ v, (w.alloc (.cells (arr m f) t)).cell? ⟨w.heap.size, j, none⟩ = some v := ⟨_, by rw [World.cell?_alloc_new, arr_get _ h]⟩
theorem arr_free (w : World) (A : Array Value) (t : TypeId) {j : Nat} : (w.alloc (.cells A t)).frozen? ⟨w.heap.size, j, none⟩ = false := frozen_of_row _ _ _ _ _ (heap_alloc_new _ _)

set_option maxHeartbeats 400000 in
theorem padding_any (n : Nat) (w : World) (hb : n ≤ 140737488355328) :
    Calls Tryd.prog 110 #[.int .i64 n] w fun e w' => ∃ v, e = .returned v ∧ w'.ownsRow w.heap.size 5 1 v (padL n).length (bys (padL n)) ∧ Below w.heap.size w w' := by
  obtain ⟨z, hz⟩ : ∃ z, z = zr n := ⟨_, rfl⟩
  have hz64 : z < 64 := by rw [hz]; unfold zr; omega
  have he : (119 - (n : Int) % 64) % 64 = (z : Int) := by rw [hz]; unfold zr; omega
  unfold padL
  rw [← hz]
  have HZ := Lib.hid hz
  clear hz
  have hmk := run_make_bytes (1 + z + 8) (by omega)
  rw [show ((1 + z + 8 : Nat) : Int) = 1 + (z : Int) + 8 by omega] at hmk
  have h00 : (arr (1 + z + 8) (vu8 fun _ => 0))[0]? = some (.int .u8 0) := arr_get _ (by omega)
  go_enter Tryd.func110, Tryd.ntmps110
  go_wp2_with fail
  simp only [he, arr_set]
  clear h00 hmk he
  refine (put_any w.heap.size (1 + z) 8 8 _ _ (by omega) (by omega) (arr_there w _ (by omega)) (arr_there w _ (by omega)) (arr_there w _ (by omega)) (arr_there w _ (by omega)) (arr_free w _ _) (arr_free w _ _) (arr_free w _ _) (arr_free w _ _)).mono ?_
  rintro _ _ ⟨rfl, rfl⟩
  dsimp only
  simp only [World.setCell_alloc_new, arr_set]
  generalize hf1 : (fun i => if i = 1 + z + 3 then Value.int .u8 _ else _) = f1
  go_wp2_with fail
  refine (put_any w.heap.size (1 + z + 4) 4 4 _ _ (by omega) (by omega) (arr_there w _ (by omega)) (arr_there w _ (by omega)) (arr_there w _ (by omega)) (arr_there w _ (by omega)) (arr_free w _ _) (arr_free w _ _) (arr_free w _ _) (arr_free w _ _)).mono ?_
  rintro _ _ ⟨rfl, rfl⟩
  dsimp only
  simp only [World.setCell_alloc_new, arr_set]
  rw [← hf1]
  clear hf1
  generalize hF : arr (1 + z + 8) _ = A
  have HA := Lib.hid hF
  clear hF
  go_wp2_with fail
  go_ret
  have hA := HA.out.symm.trans (padf_end n z)
  refine ⟨_, rfl, ⟨by rw [bys_length, Nat.mul_one], .inr ⟨w.heap.size, 1 + z + 8, A, by rw [padK_length, show z + 9 = 1 + z + 8 by omega]; rfl, Nat.le_refl _, heap_alloc_new _ _, by rw [padK_length]; omega, by unfold maxLen; omega, by rw [hA, arr_size, Nat.mul_one], ?_⟩⟩, (Below.refl _ _).alloc (Nat.le_refl _) _⟩
  rw [hA, arr_bys, padK_length, show 1 + z + 8 = z + 9 by omega, List.take_of_length_le (by simp [bys])]
  unfold padK
  rw [← HZ.out]

theorem own_form {w : World} {base : Nat} {v : Value} {xs : List Int} (h : w.ownsRow base 5 1 v xs.length (bys xs)) : ∃ ao cap, v = .slice ao xs.length cap := by
  rcases h.2 with ⟨rfl, hn⟩ | ⟨g, cap, cur, rfl, _⟩
  · exact ⟨none, 0, by rw [hn]⟩
  · exact ⟨_, _, rfl⟩
theorem own_base {w : World} {base base' : Nat} {e : TypeId} {v : Value} {n : Nat} {xs : List Value} (h : w.ownsRow base e 1 v n xs) (hb : base' ≤ base) : w.ownsRow base' e 1 v n xs := by
  refine ⟨h.1, ?_⟩
  rcases h.2 with h2 | ⟨g, cap, cur, h3, h4, h5⟩
  · exact .inl h2
  · exact .inr ⟨g, cap, cur, h3, by omega, h5⟩
theorem Lies.alloc {w : World} {B : Nat} {ao : Option Addr} {cap : Nat} {xs : List Int} (h : Lies w B ao cap xs) (hB : B ≤ w.heap.size) (o : Obj) : Lies (w.alloc o) B ao cap xs := h.keep fun p hp => World.cell?_alloc_lt w o p (by omega)
theorem padL_length (n : Nat) : (padL n).length = zr n + 9 := padK_length _ _
theorem grow_at (k : Int) (n : Nat) (w : World) (hk : k = (n : Int)) (h0 : 0 < n) (hb : n ≤ 140737488355328) :
    Calls Tryd.prog 124 #[.slice none 0 0, .int .i64 k] w fun e w' => ∃ v, e = .returned v ∧ w'.ownsRow w.heap.size 5 1 v 0 [] ∧ Below w.heap.size w w' := by
  subst hk
  exact grow_any n w h0 hb

set_option maxHeartbeats 1000000 in
theorem concat_any (g n1 n2 : Nat) (A1 A2 : Option Addr) (c1 c2 : Nat) (xs ys : List Int) (w : World) (e1 : n1 = xs.length) (e2 : n2 = ys.length) (hc0 : w.cell? ⟨g, 0, none⟩ = some (.slice A1 n1 c1)) (hc1 : w.cell? ⟨g, 1, none⟩ = some (.slice A2 n2 c2))
    (hl1 : Lies w w.heap.size A1 c1 xs) (hl2 : Lies w w.heap.size A2 c2 ys) (h0 : 0 < n1 + n2) (hlen : n1 + n2 ≤ 140737488355328) :
    Calls Tryd.prog 109 #[.slice (some ⟨g, 0, none⟩) 2 2] w fun e w' => ∃ v, e = .returned v ∧ w'.ownsRow w.heap.size 5 1 v (xs ++ ys).length (bys (xs ++ ys)) ∧ Below w.heap.size w w' := by
  have hg : g < w.heap.size := block_lt_of_cell hc0
  have HL1 := Lib.hid hl1
  have HL2 := Lib.hid hl2
  have E1 := Lib.hid e1
  have E2 := Lib.hid e2
  clear hl1 hl2 e1 e2
  go_enter Tryd.func109, Tryd.ntmps109
  go_wp2_with fail
  refine wp_loop_rounds 3 ?_
  rw [rounds_succ]
  go_wp2_with fail
  rw [rounds_succ]
  go_wp2_with fail
  rw [rounds_succ]
  go_wp2_with fail
  refine (grow_at _ (n1 + n2) w (by omega) h0 hlen).mono ?_
  rintro _ w1 ⟨v0, rfl, hown0, hb1⟩
  dsimp only
  have d0 := (hb1.cell (p := ⟨g, 0, none⟩) hg).trans hc0
  have d1 := (hb1.cell (p := ⟨g, 1, none⟩) hg).trans hc1
  clear hc0 hc1
  go_wp2_with fail
  refine wp_loop_rounds 3 ?_
  rw [rounds_succ]
  have hs1 := hb1.size
  go_wp2_with (at_builtin; refine append_lies rfl (.tmp 31) (.tmp 32) rfl w.heap.size v0 [] rfl hown0 w.heap.size A1 c1 xs n1 E1.out rfl (HL1.out.below hb1) (by have := E1.out; simp only [List.length_nil]; omega) (by omega) ?_; intro v1 w2 hown1 hg1)
  have hb2 : Below w.heap.size w w2 := hb1.grown hg1 hs1 (fun k hk => (hown0.lt k hk).1)
  have hs2 := hb2.size
  have f1 : w2.cell? ⟨g, 1, none⟩ = some (.slice A2 n2 c2) := by
    have h1 := hb2.cell (p := ⟨g, 1, none⟩) hg
    have h2 := hb1.cell (p := ⟨g, 1, none⟩) hg
    rw [h1, ← h2]; exact d1
  rw [List.nil_append] at hown1
  clear d0 d1 hg1 hown0
  rw [rounds_succ]
  go_wp2_with (at_builtin; refine append_lies rfl (.tmp 31) (.tmp 32) rfl w.heap.size v1 xs rfl hown1 w.heap.size A2 c2 ys n2 E2.out rfl (HL2.out.below hb2) (by have h1 := E1.out; have h2 := E2.out; omega) (by omega) ?_; intro v2 w3 hown2 hg2)
  have hb3 : Below w.heap.size w w3 := hb2.grown hg2 hs2 (fun k hk => (hown1.lt k hk).1)
  clear f1 hg2 hown1
  rw [rounds_succ]
  go_wp2_with fail
  go_ret
  exact ⟨v2, rfl, hown2, hb3⟩

end Sha
end Go.Proofs.YtllejfnmbpjhaaaDoor
