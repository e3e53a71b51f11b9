/- Plain mathematics of SHA-256 steps, on whole numbers, in the walk's own words. -/
import Derived.WalkKit
import Derived.WalkSmall
import Derived.Deep.Draws
namespace Go.Proofs.YtkmphpkobjhleaaDoor
namespace Sha
open Go.RowKit

/-- the or of two numbers does not mind their order -/
theorem bits_or_comm (k : IntKind) (a b : Int) : bits .or k a b = bits .or k b a := by
  unfold bits; simp only [BitVec.or_comm]

/-- x rotated to the right by n -/
def rotR (x n : Int) : Int := bits .or .u32 (x / 2 ^ n.toNat) (x * 2 ^ (32 - n).toNat % 4294967296)
/-- x shifted to the right by n -/
def shR (x n : Int) : Int := x / 2 ^ n.toNat
def xo (a b : Int) : Int := bits .xor .u32 a b
def an (a b : Int) : Int := bits .and .u32 a b
def no (a : Int) : Int := bits .xor .u32 (if IntKind.u32.signed = true then -1 else IntKind.u32.max) a
def mixI (x i j k : Int) : Int := xo (xo (rotR x i) (rotR x j)) (rotR x k)
def mixS (x i j k : Int) : Int := xo (xo (rotR x i) (rotR x j)) (shR x k)

theorem masked : ∀ c : Fin 32, 1 ≤ c.val → bits .and .u64 (IntKind.u64.wrap (-(c.val : Int))) 31 = 32 - (c.val : Int) := by decide +kernel
theorem masked' (c : Int) (h0 : 1 ≤ c) (h1 : c ≤ 31) : bits .and .u64 (IntKind.u64.wrap (-c)) 31 = 32 - c := by
  have := masked ⟨c.toNat, by omega⟩ (by simp only []; omega)
  simp only [] at this
  rwa [show ((c.toNat : Nat) : Int) = c from by omega] at this

theorem rot_eq (x c : Int) : bits .or .u32 (x * 2 ^ (32 - c).toNat % 4294967296) (x / 2 ^ (32 - (32 - c)).toNat) = rotR x c := by
  unfold rotR; rw [bits_or_comm, show (32 - (32 - c)) = c from by omega]

/-- the eight numbers of a step -/
structure S8 where
  a : Int
  b : Int
  c : Int
  d : Int
  e : Int
  f : Int
  g : Int
  h : Int

def s0 : S8 := ⟨1779033703, 3144134277, 1013904242, 2773480762, 1359893119, 2600822924, 528734635, 1541459225⟩
def S8.vals (s : S8) : Array Value := #[.int .u32 s.a, .int .u32 s.b, .int .u32 s.c, .int .u32 s.d, .int .u32 s.e, .int .u32 s.f, .int .u32 s.g, .int .u32 s.h]

def p1 (s : S8) (k w : Int) : Int := (s.h + mixI s.e 6 11 25 + xo (an s.e s.f) (an (no s.e) s.g) + k + w) % 4294967296
def p2 (s : S8) : Int := (mixI s.a 2 13 22 + xo (xo (an s.a s.b) (an s.a s.c)) (an s.b s.c)) % 4294967296
def rnd (s : S8) (k w : Int) : S8 := ⟨(p1 s k w + p2 s) % 4294967296, s.a, s.b, s.c, (s.d + p1 s k w) % 4294967296, s.e, s.f, s.g⟩
def stp (s : S8) (K W : Nat → Int) : Nat → S8
  | 0 => s
  | n + 1 => rnd (stp s K W n) (K n) (W n)

/-- four bytes as a number, the greatest first -/
def word (x0 x1 x2 x3 : Int) : Int := ((x0 * 256 + x1) * 256 + x2) * 256 + x3

theorem or_nat (a b i : Nat) (hb : b < 2 ^ i) : (a * 2 ^ i) ||| b = a * 2 ^ i + b := by
  rw [Nat.mul_comm]; exact (Nat.two_pow_add_eq_or_of_lt hb a).symm
theorem or_step (a b : Int) (i : Nat) (ha : 0 ≤ a) (hb : 0 ≤ b) (h : a * 2 ^ i < 4294967296) (hi : b < 2 ^ i) (h32 : b < 4294967296) : bits .or .u32 (a * 2 ^ i) b = a * 2 ^ i + b := by
  obtain ⟨A, rfl⟩ := Int.eq_ofNat_of_zero_le ha
  obtain ⟨B, rfl⟩ := Int.eq_ofNat_of_zero_le hb
  have h1 : ((A : Int) * 2 ^ i) = ((A * 2 ^ i : Nat) : Int) := by simp
  have h2 : B < 2 ^ i := by
    have h3 : ((B : Int)) < ((2 ^ i : Nat) : Int) := by simpa using hi
    omega
  rw [h1] at h ⊢
  rw [u32_or_nat _ _ (by omega) (by omega), or_nat _ _ _ h2]
  exact Int.natCast_add _ _
theorem or_zero (b : Int) (hb : 0 ≤ b) (h : b < 4294967296) : bits .or .u32 0 b = b := by
  obtain ⟨B, rfl⟩ := Int.eq_ofNat_of_zero_le hb
  have := u32_or_nat 0 B (by omega) (by omega)
  simpa using this
theorem take_word (x0 x1 x2 x3 : Int) (hx : (0 ≤ x0 ∧ x0 < 256) ∧ (0 ≤ x1 ∧ x1 < 256) ∧ (0 ≤ x2 ∧ x2 < 256) ∧ (0 ≤ x3 ∧ x3 < 256)) :
    bits .or .u32 (bits .or .u32 (bits .or .u32 (bits .or .u32 0 (x0 % 4294967296) * 256 % 4294967296) (x1 % 4294967296) * 256 % 4294967296) (x2 % 4294967296) * 256 % 4294967296) (x3 % 4294967296) = word x0 x1 x2 x3 := by
  obtain ⟨⟨a0, b0⟩, ⟨a1, b1⟩, ⟨a2, b2⟩, ⟨a3, b3⟩⟩ := hx
  rw [Int.emod_eq_of_lt (a := x0) a0 (by omega), Int.emod_eq_of_lt (a := x1) a1 (by omega), Int.emod_eq_of_lt (a := x2) a2 (by omega), Int.emod_eq_of_lt (a := x3) a3 (by omega)]
  rw [or_zero x0 a0 (by omega), Int.emod_eq_of_lt (a := x0 * 256) (by omega) (by omega)]
  have e1 := or_step x0 x1 8 a0 a1 (by omega) (by omega) (by omega)
  have e2 := or_step (x0 * 256 + x1) x2 8 (by omega) a2 (by omega) (by omega) (by omega)
  have e3 := or_step ((x0 * 256 + x1) * 256 + x2) x3 8 (by omega) a3 (by omega) (by omega) (by omega)
  simp only [Int.reducePow] at e1 e2 e3
  rw [e1, Int.emod_eq_of_lt (a := (x0 * 256 + x1) * 256) (by omega) (by omega), e2, Int.emod_eq_of_lt (a := ((x0 * 256 + x1) * 256 + x2) * 256) (by omega) (by omega), e3]
  rfl

/-- only draws lie between two worlds -/
def Dr (w w' : World) : Prop := ∃ n, w' = w.drewN n
theorem Dr.refl (w : World) : Dr w w := ⟨0, rfl⟩
theorem Dr.more {a b : World} (h : Dr a b) (n : Nat) : Dr a (b.drewN n) := by
  obtain ⟨m, rfl⟩ := h
  exact ⟨m + n, World.drewN_drewN _ _ _⟩
theorem Dr.cell {a b : World} (h : Dr a b) (p : Addr) : b.cell? p = a.cell? p := by
  obtain ⟨m, rfl⟩ := h; rfl
theorem Dr.below {B : Nat} {a b c : World} (h : Dr b c) (k : Below B a b) : Below B a c := by
  obtain ⟨m, rfl⟩ := h; exact below_drewN k m
theorem Dr.get {a b : World} (h : Dr a b) {Q : World → Prop} (k : ∀ n, Q (a.drewN n)) : Q b := by
  obtain ⟨m, rfl⟩ := h; exact k m

/-- an array of n values -/
def arr (n : Nat) (f : Nat → Value) : Array Value := Array.ofFn (fun i : Fin n => f i.val)
theorem arr_size (n : Nat) (f : Nat → Value) : (arr n f).size = n := by simp [arr]
theorem arr_get {n : Nat} (f : Nat → Value) {i : Nat} (h : i < n) : (arr n f)[i]? = some (f i) := by simp [arr, h]
theorem arr_set (n : Nat) (f : Nat → Value) (j : Nat) (v : Value) : (arr n f).setIfInBounds j v = arr n (fun i => if i = j then v else f i) := by
  apply Array.ext_getElem?
  intro i
  rw [Array.getElem?_setIfInBounds]
  by_cases h : j = i
  · subst h
    by_cases hn : j < n
    · simp [arr, hn]
    · simp [arr, hn]
  · have h' : ¬ i = j := fun e => h e.symm
    by_cases hn : i < n
    · simp [arr, hn, h, h']
    · simp [arr, hn, h]
theorem arr_one (n : Nat) (f : Nat → Int) : (arr n (fun i => .int .u32 (f i))).all (·.oneCell') = true := by
  rw [Array.all_eq_true]
  intro i hi
  simp [arr, Value.oneCell']
theorem arr_one8 (n : Nat) (f : Nat → Int) : (arr n (fun i => .int .u8 (f i))).all (·.oneCell') = true := by
  rw [Array.all_eq_true]
  intro i hi
  simp [arr, Value.oneCell']
theorem arr_congr {n : Nat} {f g : Nat → Value} (h : ∀ i, i < n → f i = g i) : arr n f = arr n g := by
  unfold arr
  congr 1
  funext i
  exact h i.val i.isLt
theorem arr_of {n : Nat} {A : Array Value} {f : Nat → Value} (hs : A.size = n) (h : ∀ i, i < n → A[i]? = some (f i)) : A = arr n f := by
  apply Array.ext
  · rw [hs, arr_size]
  · intro i h1 h2
    have e1 := h i (by omega)
    have e2 := arr_get f (n := n) (i := i) (by omega)
    rw [Array.getElem?_eq_getElem h1] at e1
    rw [Array.getElem?_eq_getElem h2] at e2
    exact Option.some.inj (e1.trans e2.symm)

/-- the numbers of a step: behind k of the first sixteen; behind k more -/
def wd (x : Nat → Int) (t : Nat) : Int := word (x (4 * t)) (x (4 * t + 1)) (x (4 * t + 2)) (x (4 * t + 3))
def ws0 (x : Nat → Int) (k : Nat) : Nat → Int := fun t => if t < k then wd x t else 0
def nextW (f : Nat → Int) (t : Nat) : Int := (mixS (f (t - 2)) 17 19 10 + f (t - 7) + mixS (f (t - 15)) 7 18 3 + f (t - 16)) % 4294967296
def ws (x : Nat → Int) : Nat → Nat → Int
  | 0 => ws0 x 16
  | k + 1 => fun t => if t = 16 + k then nextW (ws x k) (16 + k) else ws x k t
theorem ws0_next (x : Nat → Int) (k i : Nat) : ws0 x (k + 1) i = if i = k then wd x k else ws0 x k i := by
  unfold ws0
  by_cases h : i = k
  · subst h; simp
  · have : i < k + 1 ↔ i < k := by omega
    simp [h, this]
theorem ws_next (x : Nat → Int) (k i : Nat) (hk : 16 ≤ k) : ws x (k + 1 - 16) i = if i = k then nextW (ws x (k - 16)) k else ws x (k - 16) i := by
  have e : k + 1 - 16 = (k - 16) + 1 := by omega
  have e2 : 16 + (k - 16) = k := by omega
  rw [e, ws, e2]
def vu32 (f : Nat → Int) : Nat → Value := fun i => .int .u32 (f i)
def vu8 (f : Nat → Int) : Nat → Value := fun i => .int .u8 (f i)

/-- a store into the block that was made last, behind draws -/
theorem Dr.store {L : World} {A : Array Value} {t : TypeId} {wr : World} (h : Dr (L.alloc (.cells A t)) wr) (j : Nat) (v : Value) :
    Dr (L.alloc (.cells (A.setIfInBounds j v) t)) (wr.setCell ⟨L.heap.size, j, none⟩ v) := by
  obtain ⟨n, rfl⟩ := h
  refine ⟨n, ?_⟩
  rw [← World.setCell_alloc_at _ _ _ _ _ rfl]
  rfl

end Sha
end Go.Proofs.YtkmphpkobjhleaaDoor
