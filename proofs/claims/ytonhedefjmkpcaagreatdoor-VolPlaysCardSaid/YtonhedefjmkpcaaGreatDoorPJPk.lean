import Derived.Test.YtonhedefjmkpcaaGreatDoorPJPt
/- Numbers in lanes: 32641 of them, 64 bits each, in one number; what is done to all at once. -/
namespace Go.Proofs.YtonhedefjmkpcaaGreatDoor
set_option maxRecDepth 20000
namespace Pk
/-- the first n numbers, 64 bits each, in one -/
def pk (f : Nat → Nat) : Nat → Nat
 | 0 => 0
 | n + 1 => pk f n + f n * 2 ^ (64 * n)
theorem pk_lt {f : Nat → Nat} (h : ∀ i, f i < 2 ^ 64) : ∀ n, pk f n < 2 ^ (64 * n)
 | 0 => by simp [pk]
 | n + 1 => by
  have ih := pk_lt h n
  have h1 : f n * 2 ^ (64 * n) + 2 ^ (64 * n) ≤ 2 ^ 64 * 2 ^ (64 * n) := by
   have := Nat.mul_le_mul_right (2 ^ (64 * n)) (show f n + 1 ≤ 2 ^ 64 from h n)
   rwa [Nat.add_mul, Nat.one_mul] at this
  have h2 : 2 ^ (64 * (n + 1)) = 2 ^ 64 * 2 ^ (64 * n) := by rw [← Nat.pow_add]; congr 1; omega
  simp only [pk]
  omega
theorem pk_bit {f : Nat → Nat} (h : ∀ i, f i < 2 ^ 64) : ∀ n b, (pk f n).testBit b = (decide (b < 64 * n) && (f (b / 64)).testBit (b % 64))
 | 0, b => by simp [pk]
 | n + 1, b => by
  have ih := pk_bit h n b
  have e : pk f (n + 1) = 2 ^ (64 * n) * f n + pk f n := by simp only [pk]; rw [Nat.mul_comm, Nat.add_comm]
  rw [e, Nat.testBit_two_pow_mul_add _ (pk_lt h n)]
  by_cases hb : b < 64 * n
  ·rw [if_pos hb, ih, decide_eq_true hb, decide_eq_true (show b < 64 * (n + 1) by omega)]
  ·rw [if_neg hb]
   by_cases h2 : b < 64 * (n + 1)
   ·have e1 : b / 64 = n := by omega
    have e2 : b - 64 * n = b % 64 := by omega
    rw [decide_eq_true h2, e1, e2, Bool.true_and]
   ·rw [decide_eq_false h2, Bool.false_and]
    exact Nat.testBit_lt_two_pow (Nat.lt_of_lt_of_le (h n) (Nat.pow_le_pow_right (by omega) (by omega)))
theorem pk_add (f g : Nat → Nat) : ∀ n, pk f n + pk g n = pk (fun i => f i + g i) n
 | 0 => rfl
 | n + 1 => by
  have ih := pk_add f g n
  simp only [pk]
  rw [← ih, Nat.add_mul]
  omega
theorem pk_mul (f : Nat → Nat) (c : Nat) : ∀ n, pk f n * c = pk (fun i => f i * c) n
 | 0 => by simp [pk]
 | n + 1 => by
  have ih := pk_mul f c n
  simp only [pk]
  rw [← ih, Nat.add_mul, Nat.mul_right_comm]
theorem pk_ones : ∀ n, pk (fun _ => 1) n * 18446744073709551615 = 2 ^ (64 * n) - 1
 | 0 => by simp [pk]
 | n + 1 => by
  have ih := pk_ones n
  have h2 : 2 ^ (64 * (n + 1)) = 18446744073709551616 * 2 ^ (64 * n) := by rw [show (18446744073709551616 : Nat) = 2 ^ 64 from rfl, ← Nat.pow_add]; congr 1; omega
  have h3 : 0 < 2 ^ (64 * n) := Nat.two_pow_pos _
  simp only [pk]
  rw [Nat.add_mul, ih, h2]
  omega

def L : Nat := 32641
def ones : Nat := (2 ^ (64 * L) - 1) / 18446744073709551615
def m : Nat := ones * 4294967295
theorem ones_pk : ones = pk (fun _ => 1) L := by
 unfold ones
 rw [← pk_ones L]
 exact Nat.mul_div_cancel _ (by omega)
theorem const_pk (c : Nat) : ones * c = pk (fun _ => c) L := by
 rw [ones_pk, pk_mul]
 congr 1
 funext i
 exact Nat.one_mul c
/-- the lanes' numbers, each below 2^32; wide ones -/
structure Rp (P : Nat) (f : Nat → Nat) : Prop where
 b : ∀ i, f i < 2 ^ 32
 e : P = pk f L
structure Wd (P : Nat) (f : Nat → Nat) (B : Nat) : Prop where
 b : ∀ i, f i < B
 e : P = pk f L
theorem Rp.w64 {P : Nat} {f : Nat → Nat} (h : Rp P f) : ∀ i, f i < 2 ^ 64 := fun i => Nat.lt_trans (h.b i) (by decide)
theorem Rp.bit {P : Nat} {f : Nat → Nat} (h : Rp P f) (b : Nat) : P.testBit b = (decide (b < 64 * L) && (f (b / 64)).testBit (b % 64)) := by rw [h.e, pk_bit h.w64]
theorem Rp.of {P : Nat} {f : Nat → Nat} (h : ∀ i, f i < 2 ^ 32) (hb : ∀ b, P.testBit b = (decide (b < 64 * L) && (f (b / 64)).testBit (b % 64))) : Rp P f :=
 ⟨h, Nat.eq_of_testBit_eq fun b => by rw [hb, pk_bit (fun i => Nat.lt_trans (h i) (by decide))]⟩
theorem Rp.congr {P : Nat} {f g : Nat → Nat} (h : Rp P f) (e : ∀ i, f i = g i) : Rp P g := by rw [← funext e]; exact h
theorem rp_const {c : Nat} (h : c < 2 ^ 32) : Rp (ones * c) (fun _ => c) := ⟨fun _ => h, const_pk c⟩
theorem rp_zero : Rp 0 (fun _ => 0) := by have := rp_const (c := 0) (by decide); rwa [Nat.mul_zero] at this
theorem Rp.xor {P Q : Nat} {f g : Nat → Nat} (h : Rp P f) (k : Rp Q g) : Rp (Nat.xor P Q) (fun i => f i ^^^ g i) :=
 .of (fun i => Nat.xor_lt_two_pow (h.b i) (k.b i)) fun b => by
  show (P ^^^ Q).testBit b = _
  rw [Nat.testBit_xor, h.bit, k.bit, Nat.testBit_xor]
  cases decide (b < 64 * L) <;> simp
theorem Rp.and {P Q : Nat} {f g : Nat → Nat} (h : Rp P f) (k : Rp Q g) : Rp (Nat.land P Q) (fun i => f i &&& g i) :=
 .of (fun i => Nat.and_lt_two_pow _ (k.b i)) fun b => by
  show (P &&& Q).testBit b = _
  rw [Nat.testBit_and, h.bit, k.bit, Nat.testBit_and]
  cases decide (b < 64 * L) <;> simp
theorem Rp.or {P Q : Nat} {f g : Nat → Nat} (h : Rp P f) (k : Rp Q g) : Rp (Nat.lor P Q) (fun i => f i ||| g i) :=
 .of (fun i => Nat.or_lt_two_pow (h.b i) (k.b i)) fun b => by
  show (P ||| Q).testBit b = _
  rw [Nat.testBit_or, h.bit, k.bit, Nat.testBit_or]
  cases decide (b < 64 * L) <;> simp
theorem bit_high {x j : Nat} (h : x < 2 ^ 32) (hj : 32 ≤ j) : x.testBit j = false := Nat.testBit_lt_two_pow (Nat.lt_of_lt_of_le h (Nat.pow_le_pow_right (by omega) hj))
theorem Rp.shr {P : Nat} {f : Nat → Nat} (h : Rp P f) {k : Nat} (hk : k ≤ 32) : Rp (Nat.land (Nat.shiftRight P k) (ones * (2 ^ (32 - k) - 1))) (fun i => f i >>> k) := by
 have hm := rp_const (c := 2 ^ (32 - k) - 1) (by have := Nat.pow_le_pow_right (n := 2) (by omega) (show 32 - k ≤ 32 by omega); have := Nat.two_pow_pos (32 - k); omega)
 refine .of (fun i => Nat.lt_of_le_of_lt (Nat.shiftRight_le _ _) (h.b i)) fun b => ?_
 show (P >>> k &&& (ones * (2 ^ (32 - k) - 1))).testBit b = _
 rw [Nat.testBit_and, Nat.testBit_shiftRight, hm.bit, Nat.testBit_shiftRight, h.bit, Nat.testBit_two_pow_sub_one]
 by_cases hb : b < 64 * L
 ·by_cases hj : b % 64 < 32 - k
  ·have e1 : (k + b) / 64 = b / 64 := by omega
   have e2 : (k + b) % 64 = k + b % 64 := by omega
   have e3 : k + b < 64 * L := by omega
   rw [e1, e2, decide_eq_true hb, decide_eq_true hj, decide_eq_true e3]
   simp
  ·rw [decide_eq_false hj, bit_high (h.b _) (show 32 ≤ k + b % 64 by omega)]
   simp
 ·rw [decide_eq_false hb]
  simp
theorem Rp.shl {P : Nat} {f : Nat → Nat} (h : Rp P f) {s : Nat} (hs : s ≤ 32) : Rp (Nat.land (Nat.shiftLeft P s) m) (fun i => (f i <<< s) % 2 ^ 32) := by
 have hm : Rp m (fun _ => 4294967295) := rp_const (by decide)
 refine .of (fun i => Nat.mod_lt _ (by decide)) fun b => ?_
 show (P <<< s &&& m).testBit b = _
 rw [Nat.testBit_and, Nat.testBit_shiftLeft, hm.bit, show (4294967295 : Nat) = 2 ^ 32 - 1 from rfl, Nat.testBit_two_pow_sub_one, Nat.testBit_mod_two_pow, Nat.testBit_shiftLeft, h.bit]
 by_cases hb : b < 64 * L
 ·by_cases hj : b % 64 < 32
  ·rw [decide_eq_true hb, decide_eq_true hj]
   by_cases hsj : s ≤ b % 64
   ·have e1 : (b - s) / 64 = b / 64 := by omega
    have e2 : (b - s) % 64 = b % 64 - s := by omega
    have e3 : b - s < 64 * L := by omega
    rw [e1, e2, decide_eq_true e3]
    simp [hsj, show s ≤ b by omega]
   ·by_cases hsb : s ≤ b
    ·have e2 : 32 ≤ (b - s) % 64 := by omega
     rw [bit_high (h.b _) e2]
     simp [hsj]
    ·simp [hsj, hsb]
  ·rw [decide_eq_false hj]
   simp
 ·rw [decide_eq_false hb]
  simp
theorem Rp.wide {P : Nat} {f : Nat → Nat} (h : Rp P f) : Wd P f (2 ^ 32) := ⟨h.b, h.e⟩
theorem Wd.add {P Q : Nat} {f g : Nat → Nat} {A B : Nat} (h : Wd P f A) (k : Wd Q g B) : Wd (P + Q) (fun i => f i + g i) (A + B) :=
 ⟨fun i => by have := h.b i; have := k.b i; omega, by rw [h.e, k.e, pk_add]⟩
theorem Wd.cut {P : Nat} {f : Nat → Nat} {A : Nat} (h : Wd P f A) (hA : A ≤ 2 ^ 64) : Rp (Nat.land P m) (fun i => f i % 2 ^ 32) := by
 have hm : Rp m (fun _ => 4294967295) := rp_const (by decide)
 refine .of (fun i => Nat.mod_lt _ (by decide)) fun b => ?_
 show (P &&& m).testBit b = _
 rw [Nat.testBit_and, h.e, pk_bit (fun i => Nat.lt_of_lt_of_le (h.b i) hA), hm.bit, show (4294967295 : Nat) = 2 ^ 32 - 1 from rfl, Nat.testBit_two_pow_sub_one, Nat.testBit_mod_two_pow]
 cases decide (b < 64 * L) <;> simp [Bool.and_comm]
/-- a lane -/
theorem Rp.lane {P : Nat} {f : Nat → Nat} (h : Rp P f) {t : Nat} (ht : t < L) : Nat.land (Nat.shiftRight P (64 * t)) 4294967295 = f t := by
 refine Nat.eq_of_testBit_eq fun b => ?_
 show (P >>> (64 * t) &&& 4294967295).testBit b = _
 rw [Nat.testBit_and, Nat.testBit_shiftRight, h.bit, show (4294967295 : Nat) = 2 ^ 32 - 1 from rfl, Nat.testBit_two_pow_sub_one]
 by_cases hb : b < 32
 ·have e1 : (64 * t + b) / 64 = t := by omega
  have e2 : (64 * t + b) % 64 = b := by omega
  have e3 : 64 * t + b < 64 * L := by omega
  rw [e1, e2, decide_eq_true e3, decide_eq_true hb]
  simp
 ·rw [decide_eq_false hb, bit_high (h.b t) (by omega)]
  simp
end Pk
end Go.Proofs.YtonhedefjmkpcaaGreatDoor
/- SHA-256 of 32641 blocks at once: a step of packed numbers is each lane's step. -/
namespace Go.Proofs.YtonhedefjmkpcaaGreatDoor
set_option maxRecDepth 20000
namespace Pk
open Go.RowKit Sha

theorem wrap_u32 (n : Int) : IntKind.u32.wrap n = n % 4294967296 := by simp [IntKind.wrap, IntKind.bits, IntKind.signed]
theorem bits_x (a b : Nat) (ha : a < 2 ^ 32) (hb : b < 2 ^ 32) : bits .xor .u32 (a : Int) (b : Int) = ((a ^^^ b : Nat) : Int) := by
 have hx : a ^^^ b < 2 ^ 32 := Nat.xor_lt_two_pow ha hb
 have h1 : (BitVec.ofInt 32 (a : Int)).toNat = a := by
  rw [BitVec.ofInt_natCast, BitVec.toNat_ofNat]; exact Nat.mod_eq_of_lt (by omega)
 have h2 : (BitVec.ofInt 32 (b : Int)).toNat = b := by
  rw [BitVec.ofInt_natCast, BitVec.toNat_ofNat]; exact Nat.mod_eq_of_lt (by omega)
 show IntKind.u32.wrap ((BitVec.ofInt 32 (a : Int) ^^^ BitVec.ofInt 32 (b : Int)).toNat : Int) = _
 rw [BitVec.toNat_xor, h1, h2, wrap_u32]
 omega
theorem bits_a (a b : Nat) (ha : a < 2 ^ 32) (hb : b < 2 ^ 32) : bits .and .u32 (a : Int) (b : Int) = ((a &&& b : Nat) : Int) := by
 have hx : a &&& b < 2 ^ 32 := Nat.and_lt_two_pow _ hb
 have h1 : (BitVec.ofInt 32 (a : Int)).toNat = a := by
  rw [BitVec.ofInt_natCast, BitVec.toNat_ofNat]; exact Nat.mod_eq_of_lt (by omega)
 have h2 : (BitVec.ofInt 32 (b : Int)).toNat = b := by
  rw [BitVec.ofInt_natCast, BitVec.toNat_ofNat]; exact Nat.mod_eq_of_lt (by omega)
 show IntKind.u32.wrap ((BitVec.ofInt 32 (a : Int) &&& BitVec.ofInt 32 (b : Int)).toNat : Int) = _
 rw [BitVec.toNat_and, h1, h2, wrap_u32]
 omega
theorem bits_o (a b : Nat) (ha : a < 2 ^ 32) (hb : b < 2 ^ 32) : bits .or .u32 (a : Int) (b : Int) = ((a ||| b : Nat) : Int) := by
 have hx : a ||| b < 2 ^ 32 := Nat.or_lt_two_pow ha hb
 have h1 : (BitVec.ofInt 32 (a : Int)).toNat = a := by
  rw [BitVec.ofInt_natCast, BitVec.toNat_ofNat]; exact Nat.mod_eq_of_lt (by omega)
 have h2 : (BitVec.ofInt 32 (b : Int)).toNat = b := by
  rw [BitVec.ofInt_natCast, BitVec.toNat_ofNat]; exact Nat.mod_eq_of_lt (by omega)
 show IntKind.u32.wrap ((BitVec.ofInt 32 (a : Int) ||| BitVec.ofInt 32 (b : Int)).toNat : Int) = _
 rw [BitVec.toNat_or, h1, h2, wrap_u32]
 omega

/-- the lanes' numbers as the step has them -/
structure RI (P : Nat) (f : Nat → Int) : Prop where
 r : Rp P (fun i => (f i).toNat)
 b : ∀ i, 0 ≤ f i ∧ f i < 4294967296
structure WI (P : Nat) (f : Nat → Int) (B : Nat) : Prop where
 r : Wd P (fun i => (f i).toNat) B
 b : ∀ i, 0 ≤ f i
theorem RI.lt {P : Nat} {f : Nat → Int} (h : RI P f) (i : Nat) : (f i).toNat < 2 ^ 32 := by have := h.b i; omega
theorem RI.of {P : Nat} {f : Nat → Int} {g : Nat → Nat} (h : Rp P g) (e : ∀ i, f i = (g i : Int)) : RI P f := by
 refine ⟨h.congr fun i => by rw [e]; rfl, fun i => ?_⟩
 have := h.b i
 rw [e]
 omega
theorem RI.cast {P : Nat} {f : Nat → Int} (h : RI P f) (i : Nat) : f i = ((f i).toNat : Int) := by have := h.b i; omega
theorem RI.xo {P Q : Nat} {f g : Nat → Int} (h : RI P f) (k : RI Q g) : RI (Nat.xor P Q) (fun i => xo (f i) (g i)) :=
 .of (h.r.xor k.r) fun i => by
  rw [h.cast i, k.cast i]
  exact bits_x _ _ (h.lt i) (k.lt i)
theorem RI.an {P Q : Nat} {f g : Nat → Int} (h : RI P f) (k : RI Q g) : RI (Nat.land P Q) (fun i => an (f i) (g i)) :=
 .of (h.r.and k.r) fun i => by
  rw [h.cast i, k.cast i]
  exact bits_a _ _ (h.lt i) (k.lt i)
theorem RI.const {c : Nat} (h : c < 2 ^ 32) : RI (ones * c) (fun _ => (c : Int)) := .of (rp_const h) fun _ => rfl
theorem RI.no {P : Nat} {f : Nat → Int} (h : RI P f) : RI (Nat.xor P m) (fun i => no (f i)) := by
 have hm : RI m (fun _ => 4294967295) := RI.const (c := 4294967295) (by decide)
 refine .of (h.r.xor hm.r) fun i => ?_
 rw [h.cast i]
 have := bits_x 4294967295 (f i).toNat (by decide) (h.lt i)
 rw [Nat.xor_comm] at this
 exact this
theorem RI.shr {P : Nat} {f : Nat → Int} (h : RI P f) {k : Nat} (hk : k ≤ 32) : RI (Nat.land (Nat.shiftRight P k) (ones * (2 ^ (32 - k) - 1))) (fun i => shR (f i) k) :=
 .of (h.r.shr hk) fun i => by
  rw [h.cast i]
  unfold shR
  rw [Nat.shiftRight_eq_div_pow]
  simp
theorem RI.rot {P : Nat} {f : Nat → Int} (h : RI P f) {k : Nat} (hk : k ≤ 32) : RI (Nat.lor (Nat.land (Nat.shiftRight P k) (ones * (2 ^ (32 - k) - 1))) (Nat.land (Nat.shiftLeft P (32 - k)) m)) (fun i => rotR (f i) k) := by
 have h1 := h.r.shr hk
 have h2 := h.r.shl (s := 32 - k) (by omega)
 refine .of (h1.or h2) fun i => ?_
 rw [h.cast i]
 unfold rotR
 have e1 : (((f i).toNat : Nat) : Int) / 2 ^ ((k : Nat) : Int).toNat = (((f i).toNat >>> k : Nat) : Int) := by
  rw [Nat.shiftRight_eq_div_pow]
  simp
 have e2 : (((f i).toNat : Nat) : Int) * 2 ^ (32 - (k : Int)).toNat % 4294967296 = ((((f i).toNat <<< (32 - k)) % 2 ^ 32 : Nat) : Int) := by
  rw [Nat.shiftLeft_eq, show (32 - (k : Int)).toNat = 32 - k by omega]
  simp
 rw [e1, e2]
 exact bits_o _ _ (h1.b i) (h2.b i)
theorem RI.wide {P : Nat} {f : Nat → Int} (h : RI P f) : WI P f (2 ^ 32) := ⟨h.r.wide, fun i => (h.b i).1⟩
theorem WI.add {P Q : Nat} {f g : Nat → Int} {A B : Nat} (h : WI P f A) (k : WI Q g B) : WI (P + Q) (fun i => f i + g i) (A + B) := by
 have hw := h.r.add k.r
 refine ⟨⟨fun i => ?_, ?_⟩, fun i => by have := h.b i; have := k.b i; omega⟩
 ·have h1 := h.r.b i
  have h2 := k.r.b i
  have := h.b i
  have := k.b i
  omega
 ·rw [hw.e]
  congr 1
  funext i
  have := h.b i
  have := k.b i
  omega
theorem WI.cut {P : Nat} {f : Nat → Int} {A : Nat} (h : WI P f A) (hA : A ≤ 2 ^ 64) : RI (Nat.land P m) (fun i => f i % 4294967296) :=
 .of (h.r.cut hA) fun i => by
  have := h.b i
  omega

/-- the step on packed numbers -/
structure PS where
 a : Nat
 b : Nat
 c : Nat
 d : Nat
 e : Nat
 f : Nat
 g : Nat
 h : Nat
def pshr (a k : Nat) : Nat := Nat.land (Nat.shiftRight a k) (ones * (2 ^ (32 - k) - 1))
def prot (a k : Nat) : Nat := Nat.lor (pshr a k) (Nat.land (Nat.shiftLeft a (32 - k)) m)
def pmI (x i j k : Nat) : Nat := Nat.xor (Nat.xor (prot x i) (prot x j)) (prot x k)
def pmS (x i j k : Nat) : Nat := Nat.xor (Nat.xor (prot x i) (prot x j)) (pshr x k)
def padd (a b : Nat) : Nat := Nat.land (a + b) m
def pt1 (s : PS) (k w : Nat) : Nat := Nat.land (s.h + pmI s.e 6 11 25 + Nat.xor (Nat.land s.e s.f) (Nat.land (Nat.xor s.e m) s.g) + ones * k + w) m
def pt2 (s : PS) : Nat := padd (pmI s.a 2 13 22) (Nat.xor (Nat.xor (Nat.land s.a s.b) (Nat.land s.a s.c)) (Nat.land s.b s.c))
def prnd (s : PS) (k w : Nat) : PS := ⟨padd (pt1 s k w) (padd (pt2 s) 0), s.a, s.b, s.c, padd s.d (pt1 s k w), s.e, s.f, s.g⟩
def pnext (a b c d : Nat) : Nat := Nat.land (pmS a 17 19 10 + b + pmS c 7 18 3 + d) m
structure RS (s : PS) (t : Nat → S8) : Prop where
 a : RI s.a (fun i => (t i).a)
 b : RI s.b (fun i => (t i).b)
 c : RI s.c (fun i => (t i).c)
 d : RI s.d (fun i => (t i).d)
 e : RI s.e (fun i => (t i).e)
 f : RI s.f (fun i => (t i).f)
 g : RI s.g (fun i => (t i).g)
 h : RI s.h (fun i => (t i).h)
theorem RI.mI {P : Nat} {f : Nat → Int} (h : RI P f) {i j k : Nat} (hi : i ≤ 32) (hj : j ≤ 32) (hk : k ≤ 32) : RI (pmI P i j k) (fun l => mixI (f l) i j k) := ((h.rot hi).xo (h.rot hj)).xo (h.rot hk)
theorem RI.mS {P : Nat} {f : Nat → Int} (h : RI P f) {i j k : Nat} (hi : i ≤ 32) (hj : j ≤ 32) (hk : k ≤ 32) : RI (pmS P i j k) (fun l => mixS (f l) i j k) := ((h.rot hi).xo (h.rot hj)).xo (h.shr hk)
theorem RI.add {P Q : Nat} {f g : Nat → Int} (h : RI P f) (k : RI Q g) : RI (padd P Q) (fun i => (f i + g i) % 4294967296) := (h.wide.add k.wide).cut (by decide)
theorem RI.congr {P : Nat} {f g : Nat → Int} (h : RI P f) (e : ∀ i, f i = g i) : RI P g := by rw [← funext e]; exact h
theorem rs_p1 {s : PS} {t : Nat → S8} (h : RS s t) {k w : Nat} {kk : Int} {ww : Nat → Int} (hk : k < 2 ^ 32) (ek : kk = (k : Int)) (hw : RI w ww) : RI (pt1 s k w) (fun i => p1 (t i) kk (ww i)) := by
 subst ek
 exact (((((h.h.wide.add (h.e.mI (by omega) (by omega) (by omega)).wide).add ((h.e.an h.f).xo (h.e.no.an h.g)).wide).add (RI.const hk).wide).add hw.wide).cut (by decide))
theorem rs_p2 {s : PS} {t : Nat → S8} (h : RS s t) : RI (pt2 s) (fun i => p2 (t i)) :=
 (h.a.mI (by omega) (by omega) (by omega)).add (((h.a.an h.b).xo (h.a.an h.c)).xo (h.b.an h.c))
theorem rs_rnd {s : PS} {t : Nat → S8} (h : RS s t) {k w : Nat} {kk : Int} {ww : Nat → Int} (hk : k < 2 ^ 32) (ek : kk = (k : Int)) (hw : RI w ww) : RS (prnd s k w) (fun i => rnd (t i) kk (ww i)) := by
 have h1 := rs_p1 h hk ek hw
 have h2 : RI (padd (pt2 s) 0) (fun i => p2 (t i)) := ((rs_p2 h).add (.of rp_zero fun _ => rfl)).congr fun i => by
  have := (rs_p2 h).b i
  show (p2 (t i) + ((0 : Nat) : Int)) % 4294967296 = p2 (t i)
  omega
 exact ⟨h1.add h2, h.a, h.b, h.c, h.d.add h1, h.e, h.f, h.g⟩
theorem ri_next {a b c d : Nat} {F : Nat → Nat → Int} {t : Nat} (ha : RI a (fun i => F i (t - 2))) (hb : RI b (fun i => F i (t - 7))) (hc : RI c (fun i => F i (t - 15))) (hd : RI d (fun i => F i (t - 16))) : RI (pnext a b c d) (fun i => nextW (F i) t) :=
 ((((ha.mS (by omega) (by omega) (by omega)).wide.add hb.wide).add (hc.mS (by omega) (by omega) (by omega)).wide).add hd.wide).cut (by decide)
end Pk
end Go.Proofs.YtonhedefjmkpcaaGreatDoor
/- SHA-256 of 32641 blocks at once: the words of a step, the step, the sum. -/
namespace Go.Proofs.YtonhedefjmkpcaaGreatDoor
set_option maxRecDepth 20000
namespace Pk
open Go.RowKit Sha

/-- the window of sixteen words, one on -/
def pwin (w : Nat → Nat) (j : Nat) : Nat := bif Nat.beq j 15 then pnext (w 14) (w 9) (w 1) (w 0) else w (j + 1)
/-- rounds: the step numbers that are left, the window, the state -/
def pgo : List Nat → (Nat → Nat) → PS → PS
 | [], _, s => s
 | k :: ks, w, s => pgo ks (pwin w) (prnd s k (w 0))
def pplus (s t : PS) : PS := ⟨padd s.a t.a, padd s.b t.b, padd s.c t.c, padd s.d t.d, padd s.e t.e, padd s.f t.f, padd s.g t.g, padd s.h t.h⟩
def pks : List Nat := kList.map Int.toNat
def pstep (s : PS) (w : Nat → Nat) : PS := pplus (pgo pks w s) s

attribute [local irreducible] ones m pnext prnd
theorem ws_stay (x : Nat → Int) : ∀ (k l t : Nat), t < 16 + k → k ≤ l → ws x l t = ws x k t
 | k, l, t, ht, hl => by
  induction l with
  | zero =>
   obtain rfl : k = 0 := by omega
   rfl
  | succ l ih =>
   by_cases h : k = l + 1
   ·subst h; rfl
   ·rw [← ih (by omega)]
    simp only [ws]
    rw [if_neg (by omega)]
theorem nextW_same' {f g : Nat → Int} {t : Nat} (h : ∀ i, i < t → f i = g i) (ht : 16 ≤ t) : nextW f t = nextW g t := by
 unfold nextW
 rw [h _ (by omega), h _ (by omega), h _ (by omega), h _ (by omega)]
theorem ws_here (x : Nat → Int) (k : Nat) : ws x (k + 1) (16 + k) = nextW (ws x k) (16 + k) := if_pos rfl
theorem ws_gen (x : Nat → Int) {l k : Nat} (h : k < l) : ws x l (16 + k) = nextW (ws x l) (16 + k) :=
 (ws_stay x (k + 1) l _ (by omega) (by omega)).trans ((ws_here x k).trans (nextW_same' (fun i hi => (ws_stay x k l i hi (by omega)).symm) (by omega)))
theorem ws_at (x : Nat → Int) {t : Nat} (h1 : 16 ≤ t) (h2 : t < 64) : ws x 48 t = nextW (ws x 48) t := by
 obtain ⟨k, hk⟩ : ∃ k, t = 16 + k := ⟨t - 16, by omega⟩
 have := ws_gen x (l := 48) (k := k) (by omega)
 rw [hk]
 exact this
theorem ws_gen0 (x : Nat → Int) {t l : Nat} (h : t < 16) : ws x l t = wd x t := (ws_stay x 0 l t (by omega) (by omega)).trans (if_pos h)
theorem ws_first (x : Nat → Int) {t : Nat} (h : t < 16) : ws x 48 t = wd x t := ws_gen0 x h
/-- packed numbers are the words from n on, as far as there are -/
def Win (x : Nat → Nat → Int) (n : Nat) (w : Nat → Nat) : Prop := ∀ j, j < 16 → n + j < 64 → RI (w j) (fun i => ws (x i) 48 (n + j))
theorem win_next {x : Nat → Nat → Int} {n : Nat} {w : Nat → Nat} (h : Win x n w) : Win x (n + 1) (pwin w) := by
 intro j hj hn
 unfold pwin
 by_cases e : j = 15
 ·subst e
  have h14 := h 14 (by omega) (by omega)
  have h9 := h 9 (by omega) (by omega)
  have h1 := h 1 (by omega) (by omega)
  have h0 := h 0 (by omega) (by omega)
  have := ri_next (F := fun i => ws (x i) 48) (t := n + 16)
   (by rw [show n + 16 - 2 = n + 14 by omega]; exact h14) (by rw [show n + 16 - 7 = n + 9 by omega]; exact h9) (by rw [show n + 16 - 15 = n + 1 by omega]; exact h1) (by rw [show n + 16 - 16 = n + 0 by omega]; exact h0)
  exact this.congr fun i => by
   rw [show n + 1 + 15 = n + 16 by omega]
   exact (ws_at (x i) (by omega) (by omega)).symm
 ·have := h (j + 1) (by omega) (by omega)
  rw [show n + (j + 1) = n + 1 + j by omega] at this
  have e2 : Nat.beq j 15 = false := by
   cases e3 : Nat.beq j 15 with
   | false => rfl
   | true => exact absurd (Nat.eq_of_beq_eq_true e3) e
  rw [e2]
  exact this
theorem pks_at {n : Nat} (h : n < 64) : pks.getD n 0 < 2 ^ 32 ∧ kT n = (pks.getD n 0 : Int) := by
 have := (by decide +kernel : ∀ n : Fin 64, pks.getD n.val 0 < 2 ^ 32 ∧ kT n.val = (pks.getD n.val 0 : Int))
 exact this ⟨n, h⟩
theorem pgo_ok {x : Nat → Nat → Int} {t0 : Nat → S8} : ∀ (l : List Nat) (n : Nat) (w : Nat → Nat) (s : PS), n + l.length = 64 → (∀ j, j < l.length → l.getD j 0 = pks.getD (n + j) 0) → Win x n w → RS s (fun i => stp (t0 i) kT (ws (x i) 48) n) →
  RS (pgo l w s) (fun i => stp (t0 i) kT (ws (x i) 48) 64)
 | [], n, w, s, hn, _, _, hs => by
  obtain rfl : n = 64 := by simpa using hn
  exact hs
 | k :: l, n, w, s, hn, hl, hw, hs => by
  have hn' : n < 64 := by simp at hn; omega
  have hk : k = pks.getD n 0 := by have := hl 0 (by simp); simpa using this
  obtain ⟨k1, k2⟩ := pks_at hn'
  rw [← hk] at k1 k2
  have h0 : RI (w 0) (fun i => ws (x i) 48 n) := hw 0 (by omega) (by omega)
  refine pgo_ok l (n + 1) (pwin w) (prnd s k (w 0)) (by simp at hn; omega) (fun j hj => ?_) (win_next hw) (rs_rnd hs k1 k2 h0)
  have := hl (j + 1) (by simp; omega)
  rw [show n + 1 + j = n + (j + 1) by omega, ← this]
  rfl
theorem pstep_ok {x : Nat → Nat → Int} {t0 : Nat → S8} {w : Nat → Nat} {s : PS} (h : ∀ j, j < 16 → RI (w j) (fun i => wd (x i) j)) (hs : RS s t0) : RS (pstep s w) (fun i => stepS kT (t0 i) (x i)) := by
 have hW : Win x 0 w := fun j hj _ => (h j hj).congr fun i => by rw [Nat.zero_add, ws_first _ hj]
 have hg : RS (pgo pks w s) (fun i => stp (t0 i) kT (ws (x i) 48) 64) := pgo_ok pks 0 w s (by decide) (fun j _ => by rw [Nat.zero_add]) hW hs
 exact ⟨hg.a.add hs.a, hg.b.add hs.b, hg.c.add hs.c, hg.d.add hs.d, hg.e.add hs.e, hg.f.add hs.f, hg.g.add hs.g, hg.h.add hs.h⟩
end Pk
end Go.Proofs.YtonhedefjmkpcaaGreatDoor
/- SHA-256 of all blocks of 128 bytes of which one at most isn't 0, at once. -/
namespace Go.Proofs.YtonhedefjmkpcaaGreatDoor
set_option maxRecDepth 20000
namespace Pk
open Go.RowKit Sha Byt

theorem pk_congr {f g : Nat → Nat} : ∀ n, (∀ i, i < n → f i = g i) → pk f n = pk g n
 | 0, _ => rfl
 | n + 1, h => by
  simp only [pk]
  rw [pk_congr n (fun i hi => h i (by omega)), h n (by omega)]
theorem pk_zero {f : Nat → Nat} (n : Nat) (h : ∀ i, i < n → f i = 0) : pk f n = 0 := by
 rw [pk_congr (g := fun _ => 0) n h]
 induction n with
 | zero => rfl
 | succ n ih =>
  simp only [pk]
  rw [ih (fun i hi => h i (by omega))]
  omega
theorem pk_split (f : Nat → Nat) (a : Nat) : ∀ b, pk f (a + b) = pk f a + pk (fun i => f (a + i)) b * 2 ^ (64 * a)
 | 0 => by simp [pk]
 | b + 1 => by
  have ih := pk_split f a b
  show pk f (a + b) + f (a + b) * 2 ^ (64 * (a + b)) = _
  rw [ih]
  simp only [pk]
  rw [Nat.add_mul, Nat.mul_assoc, ← Nat.pow_add, show 64 * b + 64 * a = 64 * (a + b) by omega]
  omega
theorem pk_mid {f g : Nat → Nat} (a b c : Nat) (h1 : ∀ i, i < a → f i = 0) (h2 : ∀ i, i < b → f (a + i) = g i) (h3 : ∀ i, i < c → f (a + (b + i)) = 0) : pk f (a + (b + c)) = pk g b * 2 ^ (64 * a) := by
 rw [pk_split f a, pk_split _ b, pk_zero a h1, pk_congr b h2, pk_zero c h3, Nat.zero_mul, Nat.add_zero, Nat.zero_add]
/-- the block of a lane: all 0; or one byte -/
def dt (t i : Nat) : Int := if t ≠ 0 ∧ i = (t - 1) / 255 then (((t - 1) % 255 + 1 : Nat) : Int) else 0
/-- one word's lanes, from its first on -/
def gq (i : Nat) : Nat := if i < 1020 then (i % 255 + 1) * 256 ^ (3 - i / 255) else 0
def quad : Nat := pk gq 1020
def wordAt (J : Nat) : Nat := Nat.shiftLeft quad (64 * (1 + 1020 * J))
/-- the J-th word of a lane's block -/
def fw (J t : Nat) : Nat := if 1 + 1020 * J ≤ t ∧ t < 1 + 1020 * J + 1020 then gq (t - (1 + 1020 * J)) else 0
theorem gq_lt (i : Nat) : gq i < 2 ^ 32 := by
 unfold gq
 split
 ·have h1 : i % 255 + 1 ≤ 255 := by omega
  have h2 : 256 ^ (3 - i / 255) ≤ 256 ^ 3 := Nat.pow_le_pow_right (by omega) (by omega)
  have := Nat.mul_le_mul h1 h2
  omega
 ·omega
theorem word_rp {J : Nat} (h : J < 32) : Rp (wordAt J) (fw J) := by
 refine ⟨fun i => by unfold fw; split; exact gq_lt _; omega, ?_⟩
 have hL : L = (1 + 1020 * J) + (1020 + (32641 - (1 + 1020 * J) - 1020)) := by unfold L; omega
 rw [hL, pk_mid (g := gq) _ _ _ (fun i hi => by unfold fw; rw [if_neg (by omega)]) (fun i hi => by unfold fw; rw [if_pos (by omega)]; congr 1; omega) (fun i _ => by unfold fw; rw [if_neg (by omega)])]
 exact Nat.shiftLeft_eq _ _
/-- the words of the blocks as bytes tell them -/
theorem word_dt {J t : Nat} (hJ : J < 32) (_ht : t < L) : word (dt t (4 * J)) (dt t (4 * J + 1)) (dt t (4 * J + 2)) (dt t (4 * J + 3)) = (fw J t : Int) := by
 by_cases h : 1 + 1020 * J ≤ t ∧ t < 1 + 1020 * J + 1020
 ·have ef : fw J t = ((t - (1 + 1020 * J)) % 255 + 1) * 256 ^ (3 - (t - (1 + 1020 * J)) / 255) := by
   unfold fw gq
   rw [if_pos h, if_pos (by omega)]
  have e1 : (t - (1 + 1020 * J)) % 255 = (t - 1) % 255 := by omega
  have hq : (t - 1) / 255 = 4 * J + (t - (1 + 1020 * J)) / 255 := by omega
  have hb : (t - (1 + 1020 * J)) / 255 < 4 := by omega
  have h0 : t ≠ 0 := by omega
  rw [ef, e1]
  unfold dt word
  rw [hq]
  generalize (t - (1 + 1020 * J)) / 255 = r at hb ⊢
  generalize (t - 1) % 255 + 1 = v
  clear ef e1 hq h
  match r, hb with
  | 0, _ =>
   rw [if_pos ⟨h0, by omega⟩, if_neg (by omega), if_neg (by omega), if_neg (by omega)]
   simp
   omega
  | 1, _ =>
   rw [if_neg (by omega), if_pos ⟨h0, by omega⟩, if_neg (by omega), if_neg (by omega)]
   simp
   omega
  | 2, _ =>
   rw [if_neg (by omega), if_neg (by omega), if_pos ⟨h0, by omega⟩, if_neg (by omega)]
   simp
  | 3, _ =>
   rw [if_neg (by omega), if_neg (by omega), if_neg (by omega), if_pos ⟨h0, by omega⟩]
   simp
  | r + 4, h => omega
 ·have ef : fw J t = 0 := by unfold fw; rw [if_neg h]
  rw [ef]
  unfold dt word
  rw [if_neg (by omega), if_neg (by omega), if_neg (by omega), if_neg (by omega)]
  rfl
end Pk
end Go.Proofs.YtonhedefjmkpcaaGreatDoor
/- SHA-256 of all blocks of 128 bytes of which one at most isn't 0: their sums' first words, packed. -/
namespace Go.Proofs.YtonhedefjmkpcaaGreatDoor
set_option maxRecDepth 20000
namespace Pk
open Go.RowKit Sha Byt

/-- a lane's padded bytes -/
def xt (t : Nat) : List Int := tab 128 (dt t) ++ padL 128
theorem tab_len (t : Nat) : (tab 128 (dt t)).length = 128 := by simp [tab]
theorem xt_lo {t i : Nat} (h : i < 128) : (xt t).getD i 0 = dt t i := by
 have e := tab_getD 128 (dt t) h
 unfold xt
 rw [List.getD_eq_getElem?_getD, List.getElem?_append_left (by rw [tab_len]; exact h), ← List.getD_eq_getElem?_getD]
 exact e
theorem xt_hi (t i : Nat) : (xt t).getD (128 + i) 0 = (padL 128).getD i 0 := by
 unfold xt
 rw [List.getD_eq_getElem?_getD, List.getElem?_append_right (by rw [tab_len]; omega), tab_len, Nat.add_sub_cancel_left, ← List.getD_eq_getElem?_getD]
theorem sum_t (t : Nat) : sumS (tab 128 (dt t)) = stepS kT (stepS kT (stepS kT s0 (blk (xt t) 0)) (blk (xt t) 1)) (blk (xt t) 2) := by
 unfold sumS
 rw [tab_len, show (128 + zr 128 + 9) / 64 = 3 by decide]
 rfl
theorem wd_lo {t k j : Nat} (hk : k < 2) (hj : j < 16) : wd (blk (xt t) k) j = word (dt t (4 * (16 * k + j))) (dt t (4 * (16 * k + j) + 1)) (dt t (4 * (16 * k + j) + 2)) (dt t (4 * (16 * k + j) + 3)) := by
 unfold wd blk
 rw [xt_lo (by omega), xt_lo (by omega), xt_lo (by omega), xt_lo (by omega)]
 rw [show 64 * k + 4 * j = 4 * (16 * k + j) by omega, show 64 * k + (4 * j + 1) = 4 * (16 * k + j) + 1 by omega, show 64 * k + (4 * j + 2) = 4 * (16 * k + j) + 2 by omega, show 64 * k + (4 * j + 3) = 4 * (16 * k + j) + 3 by omega]
def padW (j : Nat) : Nat := bif Nat.beq j 0 then 2147483648 else bif Nat.beq j 15 then 1024 else 0
theorem pad_w : ∀ j : Fin 16, wd (fun i => (padL 128).getD i 0) j.val = (padW j.val : Int) ∧ padW j.val < 2 ^ 32 := by decide +kernel
theorem wd_hi {t j : Nat} (hj : j < 16) : wd (blk (xt t) 2) j = (padW j : Int) := by
 rw [← (pad_w ⟨j, hj⟩).1]
 unfold wd blk
 rw [show 64 * 2 + 4 * j = 128 + 4 * j by omega, show 64 * 2 + (4 * j + 1) = 128 + (4 * j + 1) by omega, show 64 * 2 + (4 * j + 2) = 128 + (4 * j + 2) by omega, show 64 * 2 + (4 * j + 3) = 128 + (4 * j + 3) by omega, xt_hi, xt_hi, xt_hi, xt_hi]
/-- lanes beyond the last don't count -/
def xl (t : Nat) : List Int := if t < L then xt t else List.replicate 192 0
theorem fw_out {J t : Nat} (hJ : J < 32) (ht : ¬ t < L) : fw J t = 0 := by
 unfold fw
 unfold L at ht
 rw [if_neg (by omega)]
def pblk (k j : Nat) : Nat := wordAt (16 * k + j)
theorem ri_blk {k j : Nat} (hk : k < 2) (hj : j < 16) : RI (pblk k j) (fun t => wd (blk (xl t) k) j) := by
 refine .of (word_rp (J := 16 * k + j) (by omega)) fun t => ?_
 unfold xl
 by_cases ht : t < L
 ·rw [if_pos ht, wd_lo hk hj]
  exact word_dt (by omega) ht
 ·rw [if_neg ht, fw_out (by omega) ht]
  unfold wd blk word
  have : ∀ i, (List.replicate 192 (0 : Int)).getD i 0 = 0 := fun i => by
   rw [List.getD_eq_getElem?_getD, List.getElem?_replicate]
   split <;> rfl
  rw [this, this, this, this]
  rfl
def ppad (j : Nat) : Nat := ones * padW j
/-- a lane's last block -/
def yl (_t : Nat) : Nat → Int := fun i => (padL 128).getD i 0
theorem ri_pad {j : Nat} (hj : j < 16) : RI (ppad j) (fun t => wd (yl t) j) := (RI.const (pad_w ⟨j, hj⟩).2).congr fun _ => (pad_w ⟨j, hj⟩).1.symm
def ps0 : PS := ⟨ones * 1779033703, ones * 3144134277, ones * 1013904242, ones * 2773480762, ones * 1359893119, ones * 2600822924, ones * 528734635, ones * 1541459225⟩
theorem ri_s0 : RS ps0 (fun _ => s0) := ⟨.const (by decide), .const (by decide), .const (by decide), .const (by decide), .const (by decide), .const (by decide), .const (by decide), .const (by decide)⟩
/-- the sums' first words -/
def fin : Nat := (pstep (pstep (pstep ps0 (pblk 0)) (pblk 1)) ppad).a
theorem fin_ri : RI fin (fun t => (stepS kT (stepS kT (stepS kT s0 (blk (xl t) 0)) (blk (xl t) 1)) (yl t)).a) :=
 (pstep_ok (x := yl) (fun _ hj => ri_pad hj) (pstep_ok (x := fun t => blk (xl t) 1) (fun _ hj => ri_blk (by omega) hj) (pstep_ok (x := fun t => blk (xl t) 0) (fun _ hj => ri_blk (by omega) hj) ri_s0))).a
theorem stepS_same {K : Nat → Int} {s : S8} {x y : Nat → Int} (h : ∀ j, j < 16 → wd x j = wd y j) : stepS K s x = stepS K s y := by
 have hw : ∀ l t, t < 16 + l → ws x l t = ws y l t := by
  intro l
  induction l with
  | zero => intro t ht; rw [ws_gen0 x (by omega), ws_gen0 y (by omega)]; exact h t (by omega)
  | succ l ih =>
   intro t ht
   by_cases e : t < 16 + l
   ·rw [ws_stay x l (l + 1) t e (by omega), ws_stay y l (l + 1) t e (by omega)]
    exact ih t e
   ·obtain rfl : t = 16 + l := by omega
    rw [ws_here, ws_here]
    exact nextW_same' (fun i hi => ih i hi) (by omega)
 have hs : ∀ (l n : Nat), n ≤ 16 + l → stp s K (ws x l) n = stp s K (ws y l) n := by
  intro l n
  induction n with
  | zero => intro _; rfl
  | succ n ih =>
   intro hn
   show rnd (stp s K (ws x l) n) (K n) (ws x l n) = rnd (stp s K (ws y l) n) (K n) (ws y l n)
   rw [ih (by omega), hw l n (by omega)]
 unfold stepS
 rw [hs 48 64 (by omega)]
/-- a lane's first word -/
theorem fin_lane {t : Nat} (ht : t < L) : ((Nat.land (Nat.shiftRight fin (64 * t)) 4294967295 : Nat) : Int) = (sumS (tab 128 (dt t))).a := by
 rw [fin_ri.r.lane ht, ← fin_ri.cast t, sum_t]
 unfold xl
 rw [if_pos ht]
 generalize stepS kT (stepS kT s0 (blk (xt t) 0)) (blk (xt t) 1) = S
 exact congrArg S8.a (stepS_same (x := yl t) (y := blk (xt t) 2) fun j hj => by rw [wd_hi hj]; exact (pad_w ⟨j, hj⟩).1)
end Pk
end Go.Proofs.YtonhedefjmkpcaaGreatDoor
