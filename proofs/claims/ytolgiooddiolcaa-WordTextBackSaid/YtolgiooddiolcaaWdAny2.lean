/- Take, TakeText, PutText of word and its reference at whatever arguments, one contract each. -/
import Derived.Test.YtolgiooddiolcaaWdAny
namespace Go.Proofs.Ytolgiooddiolcaa
namespace Wd
open Go.RowKit Byt Go.PlainAid

def rightAt (n : Nat) (a k most : Int) : Prop := 1 ≤ k ∧ k ≤ most ∧ 0 ≤ a ∧ a ≤ n - k
instance (n : Nat) (a k most : Int) : Decidable (rightAt n a k most) := by unfold rightAt; infer_instance
def takeS (a k : Int) (f : Nat → Int) : Int := sumLE (fun i => f (a.toNat + i)) k.toNat
def takeN (n : Nat) (a k : Int) (f : Nat → Int) : Int := if rightAt n a k 8 then if takeS a k f ≤ 9223372036854775807 then takeS a k f else 0 else 0
def takeE (n : Nat) (a k : Int) (f : Nat → Int) : Int := if rightAt n a k 8 then if takeS a k f ≤ 9223372036854775807 then 0 else 15 else 1
theorem take_post {w : World} {ao : Option Addr} {n cap : Nat} {f : Nat → Int} (h : Reads w ao n cap f) (a k : Int) (F : FuncId)
    (hok : ∀ (g off a' k' : Nat), ao = some ⟨g, off, none⟩ → (∀ j, j < n → w.cell? ⟨g, off + j, none⟩ = some (.int .u8 (f j))) → a = a' → k = k' → 1 ≤ k' → k' ≤ 8 → a' + k' ≤ n → Calls Try.prog F #[.slice ao n cap, .int .i64 a, .int .i64 k] w fun e w' =>
      e = .returned (takeVal (sumLE (fun i => f (a' + i)) k')) ∧ w = w')
    (hno : (k < 1 ∨ k > 8 ∨ a < 0 ∨ a > n - k) → Calls Try.prog F #[.slice ao n cap, .int .i64 a, .int .i64 k] w fun e w' => e = .returned (.tuple #[.int .i64 0, .int .i64 1]) ∧ w = w') :
    Calls Try.prog F #[.slice ao n cap, .int .i64 a, .int .i64 k] w fun e w' => e = .returned (.tuple #[.int .i64 (takeN n a k f), .int .i64 (takeE n a k f)]) ∧ w = w' := by
  by_cases hg : rightAt n a k 8
  · have hg' := hg
    obtain ⟨h1, h2, h3, h4⟩ := hg
    obtain ⟨a', rfl⟩ : ∃ m : Nat, a = m := ⟨a.toNat, by omega⟩
    obtain ⟨k', rfl⟩ : ∃ m : Nat, k = m := ⟨k.toNat, by omega⟩
    obtain ⟨g, off, e, hr⟩ := h.2.2.resolve_left (by omega)
    refine (hok g off a' k' e hr rfl rfl (by omega) (by omega) (by omega)).mono ?_
    rintro _ w' ⟨rfl, rfl⟩
    refine ⟨?_, rfl⟩
    unfold takeN takeE takeS takeVal
    rw [if_pos hg', if_pos hg', Int.toNat_natCast, Int.toNat_natCast]
    split <;> rfl
  · refine (hno (by unfold rightAt at hg; omega)).mono ?_
    rintro _ w' ⟨rfl, rfl⟩
    refine ⟨?_, rfl⟩
    unfold takeN takeE
    rw [if_neg hg, if_neg hg]
theorem take_any (w : World) (ao : Option Addr) (n cap : Nat) (f : Nat → Int) (a k : Int) (h : Reads w ao n cap f) (hf : ∀ i, i < n → 0 ≤ f i ∧ f i < 256) (hn : n ≤ 140737488355328) :
    Calls Try.prog 13 #[.slice ao n cap, .int .i64 a, .int .i64 k] w fun e w' => e = .returned (.tuple #[.int .i64 (takeN n a k f), .int .i64 (takeE n a k f)]) ∧ w = w' :=
  take_post h a k _ (fun g off a' k' e hr ea ek h1 h2 h3 => by subst e ea ek; exact take_ok g off n cap a' k' f w hr hf h.1 hn h1 h2 h3) (fun hb => take_no ao n cap a k w hn hb)
theorem reftake_any (w : World) (ao : Option Addr) (n cap : Nat) (f : Nat → Int) (a k : Int) (h : Reads w ao n cap f) (hf : ∀ i, i < n → 0 ≤ f i ∧ f i < 256) (hn : n ≤ 140737488355328) :
    Calls Try.prog 14 #[.slice ao n cap, .int .i64 a, .int .i64 k] w fun e w' => e = .returned (.tuple #[.int .i64 (takeN n a k f), .int .i64 (takeE n a k f)]) ∧ w = w' :=
  take_post h a k _ (fun g off a' k' e hr ea ek h1 h2 h3 => by subst e ea ek; exact WdRef.take_ok g off n cap a' k' f w hr hf h.1 hn h1 h2 h3) (fun hb => WdRef.take_no ao n cap a k w hn hb)

def textOk (a k : Int) (f : Nat → Int) : Bool := decide ((f a.toNat).toNat + 1 ≤ k.toNat) && zeroB (fun i => f (a.toNat + 1 + (f a.toNat).toNat + i)) (k.toNat - (1 + (f a.toNat).toNat))
def textS (n : Nat) (a k : Int) (f : Nat → Int) : ByteArray := if rightAt n a k 256 then if textOk a k f = true then strOf (tab (f a.toNat).toNat fun i => f (a.toNat + 1 + i)) else ⟨#[]⟩ else ⟨#[]⟩
def textE (n : Nat) (a k : Int) (f : Nat → Int) : Int := if rightAt n a k 256 then if textOk a k f = true then 0 else 15 else 1
theorem text_post {w : World} {ao : Option Addr} {n cap : Nat} {f : Nat → Int} (h : Reads w ao n cap f) (hf : ∀ i, i < n → 0 ≤ f i ∧ f i < 256) (a k : Int) (F : FuncId)
    (hok : ∀ (g off a' k' m : Nat), ao = some ⟨g, off, none⟩ → (∀ j, j < n → w.cell? ⟨g, off + j, none⟩ = some (.int .u8 (f j))) → a = a' → k = k' → f a' = m → m < 256 → 1 ≤ k' → k' ≤ 256 → a' + k' ≤ n → Calls Try.prog F #[.slice ao n cap, .int .i64 a, .int .i64 k] w fun e w' =>
      e = .returned (textVal f a' k' m) ∧ w = w')
    (hno : (k < 1 ∨ k > 256 ∨ a < 0 ∨ a > n - k) → Calls Try.prog F #[.slice ao n cap, .int .i64 a, .int .i64 k] w fun e w' => e = .returned (.tuple #[.string ⟨#[]⟩, .int .i64 1]) ∧ w = w') :
    Calls Try.prog F #[.slice ao n cap, .int .i64 a, .int .i64 k] w fun e w' => e = .returned (.tuple #[.string (textS n a k f), .int .i64 (textE n a k f)]) ∧ w = w' := by
  by_cases hg : rightAt n a k 256
  · have hg' := hg
    obtain ⟨h1, h2, h3, h4⟩ := hg
    obtain ⟨a', rfl⟩ : ∃ m : Nat, a = m := ⟨a.toNat, by omega⟩
    obtain ⟨k', rfl⟩ : ∃ m : Nat, k = m := ⟨k.toNat, by omega⟩
    obtain ⟨g, off, e, hr⟩ := h.2.2.resolve_left (by omega)
    have hb := hf a' (by omega)
    obtain ⟨m, hm⟩ : ∃ m : Nat, f a' = m := ⟨(f a').toNat, by omega⟩
    refine (hok g off a' k' m e hr rfl rfl hm (by omega) (by omega) (by omega) (by omega)).mono ?_
    rintro _ w' ⟨rfl, rfl⟩
    refine ⟨?_, rfl⟩
    unfold textS textE textOk textVal
    rw [if_pos hg', if_pos hg', Int.toNat_natCast, Int.toNat_natCast, hm, Int.toNat_natCast]
    by_cases hz : m + 1 ≤ k' ∧ zeroB (fun i => f (a' + 1 + m + i)) (k' - (1 + m)) = true
    · rw [if_pos hz, if_pos (by simp [hz]), if_pos (by simp [hz])]
    · rw [if_neg hz, if_neg (by simpa using hz), if_neg (by simpa using hz)]
  · refine (hno (by unfold rightAt at hg; omega)).mono ?_
    rintro _ w' ⟨rfl, rfl⟩
    refine ⟨?_, rfl⟩
    unfold textS textE
    rw [if_neg hg, if_neg hg]
theorem taketext_any (w : World) (ao : Option Addr) (n cap : Nat) (f : Nat → Int) (a k : Int) (h : Reads w ao n cap f) (hf : ∀ i, i < n → 0 ≤ f i ∧ f i < 256) (hn : n ≤ 140737488355328) :
    Calls Try.prog 17 #[.slice ao n cap, .int .i64 a, .int .i64 k] w fun e w' => e = .returned (.tuple #[.string (textS n a k f), .int .i64 (textE n a k f)]) ∧ w = w' :=
  text_post h hf a k _ (fun g off a' k' m e hr ea ek hm hm2 h1 h2 h3 => by subst e ea ek; exact taketext_ok g off n cap a' k' m f w hr hm hm2 h.1 hn h1 h2 h3) (fun hb => taketext_no ao n cap a k w hn hb)
theorem reftaketext_any (w : World) (ao : Option Addr) (n cap : Nat) (f : Nat → Int) (a k : Int) (h : Reads w ao n cap f) (hf : ∀ i, i < n → 0 ≤ f i ∧ f i < 256) (hn : n ≤ 140737488355328) :
    Calls Try.prog 18 #[.slice ao n cap, .int .i64 a, .int .i64 k] w fun e w' => e = .returned (.tuple #[.string (textS n a k f), .int .i64 (textE n a k f)]) ∧ w = w' :=
  text_post h hf a k _ (fun g off a' k' m e hr ea ek hm hm2 h1 h2 h3 => by subst e ea ek; exact WdRef.taketext_ok g off n cap a' k' m f w hr hm hm2 h.1 hn h1 h2 h3) (fun hb => WdRef.taketext_no ao n cap a k w hn hb)

def ptGood (n : Nat) (a k : Int) (s : ByteArray) : Prop := rightAt n a k 256 ∧ (s.size : Int) ≤ k - 1
instance (n : Nat) (a k : Int) (s : ByteArray) : Decidable (ptGood n a k s) := by unfold ptGood; infer_instance
def ptF (n : Nat) (a k : Int) (s : ByteArray) (f : Nat → Int) : Nat → Int := if ptGood n a k s then mix f a.toNat k.toNat (roomF s) else f
def ptE (n : Nat) (a k : Int) (s : ByteArray) : Int := if ptGood n a k s then 0 else 1
def PtPost (w : World) (B : Nat) (ao : Option Addr) (n cap : Nat) (a k : Int) (s : ByteArray) (f : Nat → Int) (e : Ending) (w' : World) : Prop :=
  e = .returned (.int .i64 (ptE n a k s)) ∧ Only w w' ao ∧ Own w' B ao n cap (ptF n a k s f)
theorem pt_post {w : World} {B : Nat} {ao : Option Addr} {n cap : Nat} {f : Nat → Int} (h : Own w B ao n cap f) (a k : Int) (s : ByteArray) (F : FuncId)
    (hok : ∀ (g a' k' : Nat), ao = some ⟨g, 0, none⟩ → Row w g 0 n f → a = a' → k = k' → 1 ≤ k' → k' ≤ 256 → a' + k' ≤ n → s.size + 1 ≤ k' → Calls Try.prog F #[.slice ao n cap, .int .i64 a, .int .i64 k, .string s] w fun e w' =>
      e = .returned (.int .i64 0) ∧ w.grownBy w' (some g) ∧ Row w' g 0 n (mix f a' k' (roomF s)))
    (hno : (k < 1 ∨ k > 256 ∨ a < 0 ∨ a > n - k ∨ (s.size : Int) > k - 1) → (n = 0 ∨ ∃ g off, ao = some ⟨g, off, none⟩) → Calls Try.prog F #[.slice ao n cap, .int .i64 a, .int .i64 k, .string s] w fun e w' => e = .returned (.int .i64 1) ∧ w = w') :
    Calls Try.prog F #[.slice ao n cap, .int .i64 a, .int .i64 k, .string s] w (PtPost w B ao n cap a k s f) := by
  by_cases hg : ptGood n a k s
  · have hg' := hg
    obtain ⟨⟨h1, h2, h3, h4⟩, h5⟩ := hg
    obtain ⟨a', rfl⟩ : ∃ m : Nat, a = m := ⟨a.toNat, by omega⟩
    obtain ⟨k', rfl⟩ : ∃ m : Nat, k = m := ⟨k.toNat, by omega⟩
    rcases h.row with ⟨_, h0⟩ | ⟨g, e, hb, hr⟩
    · omega
    refine (hok g a' k' e hr rfl rfl (by omega) (by omega) (by omega) (by omega)).mono ?_
    rintro _ w' ⟨rfl, hG, hR⟩
    refine ⟨by unfold ptE; rw [if_pos hg'], by subst e; exact hG, ⟨h.room, h.nil, .inr ⟨g, e, hb, ?_⟩⟩⟩
    unfold ptF
    rw [if_pos hg']
    simpa using hR
  · refine (hno (by unfold ptGood rightAt at hg; omega) (h.row.imp (·.2) fun ⟨g, e, _, _⟩ => ⟨g, 0, e⟩)).mono ?_
    rintro _ w' ⟨rfl, rfl⟩
    refine ⟨by unfold ptE; rw [if_neg hg], Only.refl _ _, ?_⟩
    unfold ptF
    rw [if_neg hg]
    exact h
theorem puttext_any (w : World) (B : Nat) (ao : Option Addr) (n cap : Nat) (f : Nat → Int) (a k : Int) (s : ByteArray) (h : Own w B ao n cap f) (hn : n ≤ 140737488355328) (hs : s.size ≤ 140737488355328) :
    Calls Try.prog 19 #[.slice ao n cap, .int .i64 a, .int .i64 k, .string s] w (PtPost w B ao n cap a k s f) :=
  pt_post h a k s _ (fun g a' k' e hr ea ek h1 h2 h3 h4 => by subst e ea ek; exact puttext_ok g 0 n cap a' k' s f w hr h.room hn h1 h2 h3 h4) (fun hb hg => puttext_no ao n cap a k s w hn hb hg h.room hs)
theorem refputtext_any (w : World) (B : Nat) (ao : Option Addr) (n cap : Nat) (f : Nat → Int) (a k : Int) (s : ByteArray) (h : Own w B ao n cap f) (hn : n ≤ 140737488355328) (hs : s.size ≤ 140737488355328) :
    Calls Try.prog 20 #[.slice ao n cap, .int .i64 a, .int .i64 k, .string s] w (PtPost w B ao n cap a k s f) :=
  pt_post h a k s _ (fun g a' k' e hr ea ek h1 h2 h3 h4 => by subst e ea ek; exact WdRef.puttext_ok g 0 n cap a' k' s f w hr h.room hn h1 h2 h3 h4) (fun hb _ => WdRef.puttext_no ao n cap a k s w hn hb hs)

end Wd
end Go.Proofs.Ytolgiooddiolcaa
