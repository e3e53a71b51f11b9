/- word and its reference at whatever arguments, one contract each. -/
import Derived.Test.YtolgiooddiolcaaWdRefText
namespace Go.Proofs.Ytolgiooddiolcaa
namespace Wd
open Go.RowKit Byt Go.PlainAid

/-- bytes of the call's own (from block B on), or none at all -/
structure Own (w : World) (B : Nat) (ao : Option Addr) (n cap : Nat) (f : Nat → Int) : Prop where
  room : n ≤ cap
  nil : ao = none → cap = 0
  row : (ao = none ∧ n = 0) ∨ ∃ g, ao = some ⟨g, 0, none⟩ ∧ B ≤ g ∧ Row w g 0 n f
/-- w' is w, but for what stands in ao's block -/
def Only (w w' : World) (ao : Option Addr) : Prop := w.grownBy w' (ao.map (·.block))
theorem Only.refl (w : World) (ao : Option Addr) : Only w w ao := World.grownBy.refl _ _
theorem Own.reads {w : World} {B : Nat} {ao : Option Addr} {n cap : Nat} {f : Nat → Int} (h : Own w B ao n cap f) : Reads w ao n cap f :=
  ⟨h.room, h.nil, h.row.imp (·.2) fun ⟨g, e, _, hr⟩ => ⟨g, 0, e, fun _ hj => hr.cell hj⟩⟩
theorem Own.lies {w : World} {B : Nat} {ao : Option Addr} {n cap : Nat} {f : Nat → Int} (h : Own w B ao n cap f) : Lies w w.heap.size ao cap (tab n f) := reads_lies h.reads
theorem Own.congr {w : World} {B : Nat} {ao : Option Addr} {n cap : Nat} {f f' : Nat → Int} (h : Own w B ao n cap f) (he : ∀ i, i < n → f i = f' i) : Own w B ao n cap f' :=
  ⟨h.room, h.nil, h.row.imp id fun ⟨g, e, hb, hr⟩ => ⟨g, e, hb, hr.congr he⟩⟩
theorem Own.mono {w : World} {B B' : Nat} {ao : Option Addr} {n cap : Nat} {f : Nat → Int} (h : Own w B ao n cap f) (hB : B' ≤ B) : Own w B' ao n cap f :=
  ⟨h.room, h.nil, h.row.imp id fun ⟨g, e, hb, hr⟩ => ⟨g, e, by omega, hr⟩⟩
/-- what lies below what is owned is as it was -/
theorem Own.below {w w' : World} {B : Nat} {ao : Option Addr} {n cap : Nat} {f : Nat → Int} (h : Own w B ao n cap f) (hB : Below w.heap.size w w') : Own w' B ao n cap f :=
  ⟨h.room, h.nil, h.row.imp id fun ⟨g, e, hb, hr⟩ => ⟨g, e, hb, hr.below hB hr.lt⟩⟩
/-- v is owned: as Copy answers it -/
theorem own_of {w : World} {B : Nat} {v : Value} {n : Nat} {xs : List Int} (hn : n = xs.length) (h : w.ownsRow B 5 1 v n (bys xs)) : ∃ ao cap, v = .slice ao n cap ∧ Own w B ao n cap (fun i => xs.getD i 0) := by
  rcases row_own hn h with ⟨rfl, h0⟩ | ⟨g, cap, rfl, hg, hc, hm, hr⟩
  · subst h0
    exact ⟨none, 0, rfl, ⟨Nat.le_refl _, fun _ => rfl, .inl ⟨rfl, rfl⟩⟩⟩
  · exact ⟨_, cap, rfl, ⟨hc, (fun e => by cases e), .inr ⟨g, rfl, hg, hr⟩⟩⟩

theorem Own.under {B : Nat} {a w w' : World} {ao : Option Addr} {n cap : Nat} {f : Nat → Int} (ho : Own w B ao n cap f) (h : Below B a w) (hg : Only w w' ao) (hs : B ≤ w.heap.size) : Below B a w' := by
  refine h.grown hg hs fun k hk => ?_
  rcases ho.row with ⟨e, _⟩ | ⟨g, e, hb, _⟩
  · rw [e] at hk; cases hk
  · rw [e] at hk
    have : g = k := by simpa using hk
    omega
/-- another block's bytes -/
theorem Own.other {B B' : Nat} {w w' : World} {ao bo : Option Addr} {n cap m cap' : Nat} {f h : Nat → Int} (ho : Own w B ao n cap f) (hb : Own w B' bo m cap' h) (hg : Only w w' bo) (hne : ao.map (·.block) = none ∨ ao.map (·.block) ≠ bo.map (·.block)) : Own w' B ao n cap f := by
  refine ⟨ho.room, ho.nil, ho.row.imp id fun ⟨g, e, hB, hr⟩ => ⟨g, e, hB, hr.block (hg.block g hr.lt ?_)⟩⟩
  rw [e] at hne
  exact hne.resolve_left (by simp)
theorem Own.lt {B : Nat} {w : World} {ao : Option Addr} {n cap : Nat} {f : Nat → Int} (ho : Own w B ao n cap f) : ∀ k, ao.map (·.block) = some k → B ≤ k ∧ k < w.heap.size := by
  intro k hk
  rcases ho.row with ⟨e, _⟩ | ⟨g, e, hb, hr⟩
  · rw [e] at hk; cases hk
  · rw [e] at hk
    obtain rfl : g = k := by simpa using hk
    exact ⟨hb, hr.lt⟩

theorem Own.same {w w' : World} {B : Nat} {ao : Option Addr} {n cap : Nat} {f : Nat → Int} (h : Own w B ao n cap f) (e : w'.heap = w.heap) : Own w' B ao n cap f :=
  ⟨h.room, h.nil, h.row.imp id fun ⟨g, e1, hb, hr⟩ => ⟨g, e1, hb, hr.block (by rw [e])⟩⟩
theorem Own.cell {w w' : World} {B : Nat} {ao : Option Addr} {n cap : Nat} {f : Nat → Int} (ho : Own w B ao n cap f) (hg : Only w w' ao) {p : Addr} (hp : p.block < B) (hB : B ≤ w.heap.size) : w'.cell? p = w.cell? p :=
  (ho.under (Below.refl B w) hg hB).cell hp
theorem copy_n (n : Nat) (ao : Option Addr) (cap : Nat) (xs : List Int) (w : World) (hn : n = xs.length) (hl : Lies w w.heap.size ao cap xs) (hlen : n ≤ 140737488355328) :
    Calls Try.prog 9 #[.slice ao n cap] w fun e w' => ∃ ax cx, e = .returned (.slice ax n cx) ∧ Own w' w.heap.size ax n cx (fun i => xs.getD i 0) ∧ Below w.heap.size w w' := by
  subst hn
  refine (copy_any ao cap xs w hl hlen).mono ?_
  rintro _ w' ⟨v, rfl, ho, hb⟩
  obtain ⟨ax, cx, rfl, h⟩ := own_of rfl ho
  exact ⟨ax, cx, rfl, h, hb⟩

def putGood (n : Nat) (a k z : Int) : Prop := 1 ≤ k ∧ k ≤ 8 ∧ 0 ≤ a ∧ a ≤ n - k ∧ 0 ≤ z ∧ z / 2 ^ (8 * k.toNat) = 0
instance (n : Nat) (a k z : Int) : Decidable (putGood n a k z) := by unfold putGood; infer_instance
def putF (n : Nat) (a k z : Int) (f : Nat → Int) : Nat → Int := if putGood n a k z then mix f a.toNat k.toNat (byteAt z) else f
def putE (n : Nat) (a k z : Int) : Int := if putGood n a k z then 0 else 1

/-- what a call of Put comes to -/
def PutPost (w : World) (B : Nat) (ao : Option Addr) (n cap : Nat) (a k z : Int) (f : Nat → Int) (e : Ending) (w' : World) : Prop :=
  e = .returned (.int .i64 (putE n a k z)) ∧ Only w w' ao ∧ Own w' B ao n cap (putF n a k z f)

theorem put_post {w : World} {B : Nat} {ao : Option Addr} {n cap : Nat} {f : Nat → Int} (h : Own w B ao n cap f) (a k z : Int) (F : FuncId)
    (hok : ∀ (g a' k' : Nat), ao = some ⟨g, 0, none⟩ → Row w g 0 n f → a = a' → k = k' → 1 ≤ k' → k' ≤ 8 → a' + k' ≤ n → 0 ≤ z → z / 2 ^ (8 * k') = 0 → Calls Try.prog F #[.slice ao n cap, .int .i64 a, .int .i64 k, .int .i64 z] w fun e w' =>
      e = .returned (.int .i64 0) ∧ w.grownBy w' (some g) ∧ Row w' g 0 n (mix f a' k' (byteAt z)))
    (hno : (k < 1 ∨ k > 8 ∨ a < 0 ∨ a > n - k ∨ z < 0 ∨ z / 2 ^ (8 * k.toNat) ≠ 0) → (n = 0 ∨ ∃ g off, ao = some ⟨g, off, none⟩) → Calls Try.prog F #[.slice ao n cap, .int .i64 a, .int .i64 k, .int .i64 z] w fun e w' => e = .returned (.int .i64 1) ∧ w = w') :
    Calls Try.prog F #[.slice ao n cap, .int .i64 a, .int .i64 k, .int .i64 z] w (PutPost w B ao n cap a k z f) := by
  by_cases hg : putGood n a k z
  · have hg' := hg
    obtain ⟨h1, h2, h3, h4, h5, h6⟩ := hg
    obtain ⟨a', rfl⟩ : ∃ m : Nat, a = m := ⟨a.toNat, by omega⟩
    obtain ⟨k', rfl⟩ : ∃ m : Nat, k = m := ⟨k.toNat, by omega⟩
    obtain ⟨g, e, hb, hr⟩ := h.row.resolve_left (by omega)
    refine (hok g a' k' e hr rfl rfl (by omega) (by omega) (by omega) h5 (by simpa using h6)).mono ?_
    rintro _ w' ⟨rfl, hG, hR⟩
    refine ⟨by unfold putE; rw [if_pos hg'], by subst e; exact hG, ⟨h.room, h.nil, .inr ⟨g, e, hb, ?_⟩⟩⟩
    unfold putF
    rw [if_pos hg']
    simpa using hR
  · refine (hno (by unfold putGood at hg; omega) (h.row.imp (·.2) fun ⟨g, e, _, _⟩ => ⟨g, 0, e⟩)).mono ?_
    rintro _ w' ⟨rfl, rfl⟩
    refine ⟨by unfold putE; rw [if_neg hg], Only.refl _ _, ?_⟩
    unfold putF
    rw [if_neg hg]
    exact h

theorem put_any (w : World) (B : Nat) (ao : Option Addr) (n cap : Nat) (f : Nat → Int) (a k z : Int) (h : Own w B ao n cap f) (hn : n ≤ 140737488355328) :
    Calls Try.prog 10 #[.slice ao n cap, .int .i64 a, .int .i64 k, .int .i64 z] w (PutPost w B ao n cap a k z f) :=
  put_post h a k z _ (fun g a' k' e hr ea ek h1 h2 h3 h4 h5 => by subst e ea ek; exact put_ok g 0 n cap a' k' z f w hr h.room hn h1 h2 h3 h4 h5)
    (fun hb hg => put_no ao n cap a k z w hn hb hg h.room)
theorem refput_any (w : World) (B : Nat) (ao : Option Addr) (n cap : Nat) (f : Nat → Int) (a k z : Int) (h : Own w B ao n cap f) (hn : n ≤ 140737488355328) (hz : z ≤ 9223372036854775807) :
    Calls Try.prog 11 #[.slice ao n cap, .int .i64 a, .int .i64 k, .int .i64 z] w (PutPost w B ao n cap a k z f) :=
  put_post h a k z _ (fun g a' k' e hr ea ek h1 h2 h3 h4 h5 => by subst e ea ek; exact WdRef.put_ok g 0 n cap a' k' z f w hr h.room hn h1 h2 h3 h4 h5)
    (fun hb _ => WdRef.put_no ao n cap a k z w hn hz hb)

end Wd
end Go.Proofs.Ytolgiooddiolcaa
