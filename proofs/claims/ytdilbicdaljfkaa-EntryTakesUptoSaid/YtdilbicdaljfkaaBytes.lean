/- Slices of bytes: what lies there, appended, as strings; Copy, Same, Grow. -/
import Derived.Test.YtdilbicdaljfkaaRows
import Derived.WalkKit
import Derived.Handy
import Derived.Lib.AppendZerosOnto
import Derived.Lib.Hide
import Derived.Laws.AppendOwnNone
import Derived.Laws.BytesString
import Derived.Deep.MidRow
namespace Go.Proofs.Ytdilbicdaljfkaa
set_option maxRecDepth 20000
namespace Sha
open Go.RowKit

def bys (xs : List Int) : List Value := xs.map (Value.int .u8)
theorem bys_length (xs : List Int) : (bys xs).length = xs.length := by simp [bys]
theorem bys_append (xs ys : List Int) : bys (xs ++ ys) = bys xs ++ bys ys := by simp [bys]
theorem bys_get (xs : List Int) (i : Nat) (h : i < xs.length) : (bys xs)[i]? = some (.int .u8 (xs.getD i 0)) := by
  simp [bys, List.getD_eq_getElem?_getD, h]

/-- the bytes xs are read at ao; they lie below block B -/
structure Lies (w : World) (B : Nat) (ao : Option Addr) (cap : Nat) (xs : List Int) : Prop where
  room : xs.length ≤ cap
  nil : ao = none → cap = 0
  cells : xs ≠ [] → ∃ b off, ao = some ⟨b, off, none⟩ ∧ b < B ∧ ∀ i, i < xs.length → w.cell? ⟨b, off + i, none⟩ = some (.int .u8 (xs.getD i 0))

theorem Lies.keep {w w' : World} {B : Nat} {ao : Option Addr} {cap : Nat} {xs : List Int} (h : Lies w B ao cap xs) (hk : ∀ p : Addr, p.block < B → w'.cell? p = w.cell? p) : Lies w' B ao cap xs :=
  ⟨h.room, h.nil, fun hn => by
    obtain ⟨b, off, e, hb, hc⟩ := h.cells hn
    exact ⟨b, off, e, hb, fun i hi => (hk _ hb).trans (hc i hi)⟩⟩
theorem Lies.below {w w' : World} {B : Nat} {ao : Option Addr} {cap : Nat} {xs : List Int} (h : Lies w B ao cap xs) (hb : Below B w w') : Lies w' B ao cap xs := h.keep fun _ hp => hb.cell hp
theorem Lies.more {w : World} {B B' : Nat} {ao : Option Addr} {cap : Nat} {xs : List Int} (h : Lies w B ao cap xs) (hB : B ≤ B') : Lies w B' ao cap xs :=
  ⟨h.room, h.nil, fun hn => by
    obtain ⟨b, off, e, hb, hc⟩ := h.cells hn
    exact ⟨b, off, e, by omega, hc⟩⟩

/-- an owned row, read -/
theorem lies_own {w : World} {base : Nat} {ao : Option Addr} {cap : Nat} {xs : List Int} (h : w.ownsRow base 5 1 (.slice ao xs.length cap) xs.length (bys xs)) : Lies w w.heap.size ao cap xs := by
  have hlt := h.lt
  have hc := h.cells (g := (ao.map (·.block)).getD 0)
  rcases h.2 with ⟨hv, hn⟩ | ⟨g, cap', cur, hv, hb, hg, hnc, _, hcs, ht⟩
  · injection hv with h1 h2 h3
    exact ⟨by omega, fun _ => h3, fun hx => absurd (List.eq_nil_of_length_eq_zero hn) hx⟩
  · injection hv with h1 h2 h3
    subst h1 h3
    refine ⟨hnc, fun e => (by cases e), fun _ => ⟨g, 0, rfl, (hlt g rfl).2, fun i hi => ?_⟩⟩
    rw [Nat.zero_add, cell_of_row w g i cur _ _ hg]
    have e1 := bys_get xs i hi
    rw [← ht] at e1
    simpa [List.getElem?_take, hi] using e1

theorem bytes_info : (Try.prog.info? 5).map (fun i => (i.zero, i.size, i.bytes)) = some (some (.int .u8 0), 1, 1) := by kernel_rfl
theorem bytes_slice : Try.prog.underlying 25 = some (.slice 5) := by kernel_rfl

theorem bys_one (xs : List Int) : ∀ u ∈ bys xs, u.oneCell' = true := ints_oneCell _ _

set_option maxRecDepth 10000 in
/-- append(v, x...), v the call's own, x whatever -/
theorem append_lies {w : World} {ops : Array Oper} {rest : List Oper} {o : Oper} {a : Act} {Q : Exit → Act → World → Prop} (hgd : o.guard = none) (s x : Operand)
    (ho : o.op = .call { callee := .builtin .append, args := #[s, x], argTypes := #[25, 25] }) (base : Nat) (v : Value) (ys : List Int) (hs : a.eval s = v) (hown : w.ownsRow base 5 1 v ys.length (bys ys))
    (B : Nat) (ao : Option Addr) (cap : Nat) (xs : List Int) (n : Nat) (hn : n = xs.length) (hx : a.eval x = .slice ao n cap) (hl : Lies w B ao cap xs) (hlen : ys.length + xs.length ≤ 140737488355328) (hbase : base ≤ w.heap.size)
    (h : ∀ v' w', w'.ownsRow base 5 1 v' (ys ++ xs).length (bys (ys ++ xs)) → w.grownBy w' v.ownBlock → wpList Try.prog ops Q rest (a.put o.dst v') w') : wpList Try.prog ops Q (o :: rest) a w := by
  subst hn
  obtain ⟨i0, hi, hz0, hz1, hz2⟩ := info_parts bytes_info
  cases ao with
  | none =>
    have hc := hl.nil rfl
    have hx0 : xs = [] := List.eq_nil_of_length_eq_zero (by have := hl.room; omega)
    subst hx0 hc
    exact wpList_append_own_none hgd s x 25 ho base 5 i0 1 bytes_slice hi v ys.length (bys ys) hs hown hx (h v w (by simpa using hown) (World.grownBy.refl _ _))
  | some ad =>
    refine wpList_append_own w hgd s x 25 ho base 5 i0 (.int .u8 0) 1 1 bytes_slice hi hz0 hz1 hz2 rfl (by decide) v ys.length (bys ys) hs hown ad xs.length cap (bys xs) hx (by simp [bys]) ?_ (bys_one _) (by unfold maxLen; omega) (by omega) hbase ?_
    · intro j u hu
      have hj : j < xs.length := by
        have := (List.getElem?_eq_some_iff.1 hu).1
        rwa [bys_length] at this
      obtain ⟨b, off, e, _, hc⟩ := hl.cells (fun e => by rw [e] at hj; simp at hj)
      injection e with e
      subst e
      rw [Addr.add_mid, hc j hj, ← hu, bys_get xs j hj]
    · intro v' w' h1 h2 _
      exact h v' w' (by rw [bys_append, List.length_append]; exact h1) h2

def strOf (xs : List Int) : ByteArray := xs.foldl (fun r n => r.push (UInt8.ofNat n.toNat)) ByteArray.empty
theorem run_str (w : World) (B : Nat) (ao : Option Addr) (cap : Nat) (xs : List Int) (hl : Lies w B ao cap xs) : (convert 25 9 (.slice ao xs.length cap)).run Try.prog w = .ok (.string (strOf xs)) w := by
  rw [run_convert_bytes_string w 25 9 5 ao xs.length cap bytes_slice (by kernel_rfl) (by kernel_rfl)]
  cases ao with
  | none =>
    have hc := hl.nil rfl
    have hx0 : xs = [] := List.eq_nil_of_length_eq_zero (by have := hl.room; omega)
    subst hx0
    rfl
  | some ad =>
    refine run_bytesToString w ad xs.length cap xs ?_
    by_cases hx : xs = []
    · subst hx; rfl
    · obtain ⟨b, off, e, _, hc⟩ := hl.cells hx
      injection e with e
      subst e
      have := run_loadCells_list (P := Try.prog) w ⟨b, off, none⟩ (bys xs) (fun j v hv => by
        have hj : j < xs.length := by
          have := (List.getElem?_eq_some_iff.1 hv).1
          rwa [bys_length] at this
        rw [Addr.add_mid, hc j hj, ← hv, bys_get xs j hj])
      simpa [bys] using this

theorem copy_any (ao : Option Addr) (cap : Nat) (xs : List Int) (w : World) (hl : Lies w w.heap.size ao cap xs) (hn : xs.length ≤ 140737488355328) :
    Calls Try.prog 16 #[.slice ao xs.length cap] w fun e w' => ∃ v, e = .returned v ∧ w'.ownsRow w.heap.size 5 1 v xs.length (bys xs) ∧ Below w.heap.size w w' := by
  go_enter Try.func16, Try.ntmps16
  go_wp2_with (at_builtin; refine append_lies rfl (.tmp 3) (.tmp 4) rfl w.heap.size _ [] rfl (World.ownsRow_lit w #[] 0 (Nat.le_refl _) (by decide) rfl) w.heap.size ao cap xs xs.length rfl rfl (hl.keep fun p hp => World.cell?_alloc_lt _ _ _ hp) (by simp; omega) (by simp) ?_; intro v' w' hown hg)
  go_ret
  refine ⟨v', rfl, by simpa using hown, ((Below.refl _ _).alloc (Nat.le_refl _) _).grown hg (by simp) ?_⟩
  intro k hk
  injection hk with hk
  subst hk
  exact Nat.le_refl _

theorem strOf_data (xs : List Int) : (strOf xs).data.toList = xs.map fun n => UInt8.ofNat n.toNat := by
  have key : ∀ (xs : List Int) (s : ByteArray), (xs.foldl (fun r n => r.push (UInt8.ofNat n.toNat)) s).data.toList = s.data.toList ++ xs.map fun n => UInt8.ofNat n.toNat := by
    intro xs
    induction xs with
    | nil => intro s; simp
    | cons x xs ih => intro s; rw [List.foldl_cons, ih]; simp [ByteArray.push]
  simpa [strOf] using key xs ByteArray.empty
theorem u8_inj {x y : Int} (hx : 0 ≤ x ∧ x < 256) (hy : 0 ≤ y ∧ y < 256) (h : UInt8.ofNat x.toNat = UInt8.ofNat y.toNat) : x = y := by
  have := congrArg UInt8.toNat h
  simp at this
  omega
def Byte (xs : List Int) : Prop := ∀ x ∈ xs, 0 ≤ x ∧ x < 256
theorem strOf_inj : ∀ {xs ys : List Int}, Byte xs → Byte ys → strOf xs = strOf ys → xs = ys := by
  intro xs ys hx hy h
  have e : xs.map (fun n => UInt8.ofNat n.toNat) = ys.map (fun n => UInt8.ofNat n.toNat) := by rw [← strOf_data, ← strOf_data, h]
  clear h
  induction xs generalizing ys with
  | nil => cases ys with
    | nil => rfl
    | cons y ys => simp at e
  | cons x xs ih => cases ys with
    | nil => simp at e
    | cons y ys =>
      simp only [List.map_cons, List.cons.injEq] at e
      rw [u8_inj (hx x (by simp)) (hy y (by simp)) e.1, ih (fun z hz => hx z (by simp [hz])) (fun z hz => hy z (by simp [hz])) e.2]

theorem same_bool {xs ys : List Int} (hx : Byte xs) (hy : Byte ys) : ((strOf xs).toList == (strOf ys).toList) = decide (xs = ys) := by
  rw [ByteArray.toList_eq, ByteArray.toList_eq, strOf_data, strOf_data]
  by_cases h : xs = ys
  · subst h; simp
  · have hne : (xs.map (fun n => UInt8.ofNat n.toNat) == ys.map (fun n => UInt8.ofNat n.toNat)) = false := by
      rw [beq_eq_false_iff_ne]
      intro e
      refine h (strOf_inj hx hy (WideShapes.bytes_inj ?_))
      rw [strOf_data, strOf_data, e]
    rw [hne, decide_eq_false h]

theorem same_any (ao bo : Option Addr) (ca cb B B' n m : Nat) (xs ys : List Int) (w : World) (hn : n = xs.length) (hk : m = ys.length) (hl : Lies w B ao ca xs) (hm : Lies w B' bo cb ys) (hx : Byte xs) (hy : Byte ys) :
    Calls Try.prog 14 #[.slice ao n ca, .slice bo m cb] w fun e w' => e = .returned (.bool (decide (xs = ys))) ∧ w = w' := by
  subst hn hk
  have h1 := run_str w B ao ca xs hl
  have h2 := run_str w B' bo cb ys hm
  rw [← same_bool hx hy]
  clear hl hm hx hy
  go_enter Try.func14, Try.ntmps14
  go_wp2_with fail
  go_ret
  exact ⟨rfl, rfl⟩

end Sha
end Go.Proofs.Ytdilbicdaljfkaa
