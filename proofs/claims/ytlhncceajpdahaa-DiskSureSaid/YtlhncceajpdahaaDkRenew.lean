/- disk: Clone, renew, act, Arm. -/
import Derived.Test.YtlhncceajpdahaaDkBase
import Derived.Deep.RegionHeld3
import Derived.Deep.DrawnRows
import Derived.Laws.Cover3
import Derived.Deep.RegionWith
namespace Go.Proofs.Ytlhncceajpdahaa
namespace Dk
open Go.RowKit

theorem eqlnil22 (w : World) (a : Option Addr) (l c : Nat) : (binOp .eql 25 (.slice a l c) (.slice none 0 0)).run Try.prog w = .ok (.bool a.isNone) w := by
  simp only [binOp]
  simp [run_equal_slice_nil w _ _ a l c slice_sec]
theorem eqlnil23 (w : World) (a : Option Addr) (l c : Nat) : (binOp .eql 26 (.slice a l c) (.slice none 0 0)).run Try.prog w = .ok (.bool a.isNone) w := by
  simp only [binOp]
  simp [run_equal_slice_nil w _ _ a l c slice_wr]
attribute [local go_sem] eqlnil22 eqlnil23
theorem maxLen_ge {n : Nat} (h : n ≤ 140737488355328) : n ≤ maxLen := by unfold maxLen; omega

set_option maxHeartbeats 400000 in
theorem cloneS_any (g : Nat) (ao : Option Addr) (n cap : Nat) (S : Nat → Sec) (w : World) (hl : Lay w w.heap.size g ao n cap 130 (fun i => secV (S i))) (hn : n * 130 ≤ 140737488355328) :
    Calls Try.prog 20 #[.slice ao n cap] w fun e w' => ∃ ao' cap', e = .returned (.slice ao' n cap') ∧ w'.ownsRow w.heap.size 53 130 (.slice ao' n cap') n (flat (fun i => secV (S i)) n) ∧ Below w.heap.size w w' := by
  cases ao with
  | none =>
    have hc := hl.nil rfl
    have h0 : n = 0 := by have := hl.room; omega
    subst h0 hc
    clear hl hn
    go_enter Try.func20, Try.ntmps20
    go_wp2_with fail
    go_ret
    exact ⟨none, 0, rfl, World.ownsRow_nil _ _ _ _, Below.refl _ _⟩
  | some ad =>
    obtain ⟨i0, hi, hz0, hz1, hz2⟩ := info_parts info_sec
    have HL := Lib.hid hl
    clear hl
    go_enter Try.func20, Try.ntmps20
    go_wp2_with (at_builtin; go_loud (refine append_lay rfl (.tmp 5) (.tmp 6) 25 53 i0 _ 130 130 rfl slice_sec hi hz0 hz1 hz2 (by rw [show (Value.agg (secV sec0).toArray).cells = (secV sec0).toArray from rfl, List.size_toArray, secV_length]) (by omega) w.heap.size _ [] 0 rfl (World.ownsRow_lit w #[] 0 (Nat.le_refl _) (by decide) rfl) w.heap.size g (some ad) n cap (fun i => secV (S i)) rfl (HL.out.keep fun b hb _ => Below.heap_alloc _ _ _ hb) (fun i _ => secV_length _) (fun i _ => secV_one _) (maxLen_ge (by omega)) (by omega) (by simp) ?_); intro v' w' hown hg)
    have hown' : w'.ownsRow w.heap.size 53 130 v' n (flat (fun i => secV (S i)) n) := by simpa using hown
    have hb : Below w.heap.size w w' := ((Below.refl _ _).alloc (Nat.le_refl _) _).grown hg (by simp) (by
      intro k hk
      injection hk with hk
      subst hk
      exact Nat.le_refl _)
    obtain ⟨ao', cap', rfl⟩ : ∃ ao' cap', v' = .slice ao' n cap' := by
      rcases hown'.2 with ⟨hv, hn0⟩ | ⟨b, cap', cur, hv, _⟩
      · exact ⟨none, 0, by rw [hv, hn0]⟩
      · exact ⟨_, cap', hv⟩
    go_ret
    exact ⟨ao', cap', rfl, hown', hb⟩
set_option maxHeartbeats 400000 in
theorem cloneC_any (g : Nat) (ao : Option Addr) (n cap : Nat) (C : Nat → Wr) (w : World) (hl : Lay w w.heap.size g ao n cap 129 (fun i => wrV (C i))) (hn : n * 136 ≤ 140737488355328) :
    Calls Try.prog 21 #[.slice ao n cap] w fun e w' => ∃ ao' cap', e = .returned (.slice ao' n cap') ∧ w'.ownsRow w.heap.size 55 129 (.slice ao' n cap') n (flat (fun i => wrV (C i)) n) ∧ Below w.heap.size w w' := by
  cases ao with
  | none =>
    have hc := hl.nil rfl
    have h0 : n = 0 := by have := hl.room; omega
    subst h0 hc
    clear hl hn
    go_enter Try.func21, Try.ntmps21
    go_wp2_with fail
    go_ret
    exact ⟨none, 0, rfl, World.ownsRow_nil _ _ _ _, Below.refl _ _⟩
  | some ad =>
    obtain ⟨i0, hi, hz0, hz1, hz2⟩ := info_parts info_wr
    have HL := Lib.hid hl
    clear hl
    go_enter Try.func21, Try.ntmps21
    go_wp2_with (at_builtin; go_loud (refine append_lay rfl (.tmp 5) (.tmp 6) 26 55 i0 _ 129 136 rfl slice_wr hi hz0 hz1 hz2 (by rw [show (Value.agg (wrV wr0).toArray).cells = (wrV wr0).toArray from rfl, List.size_toArray, wrV_length]) (by omega) w.heap.size _ [] 0 rfl (World.ownsRow_lit w #[] 0 (Nat.le_refl _) (by decide) rfl) w.heap.size g (some ad) n cap (fun i => wrV (C i)) rfl (HL.out.keep fun b hb _ => Below.heap_alloc _ _ _ hb) (fun i _ => wrV_length _) (fun i _ => wrV_one _) (maxLen_ge (by omega)) (by omega) (by simp) ?_); intro v' w' hown hg)
    have hown' : w'.ownsRow w.heap.size 55 129 v' n (flat (fun i => wrV (C i)) n) := by simpa using hown
    have hb : Below w.heap.size w w' := ((Below.refl _ _).alloc (Nat.le_refl _) _).grown hg (by simp) (by
      intro k hk
      injection hk with hk
      subst hk
      exact Nat.le_refl _)
    obtain ⟨ao', cap', rfl⟩ : ∃ ao' cap', v' = .slice ao' n cap' := by
      rcases hown'.2 with ⟨hv, hn0⟩ | ⟨b, cap', cur, hv, _⟩
      · exact ⟨none, 0, by rw [hv, hn0]⟩
      · exact ⟨_, cap', hv⟩
    go_ret
    exact ⟨ao', cap', rfl, hown', hb⟩

/-- the disk in the variable of block g: its lists lie elsewhere -/
structure Has (w : World) (g : Nat) (sa ca : Option Addr) (n sc m cc : Nat) (S : Nat → Sec) (C : Nat → Wr) (f : Int) (d : Bool) : Prop where
  bx : Bx w g (.slice sa n sc) (.slice ca m cc) (.int .i64 f) (.bool d)
  ss : Lay w w.heap.size g sa n sc 130 (fun i => secV (S i))
  cs : Lay w w.heap.size g ca m cc 129 (fun i => wrV (C i))
  nb : n * 130 ≤ 140737488355328
  mb : m * 136 ≤ 140737488355328
/-- .. lists of its own, from block B on -/
structure Mine (w : World) (B g : Nat) (sa ca : Option Addr) (n sc m cc : Nat) (S : Nat → Sec) (C : Nat → Wr) (f : Int) (d : Bool) : Prop where
  bx : Bx w g (.slice sa n sc) (.slice ca m cc) (.int .i64 f) (.bool d)
  ss : w.ownsRow B 53 130 (.slice sa n sc) n (flat (fun i => secV (S i)) n)
  cs : w.ownsRow B 55 129 (.slice ca m cc) m (flat (fun i => wrV (C i)) m)
  far : g < B
theorem Mine.has {w : World} {B g : Nat} {sa ca : Option Addr} {n sc m cc : Nat} {S : Nat → Sec} {C : Nat → Wr} {f : Int} {d : Bool} (h : Mine w B g sa ca n sc m cc S C f d) (nb : n * 130 ≤ 140737488355328) (mb : m * 136 ≤ 140737488355328) : Has w g sa ca n sc m cc S C f d :=
  ⟨h.bx, lay_own (fun i _ => secV_length _) h.ss (.inl h.far), lay_own (fun i _ => wrV_length _) h.cs (.inl h.far), nb, mb⟩

theorem owns_put {w : World} {B g : Nat} {e : TypeId} {k n : Nat} {v : Value} {xs : List Value} (h : w.ownsRow B e k v n xs) (hg : g < B) (j : Nat) (u : Value) : (w.setCell ⟨g, j, none⟩ u).ownsRow B e k v n xs :=
  h.kept (row := some g) ⟨rfl, rfl, rfl, by simp, fun i _ hr => Below.heap_setCell _ _ _ _ (by rintro rfl; exact hr rfl)⟩ (by
    cases e : v.ownBlock with
    | none => exact .inl rfl
    | some b => exact .inr fun hb => by injection hb with hb; have := (h.lt b e).1; omega)
theorem owns_mono {w : World} {B B' : Nat} {e : TypeId} {k n : Nat} {v : Value} {xs : List Value} (h : w.ownsRow B e k v n xs) (hb : B' ≤ B) : w.ownsRow B' e k v n xs :=
  ⟨h.1, h.2.imp id fun ⟨g, cap, cur, hv, hg, r⟩ => ⟨g, cap, cur, hv, Nat.le_trans hb hg, r⟩⟩
theorem owns_below {w w' : World} {B : Nat} {e : TypeId} {k n : Nat} {v : Value} {xs : List Value} (h : w.ownsRow B e k v n xs) (hb : Below w.heap.size w w') : w'.ownsRow B e k v n xs :=
  h.kept (row := none) ⟨hb.os, hb.tape, hb.output, hb.size, fun i hi _ => hb.block i hi⟩ (by
    cases e : v.ownBlock with
    | none => exact .inl rfl
    | some b => exact .inr (by simp))
theorem undrew {B : Nat} {w w1 : World} (h : Below B w.drew w1) : Below B w w1 := ⟨h.os, h.tape, h.output, h.size, h.block⟩
theorem only_put (w : World) (g j : Nat) (u : Value) : w.grownBy (w.setCell ⟨g, j, none⟩ u) (some g) := ⟨rfl, rfl, rfl, by simp, fun i _ hr => Below.heap_setCell _ _ _ _ (by rintro rfl; exact hr rfl)⟩
theorem only_trans {g : Nat} {a w w' : World} (h : a.grownBy w (some g)) (k : w.grownBy w' (some g)) : a.grownBy w' (some g) :=
  ⟨k.os.trans h.os, k.tape.trans h.tape, k.output.trans h.output, Nat.le_trans h.size k.size, fun i hi hr => (k.block i (by have := h.size; omega) hr).trans (h.block i hi hr)⟩
theorem only_below {g : Nat} {w w' : World} (h : Below w.heap.size w w') : w.grownBy w' (some g) := ⟨h.os, h.tape, h.output, h.size, fun i hi _ => h.block i hi⟩
theorem renewed {g : Nat} {sa ca : Option Addr} {n sc m cc : Nat} {S : Nat → Sec} {C : Nat → Wr} {f : Int} {d : Bool} {w w1 w2 : World} {sa1 ca2 : Option Addr} {sc1 cc2 : Nat} (h : Has w g sa ca n sc m cc S C f d)
    (hb1 : Below w.heap.size w w1) (hs1 : w1.ownsRow w.heap.size 53 130 (.slice sa1 n sc1) n (flat (fun i => secV (S i)) n))
    (hb2 : Below w1.heap.size w1 w2) (hs2 : w2.ownsRow w1.heap.size 55 129 (.slice ca2 m cc2) m (flat (fun i => wrV (C i)) m)) :
    w.grownBy ((w2.setCell ⟨g, 0, none⟩ (.slice sa1 n sc1)).setCell ⟨g, 1, none⟩ (.slice ca2 m cc2)) (some g) ∧
    ∃ sa' sc' ca' cc', Mine ((w2.setCell ⟨g, 0, none⟩ (.slice sa1 n sc1)).setCell ⟨g, 1, none⟩ (.slice ca2 m cc2)) w.heap.size g sa' ca' n sc' m cc' S C f d := by
  have hlt := h.bx.lt
  have hb : Below w.heap.size w w2 := hb1.trans (hb2.mono hb1.size)
  refine ⟨only_trans (only_trans (only_below hb) (only_put _ _ _ _)) (only_put _ _ _ _), sa1, sc1, ca2, cc2, ((h.bx.below hb).s0 _).s1 _, owns_put (owns_put (owns_below hs1 hb2) hlt _ _) hlt _ _, ?_, hlt⟩
  have := hb1.size
  exact owns_put (owns_put (owns_mono hs2 this) hlt _ _) hlt _ _

set_option maxHeartbeats 1000000 in
theorem renew_any (g : Nat) (sa ca : Option Addr) (n sc m cc : Nat) (S : Nat → Sec) (C : Nat → Wr) (f : Int) (d : Bool) (w : World) (h : Has w g sa ca n sc m cc S C f d) :
    Calls Try.prog 13 #[.pointer (some ⟨g, 0, none⟩)] w fun e w' => (∃ v, e = .returned v) ∧ w.grownBy w' (some g) ∧ ∃ sa' sc' ca' cc', Mine w' w.heap.size g sa' ca' n sc' m cc' S C f d := by
  have HH := Lib.hid h
  have hg := h.bx.lt
  have d0 := h.bx.c0
  have d1 := h.bx.c1
  have f0 := h.bx.fr 0
  have f1 := h.bx.fr 1
  have hnb := h.nb
  have hmb := h.mb
  clear h
  go_enter Try.func13, Try.ntmps13
  go_wp2_with fail
  go_region_with (first
      | ((go_at_call 20; refine (cloneS_any g sa n sc S _ (by exact HH.out.ss.keep fun _ _ _ => rfl) (by omega)).mono ?_; rintro _ w1 ⟨sa1, sc1, rfl, hs1, hb1⟩; have k0 := (hb1.cell (p := ⟨g, 0, none⟩) hg).trans d0; have k1 := (hb1.cell (p := ⟨g, 1, none⟩) hg).trans d1; have hg1 : g < w1.heap.size := Nat.lt_of_lt_of_le hg hb1.size; have j0 := (hb1.frozen (p := ⟨g, 0, none⟩) hg).trans f0; have j1 := (hb1.frozen (p := ⟨g, 1, none⟩) hg).trans f1))
      | ((go_at_call 21; refine (cloneC_any g ca m cc C _ (by exact (HH.out.cs.keep (w' := w1) fun b hb _ => hb1.block b hb).more hb1.size) (by omega)).mono ?_; rintro _ w2 ⟨ca2, cc2, rfl, hs2, hb2⟩; have l0 := (hb2.cell (p := ⟨g, 0, none⟩) hg1).trans k0; have l1 := (hb2.cell (p := ⟨g, 1, none⟩) hg1).trans k1; have m0 := (hb2.frozen (p := ⟨g, 0, none⟩) hg1).trans j0; have m1 := (hb2.frozen (p := ⟨g, 1, none⟩) hg1).trans j1)))
  all_goals
    go_wp2_with fail
    go_end0
    first | exact ⟨⟨_, rfl⟩, renewed HH.out hb1 hs1 hb2 hs2⟩ | exact ⟨⟨_, rfl⟩, renewed HH.out (undrew hb1) hs1 hb2 hs2⟩

end Dk
end Go.Proofs.Ytlhncceajpdahaa
