/- disk: the reference's Copy; the law's twins. -/
import Derived.Test.YtllejfnmbpjhaaaDoorDkSame
namespace Go.Proofs.YtllejfnmbpjhaaaDoor
set_option maxRecDepth 20000
namespace Dk
open Go.RowKit

/-- append([]Write{}, s...) -/
theorem fresh_wr {w : World} {ops : Array Oper} {rest : List Oper} {o : Oper} {a : Act} {Q : Exit → Act → World → Prop} (hgd : o.guard = none) (s x : Operand)
    (ho : o.op = .call { callee := .builtin .append, args := #[s, x], argTypes := #[33, 33] }) (g : Nat) (ao : Option Addr) (n cap : Nat) (C : Nat → Wr)
    (hs : a.eval s = .slice (some ⟨w.heap.size, 0, none⟩) 0 0) (hx : a.eval x = .slice ao n cap) (hl : Lay w w.heap.size g ao n cap 129 (fun i => wrV (C i))) (hn : n * 136 ≤ 140737488355328)
    (h : ∀ v' w', w'.ownsRow w.heap.size 104 129 v' n (flat (fun i => wrV (C i)) n) → Below w.heap.size w w' → wpList Tryd.prog ops Q rest (a.put o.dst v') w') : wpList Tryd.prog ops Q (o :: rest) a (w.alloc (.cells #[] 104)) := by
  obtain ⟨i0, hi, hz0, hz1, hz2⟩ := info_parts info_wr
  refine append_lay hgd s x 33 104 i0 _ 129 136 ho slice_wr hi hz0 hz1 hz2 (by rw [show (Value.agg (wrV wr0).toArray).cells = (wrV wr0).toArray from rfl, List.size_toArray, wrV_length]) (by omega) w.heap.size _ [] 0 hs (World.ownsRow_lit w #[] 0 (Nat.le_refl _) (by decide) rfl) w.heap.size g ao n cap (fun i => wrV (C i)) hx (hl.keep fun b hb _ => Below.heap_alloc _ _ _ hb) (fun i _ => wrV_length _) (fun i _ => wrV_one _) (maxLen_ge (by omega)) (by omega) (by simp) ?_
  intro v' w' hown hg
  refine h v' w' (by simpa using hown) (((Below.refl _ _).alloc (Nat.le_refl _) _).grown hg (by simp) ?_)
  intro k hk
  injection hk with hk
  subst hk
  exact Nat.le_refl _
theorem fresh_wrN {w : World} {N : Nat} (hN : w.heap.size = N) {ops : Array Oper} {rest : List Oper} {o : Oper} {a : Act} {Q : Exit → Act → World → Prop} (hgd : o.guard = none) (s x : Operand)
    (ho : o.op = .call { callee := .builtin .append, args := #[s, x], argTypes := #[33, 33] }) (g : Nat) (ao : Option Addr) (n cap : Nat) (C : Nat → Wr)
    (hs : a.eval s = .slice (some ⟨N, 0, none⟩) 0 0) (hx : a.eval x = .slice ao n cap) (hl : Lay w w.heap.size g ao n cap 129 (fun i => wrV (C i))) (hn : n * 136 ≤ 140737488355328)
    (h : ∀ v' w', w'.ownsRow w.heap.size 104 129 v' n (flat (fun i => wrV (C i)) n) → Below w.heap.size w w' → wpList Tryd.prog ops Q rest (a.put o.dst v') w') : wpList Tryd.prog ops Q (o :: rest) a (w.alloc (.cells #[] 104)) := by
  subst hN
  exact fresh_wr hgd s x ho g ao n cap C hs hx hl hn h
theorem fresh_secN {w : World} {N : Nat} (hN : w.heap.size = N) {ops : Array Oper} {rest : List Oper} {o : Oper} {a : Act} {Q : Exit → Act → World → Prop} (hgd : o.guard = none) (s x : Operand)
    (ho : o.op = .call { callee := .builtin .append, args := #[s, x], argTypes := #[32, 32] }) (g : Nat) (ao : Option Addr) (n cap : Nat) (S : Nat → Sec)
    (hs : a.eval s = .slice (some ⟨N, 0, none⟩) 0 0) (hx : a.eval x = .slice ao n cap) (hl : Lay w w.heap.size g ao n cap 130 (fun i => secV (S i))) (hn : n * 130 ≤ 140737488355328)
    (h : ∀ v' w', w'.ownsRow w.heap.size 56 130 v' n (flat (fun i => secV (S i)) n) → Below w.heap.size w w' → wpList Tryd.prog ops Q rest (a.put o.dst v') w') : wpList Tryd.prog ops Q (o :: rest) a (w.alloc (.cells #[] 56)) := by
  subst hN
  exact fresh_sec hgd s x ho g ao n cap S hs hx hl hn h
theorem disk_one (a b : Option Addr) (n c m e : Nat) (f : Int) (d : Bool) : (#[.slice a n c, .slice b m e, .int .i64 f, .bool d] : Array Value).all (·.oneCell') = true := by simp [Value.oneCell']
theorem owns_slice {w : World} {B : Nat} {e : TypeId} {k n : Nat} {v : Value} {xs : List Value} (h : w.ownsRow B e k v n xs) : ∃ ao cap, v = .slice ao n cap := by
  rcases h.2 with ⟨hv, hn⟩ | ⟨b, cap', cur, hv, _⟩
  · exact ⟨none, 0, by rw [hv, hn]⟩
  · exact ⟨_, cap', hv⟩

/-- a copy: its lists are new -/
def Copied (w : World) (n m : Nat) (S : Nat → Sec) (C : Nat → Wr) (f : Int) (d : Bool) (v : Value) (w' : World) : Prop :=
  ∃ sa sc ca cc, v = .agg #[.slice sa n sc, .slice ca m cc, .int .i64 f, .bool d] ∧ w'.ownsRow w.heap.size 56 130 (.slice sa n sc) n (flat (fun i => secV (S i)) n) ∧ w'.ownsRow w.heap.size 104 129 (.slice ca m cc) m (flat (fun i => wrV (C i)) m)

set_option maxRecDepth 100000 in
set_option maxHeartbeats 1000000 in
theorem copy_any (sa ca : Option Addr) (n sc m cc g : Nat) (S : Nat → Sec) (C : Nat → Wr) (f : Int) (d : Bool) (w : World) (nb : n * 130 ≤ 140737488355328) (mb : m * 136 ≤ 140737488355328)
    (hs : Lay w w.heap.size g sa n sc 130 (fun i => secV (S i))) (hc : Lay w w.heap.size g ca m cc 129 (fun i => wrV (C i))) :
    Calls Tryd.prog 16 #[.agg #[.slice sa n sc, .slice ca m cc, .int .i64 f, .bool d]] w fun e w' => ∃ v, e = .returned v ∧ Copied w n m S C f d v w' ∧ Below w.heap.size w w' := by
  have HS := Lib.hid hs
  have HC := Lib.hid hc
  clear hs hc
  go_enter Tryd.func16, Tryd.ntmps16
  have hW : ∀ W, W = (w.alloc (.cells #[.slice sa n sc, .slice ca m cc, .int .i64 f, .bool d] 35)).alloc (.cells #[.slice none 0 0, .slice none 0 0, .int .i64 0, .bool false] 35) →
      Below w.heap.size w W ∧ W.heap.size = w.heap.size + 1 + 1 ∧ Bx W w.heap.size (.slice sa n sc) (.slice ca m cc) (.int .i64 f) (.bool d) ∧ Bx W (w.heap.size + 1) (.slice none 0 0) (.slice none 0 0) (.int .i64 0) (.bool false) := by
    rintro W rfl
    refine ⟨((Below.refl _ _).alloc (Nat.le_refl _) _).alloc (by simp) _, by simp, (Below.heap_alloc _ _ _ (by simp)).trans (heap_alloc_new w _), ?_⟩
    have := heap_alloc_new (w.alloc (.cells #[.slice sa n sc, .slice ca m cc, .int .i64 f, .bool d] 35)) (.cells #[.slice none 0 0, .slice none 0 0, .int .i64 0, .bool false] 35)
    unfold Bx
    simpa using this
  obtain ⟨hb0, hs0, bx, bR⟩ := hW _ rfl
  clear hW
  go_wp2_with (first
    | (at_builtin; refine fresh_secN (by simp) rfl (.tmp 3) (.tmp 5) rfl g sa n sc S rfl rfl ((HS.out.below hb0).more hb0.size) nb ?_; intro v1 w1 hs1 hb1
       obtain ⟨sa1, sc1, rfl⟩ := owns_slice hs1
       have bx1 := bx.below hb1
       have bR1 := bR.below hb1
       have hb1' : Below w.heap.size w w1 := hb0.trans (hb1.mono hb0.size)
       have hs1' := owns_mono hs1 (show w.heap.size + 1 + 1 ≤ _ by simp)
       have hg1 := bx1.lt
       have k0 := bx1.c0
       have k1 := bx1.c1
       have kf := bx1.fr 0
       have hsz1 := hb1.size
       clear bx bR hs1 hb1)
    | (at_builtin; (refine fresh_wrN (N := w1.heap.size) (by simp) rfl (.tmp 8) (.tmp 10) rfl g ca m cc C rfl rfl ((HC.out.keep (w' := w1.setCell ⟨w.heap.size, 0, none⟩ (.slice sa1 n sc1)) fun b hb _ => (Below.heap_setCell _ _ _ _ (show b ≠ w.heap.size by omega)).trans (hb1'.block b hb)).more (by simp; have := hb1'.size; omega)) mb ?_); intro v2 w2 hs2 hb2
       obtain ⟨ca2, cc2, rfl⟩ := owns_slice hs2
       have bx2 := (bx1.s0 (.slice sa1 n sc1)).below hb2
       have bR2 := (bR1.block (w' := w1.setCell ⟨w.heap.size, 0, none⟩ (.slice sa1 n sc1)) (Below.heap_setCell _ _ _ _ (show w.heap.size + 1 ≠ w.heap.size by omega))).below hb2
       have hs3 := owns_below (owns_put hs1' (by omega) 0 (.slice sa1 n sc1)) hb2
       have hb3 : Below w.heap.size w w2 := (hb1'.setCell (p := ⟨w.heap.size, 0, none⟩) (Nat.le_refl _) (.slice sa1 n sc1)).trans (hb2.mono (by simp; exact hb1'.size))
       have hs4 := owns_mono hs2 (show w.heap.size + 1 + 1 ≤ _ by simp; omega)
       have l0 := bx2.c0
       have l1 := bx2.c1
       have l2 := bx2.c2
       have l3 := bx2.c3
       have lf1 := bx2.fr 1
       have bR3 : Bx (w2.setCell ⟨w.heap.size, 1, none⟩ (.slice ca2 m cc2)) (w.heap.size + 1) (.slice none 0 0) (.slice none 0 0) (.int .i64 0) (.bool false) := bR2.block (Below.heap_setCell _ _ _ _ (show w.heap.size + 1 ≠ w.heap.size by omega))
       clear hs2 hb2 k0 k1 kf)
    | ((refine wpList_store_row rfl 35 (.tmp 2) (.tmp 13) rfl (w.heap.size + 1) #[.slice sa1 n sc1, .slice ca2 m cc2, .int .i64 f, .bool d] rfl rfl 35 _ bR3 (by kernel_rfl) rfl (disk_one _ _ _ _ _ _ _ _) ?_); simp only [Act.put]))
  have hrow := setRow_heap (w2.setCell ⟨w.heap.size, 1, none⟩ (.slice ca2 m cc2)) (w.heap.size + 1) _ #[.slice sa1 n sc1, .slice ca2 m cc2, .int .i64 f, .bool d] 35 (0, 0) bR3
  refine bodyPost_ret (results_cell_row rfl _ _ (w.heap.size + 1) 35 _ (0, 0) _ rfl hrow Tryd.underlying35 rfl (by kernel_rfl)) rfl ?_
  have hrg : ∀ (W : World) cells, W.grownBy (W.setRow (w.heap.size + 1) cells) (some (w.heap.size + 1)) := fun W cells => ⟨rfl, rfl, rfl, by simp, fun k _ hr => setRow_other _ _ _ _ (by simpa using hr)⟩
  have hP : ∀ {W : World} {e : TypeId} {k n : Nat} {v : Value} {xs : List Value}, W.ownsRow (w.heap.size + 1 + 1) e k v n xs → ∀ cells, (W.setRow (w.heap.size + 1) cells).ownsRow w.heap.size e k v n xs := fun {W} {e} {k} {n} {v} {xs} h cells => owns_mono (h.kept (hrg W cells) (by
    cases e' : v.ownBlock with
    | none => exact .inl rfl
    | some b => exact .inr fun hb => by injection hb with hb; have := (h.lt b e').1; omega)) (by omega)
  refine ⟨_, rfl, ⟨sa1, sc1, ca2, cc2, rfl, hP (owns_put hs3 (by omega) 1 (.slice ca2 m cc2)) _, hP (owns_put hs4 (by omega) 1 (.slice ca2 m cc2)) _⟩, ?_⟩
  exact (hb3.setCell (p := ⟨w.heap.size, 1, none⟩) (Nat.le_refl _) _).grown (hrg _ _) (by simp; exact hb3.size) (fun k hk => by injection hk with hk; omega)

/-- while twins copies, in whatever order -/
def TInv (x0 x1 : Value) (B0 A B : Nat) (n m : Nat) (S : Nat → Sec) (C : Nat → Wr) (f : Int) (d : Bool) (dv : Value) (W : World) (L : Nat → Bool) (a : Act) (w' : World) : Prop :=
  ∃ u0 u1 u2 u3 cA cB, a = { tmps := #[x0, x1, .pointer (some ⟨A, 0, none⟩), .pointer (some ⟨B, 0, none⟩), u0, u1, u2, u3], defers := [] } ∧ (L 0 = true → u0 = dv) ∧ (L 1 = true → Copied W n m S C f d u1 w') ∧ (L 2 = true → u2 = dv) ∧ (L 3 = true → Copied W n m S C f d u3 w') ∧ Below B0 W w' ∧ W.heap.size ≤ w'.heap.size ∧
    w'.heap[A]? = some (.cells cA 35 (0, 0)) ∧ cA.size = 4 ∧ (L 4 = true → L 1 = true ∧ u1 = .agg cA) ∧ w'.heap[B]? = some (.cells cB 35 (0, 0)) ∧ cB.size = 4 ∧ (L 5 = true → L 3 = true ∧ u3 = .agg cB)
theorem Copied.below {w w' w'' : World} {n m : Nat} {S : Nat → Sec} {C : Nat → Wr} {f : Int} {d : Bool} {v : Value} (h : Copied w n m S C f d v w') (hb : Below w'.heap.size w' w'') : Copied w n m S C f d v w'' := by
  obtain ⟨sa, sc, ca, cc, e, h1, h2⟩ := h
  exact ⟨sa, sc, ca, cc, e, owns_below h1 hb, owns_below h2 hb⟩
theorem Copied.mono {w0 w w' : World} {n m : Nat} {S : Nat → Sec} {C : Nat → Wr} {f : Int} {d : Bool} {v : Value} (h : Copied w n m S C f d v w') (hb : w0.heap.size ≤ w.heap.size) : Copied w0 n m S C f d v w' := by
  obtain ⟨sa, sc, ca, cc, e, h1, h2⟩ := h
  exact ⟨sa, sc, ca, cc, e, owns_mono h1 hb, owns_mono h2 hb⟩
theorem keepT {L : Nat → Bool} {i j : Nat} {P : Prop} (h : L j = true → P) (hij : (j == i) = false) : (j == i || L j) = true → P := by rw [hij, Bool.false_or]; exact h

theorem results_two {tmps : Array Value} {w : World} {A B : Nat} {u v : Array Value} {fn : Func} (hf : fn.results = #[.cell 2 35, .cell 3 35]) (h2 : tmps.getD 2 undef = .pointer (some ⟨A, 0, none⟩)) (h3 : tmps.getD 3 undef = .pointer (some ⟨B, 0, none⟩))
    (hA : w.heap[A]? = some (.cells u 35 (0, 0))) (hB : w.heap[B]? = some (.cells v 35 (0, 0))) (su : u.size = 4) (sv : v.size = 4) : (results fn tmps).run Tryd.prog w = .ok (.tuple #[.agg u, .agg v]) w := by
  have h2' : tmps[2]?.getD undef = .pointer (some ⟨A, 0, none⟩) := by simpa using h2
  have h3' : tmps[3]?.getD undef = .pointer (some ⟨B, 0, none⟩) := by simpa using h3
  have k2 := run_loadVar_row (P := Tryd.prog) w A 35 35 u (0, 0) _ hA Tryd.underlying35 rfl (by rw [su]; kernel_rfl)
  have k3 := run_loadVar_row (P := Tryd.prog) w B 35 35 v (0, 0) _ hB Tryd.underlying35 rfl (by rw [sv]; kernel_rfl)
  simp [results, hf, h2', h3', asAddr, k2, k3]

end Dk
end Go.Proofs.YtllejfnmbpjhaaaDoor
