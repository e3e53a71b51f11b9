/- Put, of the code; Bytes, of the reference; Same and Copy of entries; Same of bytes. -/
import Derived.Test.YtdilbicdaljfkaaEnR
import Derived.Lib.AppendStr
namespace Go.Proofs.Ytdilbicdaljfkaa
set_option maxRecDepth 20000
namespace En
open Go.RowKit Sha

theorem strC (x : T) : Lib.strCells ⟨x.toArray⟩ = bys (nb x) := by
  simp [Lib.strCells, bys, nb]
theorem und_u8s : Try.prog.underlying 25 = some (.slice 5) := by kernel_rfl
theorem und_str' : Try.prog.underlying 9 = some .string := by kernel_rfl
abbrev OwnB (w : World) (base : Nat) (v : Value) (xs : List Int) : Prop := w.ownsRow base 5 1 v xs.length (bys xs)
/-- append(v, s...), s a text -/
theorem wpList_appS {w : World} {ops : Array Oper} {rest : List Oper} {o : Oper} {a : Act} {Q : Exit → Act → World → Prop} (hgd : o.guard = none) (s x : Operand)
    (ho : o.op = .call { callee := .builtin .append, args := #[s, x], argTypes := #[25, 9] }) (base : Nat) (v : Value) (xs : List Int) (y : T) (hs : a.eval s = v) (hown : OwnB w base v xs)
    (hx : a.eval x = .string ⟨y.toArray⟩) (hlen : xs.length + y.length ≤ 140737488355328) (hbase : base ≤ w.heap.size)
    (h : ∀ v' w', OwnB w' base v' (xs ++ nb y) → Below base w w' → w.grownBy w' v.ownBlock → wpList Try.prog ops Q rest (a.put o.dst v') w') : wpList Try.prog ops Q (o :: rest) a w := by
  refine wpList_plain hgd fun K hK => ?_
  obtain ⟨i0, hi, hz0, hz1, hz2⟩ := info_parts bytes_info
  have hlt := World.ownsRow.lt hown
  obtain ⟨v', w', hr, h2, h3, _⟩ := Lib.run_append_own_string (P := Try.prog) w base 25 9 o.type 5 i0 und_u8s und_str' hi hz0 hz1 hz2 v xs.length (bys xs) hown ⟨y.toArray⟩ (by rw [size_mk]; unfold maxLen; omega) (by rw [size_mk]; omega) hbase
  unfold Oper.wp execOp
  simp only [ho, resolve, invoke, builtin, Sem.run_bind, Sem.run_pure, Result.andThen_ok, List.map_toArray, List.map_cons, List.map_nil, hs, hx, hr]
  refine hK _ _ (h v' w' ?_ ((Below.refl _ _).grown h3 hbase fun k hk => (hlt k hk).1) h3)
  unfold OwnB
  have e : (nb y).length = y.length := by simp [nb]
  rw [List.length_append, e, bys_append, ← strC, ← size_mk y]
  exact h2
/-- append(v, x...), v the call's own bytes, x new bytes -/
theorem wpList_appB {w : World} {ops : Array Oper} {rest : List Oper} {o : Oper} {a : Act} {Q : Exit → Act → World → Prop} (hgd : o.guard = none) (s x : Operand)
    (ho : o.op = .call { callee := .builtin .append, args := #[s, x], argTypes := #[25, 25] }) (base : Nat) (v : Value) (ys : List Int) (hs : a.eval s = v) (hown : OwnB w base v ys)
    (B : Nat) (ao : Option Addr) (cap : Nat) (xs : List Int) (n : Nat) (hn : n = xs.length) (hx : a.eval x = .slice ao n cap) (hl : Lies w B ao cap xs) (hlen : ys.length + xs.length ≤ 140737488355328) (hbase : base ≤ w.heap.size)
    (h : ∀ v' w', OwnB w' base v' (ys ++ xs) → Below base w w' → w.grownBy w' v.ownBlock → wpList Try.prog ops Q rest (a.put o.dst v') w') : wpList Try.prog ops Q (o :: rest) a w :=
  append_lies hgd s x ho base v ys hs hown B ao cap xs n hn hx hl hlen hbase fun v' w' h1 h2 =>
    h v' w' h1 ((Below.refl _ _).grown h2 hbase fun k hk => (World.ownsRow.lt hown k hk).1) h2
theorem lies_two (w : World) (p q : Int) {g : Nat} (hg : w.heap.size = g) : Lies (w.alloc (.cells #[.int .u8 p, .int .u8 q] 5)) (g + 1) (some ⟨g, 0, none⟩) 2 [p, q] := by
  subst hg
  refine ⟨Nat.le_refl _, (fun e => by cases e), fun _ => ⟨_, _, rfl, by simp, fun i hi => ?_⟩⟩
  rw [cell_of_row _ w.heap.size _ _ 5 _ (heap_alloc_new w _)]
  match i, hi with
  | 0, _ => rfl
  | 1, _ => rfl
theorem by_len : ∀ (l : List E), (∀ x ∈ l, x.1.length ≤ 24) → (byL l).length ≤ l.length * 26
  | [], _ => by simp [byL]
  | x :: l, h => by
    have := by_len l fun y hy => h y (by simp [hy])
    have h2 := h x (by simp)
    show (by1 x ++ byL l).length ≤ _
    rw [List.length_append, by1_len, List.length_cons]
    omega
theorem OwnB.alloc {w : World} {base : Nat} {v : Value} {xs : List Int} (h : OwnB w base v xs) (o : Obj) : OwnB (w.alloc o) base v xs := World.ownsRow.alloc h o
theorem OwnB.below {w w' : World} {base c : Nat} {v : Value} {xs : List Int} (h : OwnB w base v xs) (hb : Below c w w') (hc : w.heap.size ≤ c) : OwnB w' base v xs :=
  World.ownsRow.kept h (row := none) ⟨hb.os, hb.tape, hb.output, hb.size, fun i hi _ => hb.block i (by omega)⟩ (by
    cases e : v.ownBlock with
    | none => exact .inl rfl
    | some b => exact .inr (by simp))
theorem OwnB.slice {w : World} {base : Nat} {v : Value} {xs : List Int} (h : OwnB w base v xs) : ∃ ao cap, v = .slice ao xs.length cap ∧ Lies w w.heap.size ao cap xs := by
  rcases h.2 with ⟨h1, h2⟩ | ⟨g, cap, cur, h1, hb, hg, hn, _⟩
  · have e : xs = [] := List.eq_nil_of_length_eq_zero h2
    subst e
    exact ⟨none, 0, h1, ⟨Nat.le_refl _, fun _ => rfl, fun h => absurd rfl h⟩⟩
  · subst h1
    exact ⟨_, cap, rfl, lies_own h⟩
/-- the bytes of right entries, or none -/
def pE (l : List E) : Int := if rt l then 0 else 1
def pV (l : List E) : List Int := if rt l then byL l else []

set_option maxHeartbeats 4000000 in
theorem put_any (l : List E) (ao : Option Addr) (cap : Nat) (w : World) (h : LiesE w w.heap.size ao cap l) :
    Calls Try.prog 10 #[.slice ao l.length cap] w fun e w' => ∃ v, e = .returned (.tuple #[v, .int .i64 (pE l)]) ∧ OwnB w' w.heap.size v (pV l) ∧ Below w.heap.size w w' := by
  have HR := Lib.hid (right_any l ao cap w h)
  by_cases hr : rt l = true
  · have e1 : pE l = 0 := by simp [pE, hr]
    have e2 : pV l = byL l := by simp [pV, hr]
    rw [e1, e2]
    have hmem := rt_mem hr
    have hle := rt_len hr
    rw [hr] at HR
    clear e1 e2 hr
    go_enter Try.func10, Try.ntmps10
    go_wp2_with (go_at_call 11; refine HR.out.mono ?_; rintro _ W ⟨rfl, hbW⟩)
    go_loopw [4, 12] (fun v i wr => ∃ k : Nat, k ≤ l.length ∧ i = .int .i64 k ∧ Hid (OwnB wr w.heap.size v (byL (l.take k))) ∧ Below w.heap.size w wr) (fun _ i _ => l.length - (intOf i).toNat)
    case atStart => exact ⟨0, Nat.zero_le _, rfl, Lib.hid (World.ownsRow_nil _ _ _ _), hbW⟩
    case round =>
      obtain ⟨k, hk, rfl, HO, hb⟩ := hrel
      have hbs := hb.size
      by_cases hlt : k < l.length
      · obtain ⟨b, off, rfl, hbb, c0, c1⟩ := (h.below hb).get hlt
        have HNX := Lib.hid (byL_take hlt)
        obtain ⟨hv, hn1, hn2⟩ := hmem _ (List.getElem_mem hlt)
        have hvl := valid_len hv
        have hbl := by_len (l.take k) fun x hx => (valid_len (hmem x (List.mem_of_mem_take hx)).1).2
        rw [List.length_take] at hbl
        clear h hmem hv HR
        generalize l[k] = x at c0 c1 HNX hn1 hn2 hvl
        obtain ⟨x, n⟩ := x
        simp only at c0 c1 hn1 hn2 hvl
        have hw1 : IntKind.u8.wrap n = n := by rw [IntKind.wrap_u8]; omega
        have hw2 : IntKind.u8.wrap (x.length : Int) = (x.length : Int) := by rw [IntKind.wrap_u8]; omega
        have hO := HO.out
        go_wp2_with (first
          | (at_builtin; refine wpList_appB rfl (.tmp 16) (.tmp 24) rfl w.heap.size _ _ rfl ((hO.alloc _).alloc _) _ _ 2 [n, (x.length : Int)] 2 rfl rfl (lies_two _ n x.length (World.size_alloc _ _)) (by simp only [List.length_cons, List.length_nil]; omega) (by simp; omega) ?_
             intro v1 w1 hO1 hb1 hg1
             have hcx : w1.cell? ⟨wr.heap.size, 0, none⟩ = some (.string ⟨x.toArray⟩) := by
               rw [far hO hg1 ⟨wr.heap.size, 0, none⟩ (Nat.le_refl wr.heap.size) (by simp; omega), World.cell?_alloc_lt _ _ _ (by simp), cell_of_row _ _ _ _ _ _ (heap_alloc_new wr _)]
               rfl
             have hb2 := Lib.hid ((hb.alloc (by omega) _).alloc (by simp; omega) _ |>.trans hb1)
             have hs1 := hb1.size
             simp only [World.size_alloc] at hs1
             clear hb1)
          | (at_builtin; refine wpList_appS rfl (.tmp 26) (.tmp 28) rfl w.heap.size _ _ x rfl hO1 rfl (by simp only [List.length_append, List.length_cons, List.length_nil]; omega) (by omega) ?_
             intro v2 w2 hO2 hb3 hg2)
          | go_in)
        go_roundw
        case rel => exact ⟨k + 1, by omega, by go_num, Lib.hid (by rw [HNX.out]; rw [List.append_assoc] at hO2; exact hO2), hb2.out.trans hb3⟩
        case measure => simp [intOf]; omega
      · obtain rfl : k = l.length := by omega
        have hO := HO.out
        rw [List.take_length] at hO
        have HO2 := Lib.hid hO
        clear HO hO
        go_wp2
        refine bodyPost_ret (results_2 rfl rfl rfl) rfl ?_
        exact ⟨_, rfl, HO2.out, hb⟩
  · have hr' : rt l = false := by simpa using hr
    have e1 : pE l = 1 := by simp [pE, hr']
    have e2 : pV l = [] := by simp [pV, hr']
    rw [e1, e2]
    rw [hr'] at HR
    go_enter Try.func10, Try.ntmps10
    go_wp2_with (go_at_call 11; refine HR.out.mono ?_; rintro _ W ⟨rfl, hbW⟩)
    refine bodyPost_ret (results_2 rfl rfl rfl) rfl ?_
    exact ⟨_, rfl, World.ownsRow_nil _ _ _ _, hbW⟩
end En
end Go.Proofs.Ytdilbicdaljfkaa
