/- Lists of texts in memory: what the call owns, what it reads, what it appends; Same of them. -/
import Derived.Test.YtdilbicdaljfkaaEnQ
namespace Go.Proofs.Ytdilbicdaljfkaa
set_option maxRecDepth 20000
namespace En
open Go.RowKit

theorem str_info : (Try.prog.info? 9).map (fun i => (i.zero, i.size, i.bytes)) = some (some (.string ByteArray.empty), 1, 16) := by kernel_rfl
theorem und_strs : Try.prog.underlying 40 = some (.slice 9) := by kernel_rfl
def strs (xs : List T) : List Value := xs.map fun l => Value.string ⟨l.toArray⟩
theorem strs_len (xs : List T) : (strs xs).length = xs.length := by simp [strs]
theorem strs_app (xs ys : List T) : strs (xs ++ ys) = strs xs ++ strs ys := by simp [strs]
theorem strs_one (xs : List T) : ∀ u ∈ strs xs, u.oneCell' = true := by
  intro u hu
  obtain ⟨x, _, rfl⟩ := List.mem_map.1 hu
  rfl
theorem strs_get {xs : List T} {i : Nat} {x : T} (h : xs[i]? = some x) : (strs xs)[i]? = some (.string ⟨x.toArray⟩) := by simp [strs, h]
/-- v is a slice of these texts, the call's own -/
def Own (w : World) (base : Nat) (v : Value) (xs : List T) : Prop := w.ownsRow base 9 1 v xs.length (strs xs)
theorem Own.nil (w : World) (base : Nat) : Own w base (.slice none 0 0) [] := World.ownsRow_nil _ _ _ _
/-- these texts are read there; they lie below block b -/
structure At (w : World) (b : Nat) (ao : Option Addr) (cap : Nat) (xs : List T) : Prop where
  room : xs.length ≤ cap
  cells : xs ≠ [] → ∃ g, ao = some ⟨g, 0, none⟩ ∧ g < b ∧ ∀ i x, xs[i]? = some x → w.cell? ⟨g, i, none⟩ = some (.string ⟨x.toArray⟩)
theorem At.below {w w' : World} {b c cap : Nat} {ao : Option Addr} {xs : List T} (h : At w b ao cap xs) (hb : Below c w w') (hc : b ≤ c) : At w' b ao cap xs :=
  ⟨h.room, fun hx => by
    obtain ⟨g, h1, h2, h3⟩ := h.cells hx
    exact ⟨g, h1, h2, fun i x hi => (hb.cell (p := ⟨g, i, none⟩) (show g < c by omega)).trans (h3 i x hi)⟩⟩
theorem At.more {w : World} {b c cap : Nat} {ao : Option Addr} {xs : List T} (h : At w b ao cap xs) (hc : b ≤ c) : At w c ao cap xs :=
  ⟨h.room, fun hx => by
    obtain ⟨g, h1, h2, h3⟩ := h.cells hx
    exact ⟨g, h1, by omega, h3⟩⟩
theorem At.get {w : World} {b cap : Nat} {ao : Option Addr} {xs : List T} (h : At w b ao cap xs) {i : Nat} (hi : i < xs.length) : ∃ g, ao = some ⟨g, 0, none⟩ ∧ g < b ∧ w.cell? ⟨g, i, none⟩ = some (.string ⟨xs[i].toArray⟩) := by
  obtain ⟨g, h1, h2, h3⟩ := h.cells (by intro e; rw [e] at hi; simp at hi)
  exact ⟨g, h1, h2, h3 i _ (List.getElem?_eq_getElem hi)⟩
theorem Own.slice {w : World} {base : Nat} {v : Value} {xs : List T} (h : Own w base v xs) : ∃ ao cap, v = .slice ao xs.length cap ∧ At w w.heap.size ao cap xs ∧ (∀ g, ao = some g → base ≤ g.block) ∧ (ao = none → cap = 0) := by
  have hc := fun (g : Nat) (hg : v.ownBlock = some g) => World.ownsRow.cells h hg
  rcases h.2 with ⟨h1, h2⟩ | ⟨g, cap, cur, h1, hb, hg, hn, _⟩
  · have e : xs = [] := List.eq_nil_of_length_eq_zero h2
    subst e
    exact ⟨none, 0, h1, ⟨Nat.le_refl _, fun h => absurd rfl h⟩, fun g hg => (by cases hg), fun _ => rfl⟩
  · refine ⟨_, cap, h1, ⟨hn, fun _ => ⟨g, rfl, (Array.getElem?_eq_some_iff.1 hg).1, fun i x hi => ?_⟩⟩, fun g hg => (by cases hg; exact hb), fun h => (by cases h)⟩
    have := hc g (by rw [h1]; rfl) i _ (strs_get hi)
    rwa [show (⟨g, 0, none⟩ : Addr).add i = ⟨g, i, none⟩ by unfold Addr.add; split <;> simp_all] at this
theorem Own.alloc {w : World} {base : Nat} {v : Value} {xs : List T} (h : Own w base v xs) (o : Obj) : Own (w.alloc o) base v xs := World.ownsRow.alloc h o
theorem Own.below {w w' : World} {base c : Nat} {v : Value} {xs : List T} (h : Own w base v xs) (hb : Below c w w') (hc : w.heap.size ≤ c) : Own w' base v xs :=
  World.ownsRow.kept h (row := none) ⟨hb.os, hb.tape, hb.output, hb.size, fun i hi _ => hb.block i (by omega)⟩ (by
    cases e : v.ownBlock with
    | none => exact .inl rfl
    | some b => exact .inr (by simp))
theorem Own.less {w : World} {base base' : Nat} {v : Value} {xs : List T} (h : Own w base v xs) (hb : base' ≤ base) : Own w base' v xs :=
  ⟨h.1, h.2.imp id fun ⟨g, cap, cur, hv, hg, r⟩ => ⟨g, cap, cur, hv, Nat.le_trans hb hg, r⟩⟩
/-- append(v, y), v the call's own -/
theorem run_app {w : World} {base : Nat} {v : Value} {xs : List T} (ty : TypeId) (hown : Own w base v xs) (y : T) (g c : Nat) (hy : w.cell? ⟨g, 0, none⟩ = some (.string ⟨y.toArray⟩)) (hlen : (xs.length + 1) * 16 ≤ 140737488355328) (hbase : base ≤ w.heap.size) :
    ∃ v' w', (Builtin.append_ #[40, 40] ty #[v, .slice (some ⟨g, 0, none⟩) 1 c]).run Try.prog w = .ok v' w' ∧ Own w' base v' (xs ++ [y]) ∧ Below base w w' := by
  obtain ⟨i0, hi, hz0, hz1, hz2⟩ := info_parts str_info
  have hlt := World.ownsRow.lt hown
  obtain ⟨v', w', h1, h2, h3, _⟩ := run_append_own (P := Try.prog) w base 40 ty 9 i0 _ 1 16 und_strs hi hz0 hz1 hz2 rfl (by decide) v xs.length (strs xs) hown ⟨g, 0, none⟩ 1 c [.string ⟨y.toArray⟩] rfl
    (fun j u hj => by
      match j, hj with
      | 0, hj => simp at hj; subst hj; simpa [Addr.add] using hy)
    (fun u hu => by simp at hu; subst hu; rfl) (by unfold maxLen; omega) (by omega) hbase
  refine ⟨v', w', h1, ?_, (Below.refl _ _).grown h3 hbase fun k hk => (hlt k hk).1⟩
  unfold Own
  rw [List.length_append, strs_app]
  exact h2
theorem wpList_app {w : World} {ops : Array Oper} {rest : List Oper} {o : Oper} {a : Act} {Q : Exit → Act → World → Prop} (hgd : o.guard = none) (s x : Operand)
    (ho : o.op = .call { callee := .builtin .append, args := #[s, x], argTypes := #[40, 40] }) (base : Nat) (v : Value) (xs : List T) (hs : a.eval s = v) (hown : Own w base v xs)
    (y : T) (g c : Nat) (hx : a.eval x = .slice (some ⟨g, 0, none⟩) 1 c) (hy : w.cell? ⟨g, 0, none⟩ = some (.string ⟨y.toArray⟩)) (hlen : (xs.length + 1) * 16 ≤ 140737488355328) (hbase : base ≤ w.heap.size)
    (h : ∀ v' w', Own w' base v' (xs ++ [y]) → Below base w w' → wpList Try.prog ops Q rest (a.put o.dst v') w') : wpList Try.prog ops Q (o :: rest) a w := by
  refine wpList_plain hgd fun K hK => ?_
  obtain ⟨v', w', hr, h2, h3⟩ := run_app o.type hown y g c hy hlen hbase
  unfold Oper.wp execOp
  simp only [ho, resolve, invoke, builtin, Sem.run_bind, Sem.run_pure, Result.andThen_ok, List.map_toArray, List.map_cons, List.map_nil, hs, hx, hr]
  exact hK _ _ (h v' w' h2 h3)
set_option maxHeartbeats 2000000 in
theorem sameT_any (xs ys : List T) (ao bo : Option Addr) (cap c2 : Nat) (w : World) (hx : At w w.heap.size ao cap xs) (hy : At w w.heap.size bo c2 ys) (hn : xs.length ≤ 140737488355328) (hm : ys.length ≤ 140737488355328) :
    Calls Try.prog 21 #[.slice ao xs.length cap, .slice bo ys.length c2] w fun e w' => e = .returned (.bool (decide (xs = ys))) ∧ Below w.heap.size w w' := by
  by_cases hl : xs.length = ys.length
  · have HS : Hid ((∀ k, (h : k < xs.length) → (h2 : k < ys.length) → xs[k] = ys[k]) → decide (xs = ys) = true) := Lib.hid fun h => by
      simp only [decide_eq_true_eq]
      exact List.ext_getElem hl h
    have HD : Hid (∀ k, (h : k < xs.length) → (h2 : k < ys.length) → xs[k] ≠ ys[k] → decide (xs = ys) = false) := Lib.hid fun k h h2 hne => by
      simp only [decide_eq_false_iff_not]
      rintro rfl
      exact hne rfl
    generalize decide (xs = ys) = R at HS HD
    rw [← hl]
    have HL := Lib.hid hl
    clear hl hm
    go_enter Try.func21, Try.ntmps21
    go_wp2
    go_loopw [5] (fun i wr => ∃ k : Nat, k ≤ xs.length ∧ i = .int .i64 k ∧ Hid (∀ j, (h : j < xs.length) → (h2 : j < ys.length) → j < k → xs[j] = ys[j]) ∧ Below w.heap.size w wr) (fun i _ => xs.length - (intOf i).toNat)
    case atStart => exact ⟨0, Nat.zero_le _, rfl, Lib.hid (fun j _ _ h => by omega), Below.refl _ _⟩
    case round =>
      obtain ⟨k, hk, rfl, HC, hb⟩ := hrel
      by_cases hlt : k < xs.length
      · have hlt2 : k < ys.length := by have := HL.out; omega
        obtain ⟨g, rfl, hg, hcx⟩ := (hx.below hb (Nat.le_refl _)).get hlt
        obtain ⟨g2, rfl, hg2, hcy⟩ := (hy.below hb (Nat.le_refl _)).get hlt2
        have HD2 := Lib.hid (HD.out k hlt hlt2)
        have HC2 : Hid (xs[k] = ys[k] → ∀ j, (h : j < xs.length) → (h2 : j < ys.length) → j < k + 1 → xs[j] = ys[j]) := Lib.hid fun e j h h2 hj => by
          by_cases e2 : j = k
          · subst e2; exact e
          · exact HC.out j h h2 (by omega)
        clear hx hy HC HD
        generalize xs[k] = x at hcx HD2 HC2
        generalize ys[k] = y at hcy HD2 HC2
        by_cases hxy : x = y
        · subst hxy
          go_wp2
          go_quiet (fail)
          go_wp2
          go_roundw
          case rel => exact ⟨k + 1, by omega, by go_num, Lib.hid (HC2.out trivial), below_drewN hb nq⟩
          case measure => simp [intOf]; omega
        · have h1 : (x == y) = false := by simp [hxy]
          go_wp2
          go_quiet (fail)
          go_wp2
          go_ret
          exact ⟨by rw [HD2.out hxy]; rfl, below_drewN hb nq⟩
      · have hR := HS.out fun j h h2 => HC.out j h h2 (by omega)
        clear hx hy HC HD HS
        subst hR
        go_wp2
        go_ret
        exact ⟨rfl, hb⟩
  · have hR : decide (xs = ys) = false := by
      simp only [decide_eq_false_iff_not]
      rintro rfl
      exact hl rfl
    rw [hR]
    have hli : ¬ ((xs.length : Nat) : Int) = (ys.length : Int) := by omega
    go_enter Try.func21, Try.ntmps21
    go_wp2
    go_ret
    exact ⟨rfl, Below.refl _ _⟩
end En
end Go.Proofs.Ytdilbicdaljfkaa
