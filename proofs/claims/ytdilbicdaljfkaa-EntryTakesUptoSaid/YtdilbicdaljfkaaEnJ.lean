/- Entries written in place; lists of them joined. -/
import Derived.Test.YtdilbicdaljfkaaEnC
import Derived.Lib.AppendZerosOnto
namespace Go.Proofs.Ytdilbicdaljfkaa
set_option maxRecDepth 20000
namespace En
open Go.RowKit Sha

theorem ecs_set0 : ∀ {l : List E} {i : Nat} {x : E} (y : T), l[i]? = some x → (ecs l).set (i * 2) (.string ⟨y.toArray⟩) = ecs (l.set i (y, x.2))
  | [], i, x, y, h => by simp at h
  | z :: l, 0, x, y, h => by simp at h; subst h; rfl
  | z :: l, i + 1, x, y, h => by
    simp at h
    rw [show (i + 1) * 2 = i * 2 + 2 by omega]
    show .string _ :: .int .i64 _ :: (ecs l).set (i * 2) _ = .string _ :: .int .i64 _ :: ecs (l.set i _)
    rw [ecs_set0 y h]
theorem ecs_set1 : ∀ {l : List E} {i : Nat} {x : E} (y : Int), l[i]? = some x → (ecs l).set (i * 2 + 1) (.int .i64 y) = ecs (l.set i (x.1, y))
  | [], i, x, y, h => by simp at h
  | z :: l, 0, x, y, h => by simp at h; subst h; rfl
  | z :: l, i + 1, x, y, h => by
    simp at h
    rw [show (i + 1) * 2 + 1 = i * 2 + 1 + 2 by omega]
    show .string _ :: .int .i64 _ :: (ecs l).set (i * 2 + 1) _ = .string _ :: .int .i64 _ :: ecs (l.set i _)
    rw [ecs_set1 y h]
theorem own_set {w : World} {base g n cap : Nat} {l m : List E} {j : Nat} {v : Value} (h : OwnE w base (.slice (some ⟨g, 0, none⟩) n cap) l) (hm : (ecs l).set j v = ecs m) (hl : m.length = l.length) : OwnE (w.setCell ⟨g, j, none⟩ v) base (.slice (some ⟨g, 0, none⟩) n cap) m := by
  have hlen := h.1
  rcases h.2 with ⟨h1, _⟩ | ⟨g', cap', cur, h1, hb, hg, h3, h4, h5, h6⟩
  · cases h1
  · injection h1 with e1 e2 e3
    injection e1 with e1
    injection e1 with e1
    subst e1 e3
    refine ⟨by rw [ecs_len], .inr ⟨g, cap, cur.setIfInBounds j v, by rw [hl, e2], hb, ?_, by omega, h4, by simpa using h5, ?_⟩⟩
    · simp only [World.setCell, Array.getElem?_modify, if_pos rfl, hg]
      rfl
    · rw [← hm, ← h6, hl]
      simp [List.take_set]
theorem set_below {w0 w : World} {c : Nat} (hb : Below c w0 w) {p : Addr} (hp : c ≤ p.block) (v : Value) : Below c w0 (w.setCell p v) :=
  ⟨hb.os, hb.tape, hb.output, by simpa [World.setCell] using hb.size, fun i hi => by
    rw [← hb.block i hi]
    simp only [World.setCell, Array.getElem?_modify]
    rw [if_neg (by omega)]⟩

/-- append(nil, make(n)..) -/
theorem wpList_growE {w : World} {ops : Array Oper} {rest : List Oper} {o : Oper} {a : Act} {Q : Exit → Act → World → Prop} (hgd : o.guard = none) (s x : Operand)
    (ho : o.op = .call { callee := .builtin .append, args := #[s, x], argTypes := #[22, 3] }) (hs : a.eval s = .slice none 0 0) (k : Nat) (hx : a.eval x = .int .i64 k) (h0 : 0 < k) (hk : k ≤ 1000000)
    (h : ∀ cap w', OwnE w' w.heap.size (.slice (some ⟨w.heap.size, 0, none⟩) 0 cap) [] → k ≤ cap → Below w.heap.size w w' → wpList Try.prog ops Q rest (a.put o.dst (.slice (some ⟨w.heap.size, 0, none⟩) k cap)) w') : wpList Try.prog ops Q (o :: rest) a w := by
  refine wpList_plain hgd fun K hK => ?_
  obtain ⟨i0, hi, hz0, hz1, hz2⟩ := info_parts inf_ent
  have hge := grownCap_ge w (0 + k) 0 44
  have hcm : grownCap w (0 + k) 0 44 ≤ maxLen := grownCap_le_maxLen w (0 + k) 0 44 (by unfold maxLen; omega)
  have hr := Lib.run_append_grow_zeros (P := Try.prog) w 22 3 o.type 44 i0 _ .i64 .i64 und_ents (by kernel_rfl) hi hz0 none 0 0 [] (by rw [hz1]; rfl) k h0 (by rw [hz1]; decide) (by omega) (by omega) (by rw [hz2]; omega) (by rw [hz2]; exact growslice_fits (by omega) (by omega))
  rw [Nat.zero_add] at hr hge hcm
  unfold Oper.wp execOp
  simp only [ho, resolve, invoke, builtin, Sem.run_bind, Sem.run_pure, Result.andThen_ok, List.map_toArray, List.map_cons, List.map_nil, hs, hx, hr]
  refine hK _ _ (h _ _ ⟨rfl, .inr ⟨w.heap.size, _, _, rfl, Nat.le_refl _, heap_alloc_new w.drew _, Nat.zero_le _, hcm, ?_, rfl⟩⟩ hge ?_)
  · simp only [Array.size_append, List.size_toArray, size_zeroCells, List.length_nil, Nat.zero_add, ← Nat.add_mul]
    show (k + (_ - k)) * 2 = _
    omega
  · exact (below_drewN (Below.refl w.heap.size w) 1).alloc (Nat.le_refl _) _

set_option maxHeartbeats 1000000 in
theorem grow_any (k : Nat) (w : World) (hk : k ≤ 1000000) :
    Calls Try.prog 45 #[.slice none 0 0, .int .i64 k] w fun e w' => ∃ v, e = .returned v ∧ OwnE w' w.heap.size v [] ∧ Below w.heap.size w w' := by
  by_cases h0 : 0 < k
  · have h1 : ¬ ((k : Int) < 0) := by omega
    have h2 : (0 : Int) < (k : Int) := by omega
    go_enter Try.func45, Try.ntmps45
    go_wp2_with (at_builtin; refine wpList_growE rfl (.tmp 20) (.tmp 21) rfl rfl k rfl h0 hk ?_; intro cap w1 hO hc hb)
    go_ret
    exact ⟨_, rfl, hO, hb⟩
  · obtain rfl : k = 0 := by omega
    go_enter Try.func45, Try.ntmps45
    go_wp2
    go_ret
    exact ⟨_, rfl, OwnE.nil _ _, Below.refl _ _⟩

/-- lists of entries, in a row -/
def Pts (w : World) (g : Nat) (L : List (List E)) : Prop := g < w.heap.size ∧ ∀ i x, L[i]? = some x → ∃ ao cap, w.cell? ⟨g, i, none⟩ = some (.slice ao x.length cap) ∧ LiesE w w.heap.size ao cap x
theorem Pts.get {w w' : World} {g : Nat} {L : List (List E)} (h : Pts w g L) (hb : Below w.heap.size w w') {i : Nat} (hi : i < L.length) : ∃ ao cap, w'.cell? ⟨g, i, none⟩ = some (.slice ao L[i].length cap) ∧ LiesE w' w.heap.size ao cap L[i] := by
  obtain ⟨ao, cap, h1, h2⟩ := h.2 i _ (List.getElem?_eq_getElem hi)
  exact ⟨ao, cap, (hb.cell (p := ⟨g, i, none⟩) h.1).trans h1, h2.below hb⟩
def sumL (L : List (List E)) : Nat := L.flatten.length
theorem flat_next {L : List (List E)} {k : Nat} (h : k < L.length) : (L.take (k + 1)).flatten = (L.take k).flatten ++ L[k] := by
  rw [List.take_add_one, List.getElem?_eq_getElem h, List.flatten_append]
  simp
theorem flat_le (L : List (List E)) (k : Nat) : (L.take k).flatten.length ≤ L.flatten.length := by
  conv => rhs; rw [← List.take_append_drop k L, List.flatten_append, List.length_append]
  omega

set_option maxHeartbeats 2000000 in
theorem concat_any (L : List (List E)) (g cap : Nat) (w : World) (h : Pts w g L) (hn : L.flatten.length ≤ 1000) (hL : L.length ≤ 1000) :
    Calls Try.prog 42 #[.slice (some ⟨g, 0, none⟩) L.length cap] w fun e w' => ∃ v, e = .returned v ∧ OwnE w' w.heap.size v L.flatten ∧ Below w.heap.size w w' := by
  have HG := Lib.hid (fun k (hk : k ≤ 1000000) W => grow_any k W hk)
  go_enter Try.func42, Try.ntmps42
  go_wp2
  go_loopw [3, 11] (fun s i wr => ∃ k : Nat, k ≤ L.length ∧ i = .int .i64 k ∧ s = .int .i64 (L.take k).flatten.length ∧ w = wr) (fun _ i _ => L.length - (intOf i).toNat)
  case atStart => exact ⟨0, Nat.zero_le _, rfl, rfl, rfl⟩
  case round =>
    obtain ⟨k, hk, rfl, rfl, rfl⟩ := hrel
    by_cases hlt : k < L.length
    · obtain ⟨ao, cp, c0, _⟩ := h.get (Below.refl _ _) hlt
      have HF := Lib.hid (congrArg List.length (flat_next hlt))
      have hfl := flat_le L k
      have hfl2 := flat_le L (k + 1)
      rw [HF.out, List.length_append] at hfl2
      rw [List.length_append] at HF
      clear h HG
      generalize L[k].length = x at c0 HF hfl2
      generalize (L.take k).flatten.length = s at HF hfl hfl2 ⊢
      go_wp2
      go_roundw
      case rel => exact ⟨k + 1, by omega, by go_num, by rw [HF.out]; go_num, trivial⟩
      case measure => simp [intOf]; omega
    · obtain rfl : k = L.length := by omega
      rw [List.take_length]
      have HG2 := Lib.hid (HG.out L.flatten.length (by omega) w)
      clear HG hlt
      generalize hs : L.flatten.length = s at hn HG2 ⊢
      go_wp2_with (go_at_call 45; refine HG2.out.mono ?_; rintro _ W ⟨v, rfl, hO, hbW⟩)
      have HO := Lib.hid hO
      have HS := Lib.hid hs
      clear hO hs HG2
      go_loopw [6, 27] (fun v i wr => ∃ k : Nat, k ≤ L.length ∧ i = .int .i64 k ∧ Hid (OwnE wr w.heap.size v (L.take k).flatten) ∧ Below w.heap.size w wr) (fun _ i _ => L.length - (intOf i).toNat)
      case atStart => exact ⟨0, Nat.zero_le _, rfl, HO, hbW⟩
      case round =>
        obtain ⟨k, hk, rfl, HO2, hb⟩ := hrel
        have hbs := hb.size
        clear HO
        by_cases hlt : k < L.length
        · obtain ⟨ao, cp, c0, hl⟩ := h.get hb hlt
          have HF := Lib.hid (flat_next hlt)
          have hfl := flat_le L (k + 1)
          rw [HF.out, List.length_append, HS.out] at hfl
          have hg := h.1
          clear h
          generalize L[k] = x at c0 HF hfl hl
          have hO2 := HO2.out
          clear HO2
          go_wp2_with (at_builtin; refine wpList_appE rfl (.tmp 31) (.tmp 32) rfl w.heap.size _ _ x rfl hO2 _ ao x.length cp rfl rfl hl (by omega) (by omega) ?_; intro v2 w2 hO3 hb3 _)
          go_roundw
          case rel => exact ⟨k + 1, by omega, by go_num, Lib.hid (by rw [HF.out]; exact hO3), hb.trans hb3⟩
          case measure => simp [intOf]; omega
        · obtain rfl : k = L.length := by omega
          have hO2 := HO2.out
          rw [List.take_length] at hO2
          have HO3 := Lib.hid hO2
          clear HO2 hO2 h
          go_wp2
          go_ret
          exact ⟨_, rfl, HO3.out, hb⟩
end En
end Go.Proofs.Ytdilbicdaljfkaa
