/- Bytes, of the reference. -/
import Derived.Test.YtdilbicdaljfkaaEnQ
import Derived.Deep.RegionHeld3
namespace Go.Proofs.Ytdilbicdaljfkaa
set_option maxRecDepth 20000
namespace En
open Go.RowKit Sha

theorem step_appB {w : World} {ops : Array Oper} {o : Oper} {a : Act} {K : Act → World → Prop} {Q : Exit → Act → World → Prop} {X : Prop} (hgd : o.guard = none) (s x : Operand)
    (ho : o.op = .call { callee := .builtin .append, args := #[s, x], argTypes := #[25, 25] }) (base : Nat) (v : Value) (ys : List Int) (hs : a.eval s = v) (hown : OwnB w base v ys)
    (B : Nat) (ad : Addr) (cap : Nat) (xs : List Int) (hne : xs ≠ []) (n : Nat) (hn : n = xs.length) (hx : a.eval x = .slice (some ad) n cap) (hl : Lies w B (some ad) cap xs) (hlen : ys.length + xs.length ≤ 140737488355328) (hbase : base ≤ w.heap.size)
    (h : ∀ v' w', OwnB w' base v' (ys ++ xs) → Below base w w' → K (a.put o.dst v') w') : if Region.wanted o (yielded ops a.tmps) = true then Oper.wp Try.prog o a w K Q else X := by
  have hw : Region.wanted o (yielded ops a.tmps) = true := by simp [Region.wanted, hgd]
  rw [if_pos hw]
  subst hn
  obtain ⟨i0, hi, hz0, hz1, hz2⟩ := info_parts bytes_info
  obtain ⟨b, off, e, _, hc⟩ := hl.cells hne
  injection e with e
  subst e
  have hlt := World.ownsRow.lt hown
  obtain ⟨v', w', h1, h2, h3, _⟩ := run_append_own (P := Try.prog) w base 25 o.type 5 i0 (.int .u8 0) 1 1 und_u8s hi hz0 hz1 hz2 rfl (by decide) v ys.length (bys ys) hown ⟨b, off, none⟩ xs.length cap (bys xs) (by simp [bys])
    (fun j u hu => by
      have hj : j < xs.length := by
        have := (List.getElem?_eq_some_iff.1 hu).1
        rwa [bys_length] at this
      rw [Addr.add_mid, hc j hj, ← hu, bys_get xs j hj]) (bys_one _) (by unfold maxLen; omega) (by omega) hbase
  unfold Oper.wp execOp
  simp only [ho, resolve, invoke, builtin, Sem.run_bind, Sem.run_pure, Result.andThen_ok, List.map_toArray, List.map_cons, List.map_nil, hs, hx, h1]
  refine h v' w' ?_ ((Below.refl _ _).grown h3 hbase fun k hk => (hlt k hk).1)
  unfold OwnB
  rw [List.length_append, bys_append]
  exact h2
theorem step_appS {w : World} {ops : Array Oper} {o : Oper} {a : Act} {K : Act → World → Prop} {Q : Exit → Act → World → Prop} {X : Prop} (hgd : o.guard = none) (s x : Operand)
    (ho : o.op = .call { callee := .builtin .append, args := #[s, x], argTypes := #[25, 9] }) (base : Nat) (v : Value) (xs : List Int) (y : T) (hs : a.eval s = v) (hown : OwnB w base v xs)
    (hx : a.eval x = .string ⟨y.toArray⟩) (hlen : xs.length + y.length ≤ 140737488355328) (hbase : base ≤ w.heap.size)
    (h : ∀ v' w', OwnB w' base v' (xs ++ nb y) → Below base w w' → K (a.put o.dst v') w') : if Region.wanted o (yielded ops a.tmps) = true then Oper.wp Try.prog o a w K Q else X := by
  have hw : Region.wanted o (yielded ops a.tmps) = true := by simp [Region.wanted, hgd]
  rw [if_pos hw]
  obtain ⟨i0, hi, hz0, hz1, hz2⟩ := info_parts bytes_info
  have hlt := World.ownsRow.lt hown
  obtain ⟨v', w', hr, h2, h3, _⟩ := Lib.run_append_own_string (P := Try.prog) w base 25 9 o.type 5 i0 und_u8s und_str' hi hz0 hz1 hz2 v xs.length (bys xs) hown ⟨y.toArray⟩ (by rw [size_mk]; unfold maxLen; omega) (by rw [size_mk]; omega) hbase
  unfold Oper.wp execOp
  simp only [ho, resolve, invoke, builtin, Sem.run_bind, Sem.run_pure, Result.andThen_ok, List.map_toArray, List.map_cons, List.map_nil, hs, hx, hr]
  refine h v' w' ?_ ((Below.refl _ _).grown h3 hbase fun k hk => (hlt k hk).1)
  unfold OwnB
  have e : (nb y).length = y.length := by simp [nb]
  rw [List.length_append, e, bys_append, ← strC, ← size_mk y]
  exact h2

set_option maxHeartbeats 4000000 in
theorem refbytes_any (l : List E) (ao : Option Addr) (cap : Nat) (w : World) (h : LiesE w w.heap.size ao cap l) (hr : rt l = true) :
    Calls Try.prog 15 #[.slice ao l.length cap] w fun e w' => ∃ v, e = .returned v ∧ OwnB w' w.heap.size v (byL l) ∧ Below w.heap.size w w' := by
  have hmem := rt_mem hr
  have hle := rt_len hr
  clear hr
  go_enter Try.func15, Try.ntmps15
  go_wp2
  go_loopw [3, 4] (fun v i wr => ∃ k : Nat, k ≤ l.length ∧ i = .int .i64 k ∧ Hid (OwnB wr w.heap.size v (byL (l.take k))) ∧ Below w.heap.size w wr) (fun _ i _ => l.length - (intOf i).toNat)
  case atStart => exact ⟨0, Nat.zero_le _, rfl, Lib.hid (World.ownsRow_nil _ _ _ _), Below.refl _ _⟩
  case round =>
    obtain ⟨k, hk, rfl, HO, hb⟩ := hrel
    have hbs := hb.size
    by_cases hlt : k < l.length
    · obtain ⟨b, off, rfl, hbb, c0, c1⟩ := (h.below hb).get hlt
      have HNX := Lib.hid (byL_take hlt)
      obtain ⟨hv, hn1, hn2⟩ := hmem _ (List.getElem_mem hlt)
      have hvl := valid_len hv
      have hbl := by_len (l.take k) fun x hx => (valid_len (hmem x (List.mem_of_mem_take hx)).1).2
      rw [List.length_take] at hbl
      clear h hmem hv
      generalize l[k] = x at c0 c1 HNX hn1 hn2 hvl
      obtain ⟨x, n⟩ := x
      simp only at c0 c1 hn1 hn2 hvl
      have hw1 : IntKind.u8.wrap n = n := by rw [IntKind.wrap_u8]; omega
      have hw2 : IntKind.u8.wrap (x.length : Int) = (x.length : Int) := by rw [IntKind.wrap_u8]; omega
      have hO := HO.out
      clear HO
      have hdr : ∀ W : World, Below W.heap.size W W.drew := fun W => below_drewN (Below.refl _ _) 1
      have HA1 := Lib.hid (OwnB.below (hO.alloc (.cells #[.int .u8 n, .int .u8 (x.length : Int)] 5)) (hdr _) (Nat.le_refl _))
      have HL2 := Lib.hid ((lies_two wr n x.length rfl).below ((hdr (wr.alloc (.cells #[.int .u8 n, .int .u8 (x.length : Int)] 5))).mono (by simp)))
      have hb0 := hb.alloc hbs (.cells #[.int .u8 n, .int .u8 (x.length : Int)] 5)
      have HB1 := Lib.hid (hb0.trans ((hdr _).mono hb0.size))
      have hs1 : w.heap.size ≤ (wr.alloc (.cells #[.int .u8 n, .int .u8 (x.length : Int)] 5)).drew.heap.size := HB1.out.size
      have KE := Lib.hid (fun W (hB : Below w.heap.size wr W) => show W.cell? ⟨b, off + k * 2, none⟩ = some (.string ⟨x.toArray⟩) ∧ W.cell? ⟨b, off + k * 2 + 1, none⟩ = some (.int .i64 n) from ⟨(hB.cell (p := ⟨b, off + k * 2, none⟩) hbb).trans c0, (hB.cell (p := ⟨b, off + k * 2 + 1, none⟩) hbb).trans c1⟩)
      have HB0 : Hid (Below w.heap.size wr (wr.alloc (.cells #[.int .u8 n, .int .u8 (x.length : Int)] 5)).drew) := Lib.hid (((Below.refl _ _).alloc hbs _).trans ((hdr _).mono (by simp; omega)))
      clear hdr hb0 hO
      go_wp2_with fail
      go_region_held3 (fun W => W.cell? ⟨b, off + k * 2, none⟩ = some (.string ⟨x.toArray⟩) ∧ W.cell? ⟨b, off + k * 2 + 1, none⟩ = some (.int .i64 n))
        (first
          | go_keep
          | exact KE.out _ (HB0.out.trans hb1)
          | exact KE.out _ ((HB0.out.trans hb1).trans hb2))
        (first
          | (refine step_appB rfl (.tmp 11) (.tmp 25) rfl w.heap.size _ _ rfl (by exact HA1.out) _ _ 2 [n, (x.length : Int)] (by simp) 2 rfl rfl (by exact HL2.out) (by simp only [List.length_cons, List.length_nil]; omega) hs1 ?_; intro v1 w1 hO1 hb1; have hs2 := hb1.size)
          | (refine step_appS rfl (.tmp 26) (.tmp 31) rfl w.heap.size _ _ x rfl hO1 rfl (by simp only [List.length_append, List.length_cons, List.length_nil]; omega) (Nat.le_trans hs1 hs2) ?_; intro v2 w2 hO2 hb2))
      go_wp2
      go_roundw
      case rel => exact ⟨k + 1, by omega, by go_num, Lib.hid (by rw [HNX.out]; rw [List.append_assoc] at hO2; exact hO2), (HB1.out.trans hb1).trans hb2⟩
      case measure => simp [intOf]; omega
    · obtain rfl : k = l.length := by omega
      have hO := HO.out
      rw [List.take_length] at hO
      have HO2 := Lib.hid hO
      clear HO hO
      go_wp2
      go_ret
      exact ⟨_, rfl, HO2.out, hb⟩
end En
end Go.Proofs.Ytdilbicdaljfkaa
