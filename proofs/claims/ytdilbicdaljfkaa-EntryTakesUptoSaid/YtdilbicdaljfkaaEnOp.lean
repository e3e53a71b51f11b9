/- From a law's walk to what its row asks; entries, bytes, texts, numbers opened. -/
import Derived.Test.YtdilbicdaljfkaaEnP
import Derived.WalkKit
import Derived.ProofKit
import Derived.OpenShut
import Derived.SizedLaws
import Derived.Deep.DeepHandedRow
import Derived.Lib.SmallJoins
import Derived.ChangeMaps5
import Derived.Deep.SlicePairs
namespace Go.Proofs.Ytdilbicdaljfkaa
set_option maxRecDepth 20000
namespace EnO
open Go.ChangeShapes Go.WideShapes Go.ChangeAt Go.RowKit Go.ChangeMaps Sha En

theorem own : ownKnob Try.prog.godebug = none := by kernel_rfl
theorem under_u8 : Try.prog.underlying 5 = some (.int .u8) := by kernel_rfl
theorem under_int : Try.prog.underlying 3 = some (.int .i64) := by kernel_rfl
theorem under_string : Try.prog.underlying 9 = some .string := by kernel_rfl
theorem under_bool : Try.prog.underlying 4 = some .bool := by kernel_rfl
theorem cells_u8 : Try.prog.cellsOf 5 = 1 := by kernel_rfl
theorem cells_int : Try.prog.cellsOf 3 = 1 := by kernel_rfl
theorem cells_str : Try.prog.cellsOf 9 = 1 := by kernel_rfl
theorem cells_ent : Try.prog.cellsOf 44 = 2 := by kernel_rfl
theorem bytes_u8 : Try.prog.bytesOf 5 = 1 := by kernel_rfl
theorem bytes_ent : Try.prog.bytesOf 44 = 24 := by kernel_rfl
theorem laid_out : laidOutB Try.prog = true := by kernel_rfl
theorem trodAll_below {H : Type} {enc : TypeId × Value → H} {W W' : World} (hb : Below W.heap.size W W') : ∀ (ts : List TypeId) (vs : List Value) (ds : List (DataW H)) (ps : List MemPlace),
    (∀ t ∈ ts, Try.prog.readableRec t = true ∧ t < Try.prog.types.size) → DataW.TrodAll enc Try.prog W 0 (fun _ => true) true ts vs ds ps → (∀ x ∈ ps, x.block < W.heap.size) →
    DataW.TrodAll enc Try.prog W' 0 (fun b => decide (b < W.heap.size)) true ts vs ds ps
  | [], vs, ds, ps, _, h, _ => by
    obtain ⟨rfl, rfl, rfl⟩ := trodAll_nil h
    exact trodAll_mk0
  | t :: ts, vs, ds, ps, hr, h, hlt => by
    obtain ⟨v, vs', d, ds', p, q, rfl, rfl, rfl, h1, h2⟩ := trodAll_cons h
    exact trodAll_cons_mk (Below.trod laid_out (hr t (by simp)).1 (hr t (by simp)).2 h1 hb (fun x hx => hlt x (by simp [hx])))
      (trodAll_below hb ts vs' ds' q (fun t ht => hr t (by simp [ht])) h2 (fun x hx => hlt x (by simp [hx])))
theorem law_post {s : ChangeSpec} (hv : s.vars = []) {f : FuncId} {fn : Func} (hr : fn.resultTypes = #[4]) (hp : ∀ t ∈ fn.params.toList, Try.prog.readableRec t = true ∧ t < Try.prog.types.size)
    {H : Type} {enc : TypeId × Value → H} {W : World} {args : Array Value} {ds gs : List (DataW H)} {before : List MemPlace} (hs : s.fn H ds = { results := [.lit (.bool true)], args := ds })
    (hW : DataW.Whole enc Try.prog fn.params.toList s.vars false W args.toList ds gs before)
    (walk : Calls Try.prog f args W fun e W' => e = .returned (.bool true) ∧ Below W.heap.size W W') :
    Calls Try.prog f args W fun e W' => ∃ v, e = .returned v ∧ s.post enc Try.prog fn false true false false W args v W' := by
  have hW' := hW
  obtain ⟨p, q, hA0, hV, rfl, hfz, hnd⟩ := hW
  rw [hv] at hV
  obtain ⟨rfl, rfl⟩ := trodVars_none hV
  refine walk.mono fun e W' ⟨he, hb⟩ => ?_
  subst he
  have hlt : ∀ x ∈ p, x.block < W.heap.size := fun x hx => by simpa using hW'.lt x (by simpa using hx)
  rw [List.append_nil] at hW'
  refine ⟨_, rfl, _, _, _, [], p, [], hW', ?_, ?_, ?_, hb.frame _, fun h => by cases h⟩
  · rw [hr, List.append_nil, hs]
    exact trodAll_cons_mk (shut_bool under_bool _) trodAll_mk0
  · rw [List.append_nil, hs]
    exact trodAll_below hb _ _ _ _ hp hA0 hlt
  · rw [hv, List.append_nil, hs]
    rfl
theorem open_text {H : Type} {enc : TypeId × Value → H} {W : World} {r : Reach} {b0 base : Nat} {sp : Nat → Bool} {held : Bool} {v : Value} {d : DataW H} {ps : List MemPlace} {ts : List TypeId} {ds : List (DataW H)} {j : Nat}
    (hsz : (DataW.weightsEach Try.prog ts ds).all (· ≤ reachBytes) = true) (ht : ts[j]? = some 9) (hd : ds[j]? = some d)
    (hval : Value.okWide Try.prog W r b0 9 v) (h : DataW.Trod enc Try.prog W base sp held 9 v d ps) : ∃ s : ByteArray, v = .string s ∧ s.size ≤ 140737488351232 := by
  obtain ⟨s, rfl, rfl, _, _⟩ := open_string under_string hval h
  refine ⟨s, rfl, ?_⟩
  have := sized_string hsz ht hd
  simpa [reachBytes] using this
/-- any bytes, opened -/
theorem open_bytes {H : Type} {enc : TypeId × Value → H} {W : World} {r : Reach} {base : Nat} {v : Value} {d : DataW H} {ps : List MemPlace} {ts : List TypeId} {ds : List (DataW H)} {j : Nat}
    (hsz : (DataW.weightsEach Try.prog ts ds).all (· ≤ reachBytes) = true) (ht : ts[j]? = some 25) (hd : ds[j]? = some d)
    (hval : Value.okWide Try.prog W r base 25 v) (h0 : DataW.Trod enc Try.prog W 0 (fun _ => true) true 25 v d ps) (hlt : ∀ x ∈ ps, x.block < W.heap.size) :
    ∃ (ao : Option Addr) (n cap : Nat) (xs : List Int), v = .slice ao n cap ∧ n = xs.length ∧ Lies W W.heap.size ao cap xs ∧ Byte xs ∧ n ≤ 140737488351232 := by
  obtain ⟨a0, len, cap, rfl⟩ := okWide_slice bytes_slice hval
  obtain ⟨fuel, hf⟩ := h0
  rcases open_ints bytes_slice under_u8 cells_u8 hf with ⟨hcs, hx⟩ | ⟨a, len', cap', zs, hcs, _, hl, hm, hz, hx, hcell, hwz⟩
  · simp [Value.cells] at hcs
    obtain ⟨rfl, rfl, rfl⟩ := hcs
    exact ⟨none, 0, 0, [], rfl, rfl, ⟨Nat.le_refl _, fun _ => rfl, fun h => absurd rfl h⟩, (fun x hx => by cases hx), by omega⟩
  · simp [Value.cells] at hcs
    obtain ⟨rfl, rfl, rfl⟩ := hcs
    simp only [Prod.mk.injEq] at hx
    obtain ⟨rfl, rfl⟩ := hx
    simp only [if_true] at hz
    have hreach : len ≤ 140737488351232 := by
      have := sized_slice hsz ht hd bytes_slice
      rw [bytes_u8] at this
      simp only [lits, List.length_map, List.length_take, List.length_drop, reachBytes] at this
      omega
    refine ⟨some a, len, cap, zs.take len, rfl, by simp; omega, ⟨by simp; omega, by simp, fun hne => ?_⟩, fun x hx => ?_, hreach⟩
    · have hpos : 0 < zs.length := by
        cases zs with
        | nil => simp at hne
        | cons _ _ => simp
      obtain ⟨b, off, spot⟩ := a
      have hspot : spot = none := by simpa [Addr.add] using World.cell?_spot (hcell 0 hpos)
      subst hspot
      refine ⟨b, off, rfl, hlt (.cell b off) (MemPlace.mem_row.2 ⟨0, hpos, by simp⟩), fun i hi => ?_⟩
      have hi' : i < len ∧ i < zs.length := by simp at hi; omega
      rw [← add_plain, hcell i hi'.2]
      simp [List.getD_eq_getElem?_getD, hi'.1]
    · have := hwz x (List.mem_of_mem_take hx)
      have h1 : IntKind.u8.min = 0 := rfl
      have h2 : IntKind.u8.max = 255 := rfl
      simp only [Lit.wf, Bool.and_eq_true, decide_eq_true_eq] at this
      omega

theorem wf_i64 {z : Int} (h : (Lit.int .i64 z).wf = true) : -9223372036854775808 ≤ z ∧ z ≤ 9223372036854775807 := by
  have h1 : IntKind.i64.min = -9223372036854775808 := rfl
  have h2 : IntKind.i64.max = 9223372036854775807 := rfl
  simp only [Lit.wf, Bool.and_eq_true, decide_eq_true_eq] at h
  omega
/-- any int, opened -/
theorem open_num {H : Type} {enc : TypeId × Value → H} {W : World} {r : Reach} {b0 base : Nat} {sp : Nat → Bool} {held : Bool} {v : Value} {d : DataW H} {ps : List MemPlace} (hval : Value.okWide Try.prog W r b0 3 v) (h : DataW.Trod enc Try.prog W base sp held 3 v d ps) :
    ∃ z : Int, v = .int .i64 z ∧ -9223372036854775808 ≤ z ∧ z ≤ 9223372036854775807 := by
  obtain ⟨z, rfl, _, _, hw⟩ := open_int under_int hval h
  exact ⟨z, rfl, wf_i64 hw⟩

theorem mem_all {H : Type} {P : Program} {e : TypeId} {n : Nat} : ∀ {l : List (DataW H)} {d : DataW H}, d ∈ l → n ∈ d.weights P e → n ∈ DataW.weightsAll P e l
  | x :: l, d, hd, hn => by
    simp only [DataW.weightsAll, List.mem_append]
    rcases List.mem_cons.1 hd with rfl | hd
    · exact .inl hn
    · exact .inr (mem_all hd hn)
theorem ent_types : ∃ f0 f1 : Field, Try.prog.underlying 44 = some (.struct #[f0, f1]) ∧ f0.type = 9 ∧ f0.offset = 0 ∧ f1.type = 3 ∧ f1.offset = 1 := ⟨_, _, Try.underlying44, rfl, rfl, rfl, rfl⟩
/-- any entries, opened -/
theorem open_ents {H : Type} {enc : TypeId × Value → H} {W : World} {r : Reach} {base : Nat} {v : Value} {d : DataW H} {ps : List MemPlace} {ts : List TypeId} {ds : List (DataW H)} {j : Nat}
    (hsz : (DataW.weightsEach Try.prog ts ds).all (· ≤ reachBytes) = true) (ht : ts[j]? = some 22) (hd : ds[j]? = some d)
    (hval : Value.okWide Try.prog W r base 22 v) (h0 : DataW.Trod enc Try.prog W 0 (fun _ => true) true 22 v d ps) (hlt : ∀ x ∈ ps, x.block < W.heap.size) :
    ∃ (ao : Option Addr) (cap : Nat) (l : List E), v = .slice ao l.length cap ∧ LiesE W W.heap.size ao cap l ∧ l.length * 24 ≤ 140737488351232 ∧ ∀ x ∈ l, x.1.length ≤ 140737488351232 := by
  obtain ⟨a0, len, cap, rfl⟩ := okWide_slice und_ents hval
  obtain ⟨fuel, hf⟩ := h0
  obtain ⟨f0, f1, hst, t0, o0, t1, o1⟩ := ent_types
  rcases Go.Deep.open_slice_pairs und_ents hst cells_ent o0 o1 (by rw [t0]; exact cells_str) (by rw [t1]; exact cells_int) hf with ⟨hcs, hx⟩ | ⟨a, len', cap', m, nf, V0, V1, D0, D1, P0, P1, hcs, _, hl, hm, hmm, hx, hall⟩
  · simp [Value.cells] at hcs
    obtain ⟨rfl, rfl, rfl⟩ := hcs
    exact ⟨none, 0, [], rfl, ⟨Nat.le_refl _, fun _ => rfl, fun h => absurd rfl h⟩, by simp, fun x hx => by cases hx⟩
  · simp [Value.cells] at hcs
    obtain ⟨rfl, rfl, rfl⟩ := hcs
    simp only [Prod.mk.injEq] at hx
    obtain ⟨rfl, rfl⟩ := hx
    simp only [if_true] at hmm
    subst hmm
    have each : ∀ i, i < m → ∃ e : E, W.cell? (a.add (i * 2)) = some (.string ⟨e.1.toArray⟩) ∧ W.cell? (a.add (i * 2 + 1)) = some (.int .i64 e.2) ∧ D0 i = .lit (.string e.1) := fun i hi => by
      obtain ⟨h1, h2, h3, h4⟩ := hall i hi
      rw [t0] at h3
      rw [t1] at h4
      obtain ⟨s, e1, e2, _⟩ := DataW.trod_string under_string h3
      obtain ⟨z, e3, _, _⟩ := DataW.trod_int under_int h4
      obtain ⟨⟨s⟩⟩ := s
      simp only [List.cons.injEq, and_true] at e1 e3
      simp only [Prod.mk.injEq] at e2
      exact ⟨(s, z), by rw [h1, e1], by rw [h2, e3], e2.1⟩
    obtain ⟨F, hF⟩ := Go.Deep.choose_lt each
    have hw : ∀ i, i < len → (F i).1.length ≤ 140737488351232 := fun i hi => by
      have hmem : (DataW.agg [D0 i, D1 i]) ∈ (List.range len).map (fun i => DataW.agg [D0 i, D1 i]) := List.mem_map.2 ⟨i, by simpa using hi, rfl⟩
      have h1 : (F i).1.length ∈ DataW.weights Try.prog 44 (DataW.agg [D0 i, D1 i]) := by
        rw [(hF i (by omega)).2.2]
        simp only [DataW.weights, hst, List.map_cons, List.map_nil, DataW.weightsEach, List.mem_append, List.mem_singleton]
        exact .inl trivial
      have h2 := DataW.weights_mem_each (P := Try.prog) ht hd (F i).1.length (by
        simp only [DataW.weights, und_ents, List.mem_cons, List.mem_append]
        exact .inr (.inl (mem_all hmem h1)))
      have := List.all_eq_true.1 hsz _ h2
      exact of_decide_eq_true this
    refine ⟨some a, m, (List.range len).map F, by simp, ⟨by simpa using hl, (fun e => by cases e), fun hne => ?_⟩, ?_, fun x hx => ?_⟩
    · have hpos : 0 < len := by
        rcases Nat.eq_zero_or_pos len with e | e
        · subst e; exact absurd rfl hne
        · exact e
      obtain ⟨b, off, spot⟩ := a
      have hspot : spot = none := by simpa [Addr.add] using World.cell?_spot (hF 0 (by omega)).1
      subst hspot
      refine ⟨b, off, rfl, hlt (.cell b off) (List.mem_append.2 (.inl (MemPlace.mem_row.2 ⟨0, by omega, by simp⟩))), fun i x hi => ?_⟩
      have hil := (List.getElem?_eq_some_iff.1 hi).1
      simp only [List.length_map, List.length_range] at hil
      rw [List.getElem?_map, List.getElem?_range hil] at hi
      simp only [Option.map_some, Option.some.injEq] at hi
      subst hi
      have := hF i (by omega)
      rw [add_plain, add_plain] at this
      exact ⟨this.1, by rw [Nat.add_assoc]; exact this.2.1⟩
    · have := sized_slice hsz ht hd und_ents
      rw [bytes_ent] at this
      simp only [List.length_map, List.length_range, reachBytes] at this ⊢
      omega
    · obtain ⟨i, hi, rfl⟩ := List.mem_map.1 hx
      exact hw i (by simpa using hi)
/-- any entry, opened -/
theorem open_ent {H : Type} {enc : TypeId × Value → H} {W : World} {r : Reach} {b0 base : Nat} {sp : Nat → Bool} {held : Bool} {v : Value} {d : DataW H} {ps : List MemPlace} {ts : List TypeId} {ds : List (DataW H)} {j : Nat}
    (hsz : (DataW.weightsEach Try.prog ts ds).all (· ≤ reachBytes) = true) (ht : ts[j]? = some 44) (hd : ds[j]? = some d)
    (hval : Value.okWide Try.prog W r b0 44 v) (h : DataW.Trod enc Try.prog W base sp held 44 v d ps) : ∃ x : E, v = .agg (eV x).toArray ∧ x.1.length ≤ 140737488351232 ∧ -9223372036854775808 ≤ x.2 ∧ x.2 ≤ 9223372036854775807 := by
  obtain ⟨f0, f1, hst, t0, o0, t1, o1⟩ := ent_types
  obtain ⟨cs, rfl, _⟩ := okWide_struct hst hval
  obtain ⟨fuel, hf⟩ := h
  obtain ⟨xs, n, _, hx, hl, hlen, hfs⟩ := DataW.trod_struct hst hf
  rw [cells_ent] at hl
  match xs, hlen with
  | [y0, y1], _ =>
    have h0 := hfs 0 f0 rfl
    have h1 := hfs 1 f1 rfl
    rw [t0, o0, cells_str] at h0
    rw [t1, o1, cells_int] at h1
    obtain ⟨s, e0, q0, _⟩ := DataW.trod_string under_string h0
    obtain ⟨z, e1, _, wz⟩ := DataW.trod_int under_int h1
    obtain ⟨⟨s⟩⟩ := s
    have hwz := wf_i64 wz
    simp only [List.map_cons, List.map_nil, Prod.mk.injEq] at hx
    have hdx := hx.1
    refine ⟨(s, z), ?_, ?_, hwz⟩
    · have hc : (Value.agg cs).cells.toList = [.string ⟨⟨s⟩⟩, .int .i64 z] := by
        rw [List.drop_zero] at e0
        have e1' : (Value.agg cs).cells.toList.drop 1 = [.int .i64 z] := by
          rwa [List.take_of_length_le (by rw [List.length_drop]; omega)] at e1
        rw [← List.take_append_drop 1 (Value.agg cs).cells.toList, e0, e1']
        rfl
      have hc' : cs.toList = eV (s, z) := by simpa [Value.cells, eV] using hc
      rw [← hc']
    · have h2 := DataW.weights_mem_each (P := Try.prog) ht hd s.length (by
        rw [hdx]
        simp only [DataW.weights, hst, List.map_cons, List.map_nil, DataW.weightsEach, List.mem_append, t0, q0]
        exact .inl (by simp))
      have := List.all_eq_true.1 hsz _ h2
      exact of_decide_eq_true this
end EnO
end Go.Proofs.Ytdilbicdaljfkaa
