import Derived.Test.YtnmljjehkdbbjaaJWd
import Derived.WalkKit
import Derived.ProofKit
import Derived.OpenShut
import Derived.SizedLaws
import Derived.Deep.DeepHandedRow
import Derived.Lib.SmallJoins
import Derived.ChangeMaps5
import Derived.Test.YtnmljjehkdbbjaaPtSum
import Derived.Deep.Slices
/- From a law's walk to what its row asks: for a law of any arguments that answers true and leaves old memory as it was. Arguments opened: bytes, numbers, texts, arrays of integers. -/
namespace Go.Proofs.Ytnmljjehkdbbjaa
set_option maxRecDepth 20000
namespace Law
open Go.ChangeShapes Go.WideShapes Go.ChangeAt Go.RowKit Go.ChangeMaps Byt

theorem own : ownKnob Try.prog.godebug = none := by kernel_rfl
theorem under_u8 : Try.prog.underlying 5 = some (.int .u8) := by kernel_rfl
theorem under_int : Try.prog.underlying 3 = some (.int .i64) := by kernel_rfl
theorem under_string : Try.prog.underlying 9 = some .string := by kernel_rfl
theorem under_bool : Try.prog.underlying 4 = some .bool := by kernel_rfl
theorem cells_u8 : Try.prog.cellsOf 5 = 1 := by kernel_rfl
theorem cells_int : Try.prog.cellsOf 3 = 1 := by kernel_rfl
theorem bytes_u8 : Try.prog.bytesOf 5 = 1 := by kernel_rfl
theorem laid_out : laidOutB Try.prog = true := by kernel_rfl

/-- what old memory held, arguments read behind the call -/
theorem trodAll_below {H : Type} {enc : TypeId × Value → H} {W W' : World} (hb : Below W.heap.size W W') : ∀ (ts : List TypeId) (vs : List Value) (ds : List (DataW H)) (ps : List MemPlace),
    (∀ t ∈ ts, Try.prog.readableRec t = true ∧ t < Try.prog.types.size) → DataW.TrodAll enc Try.prog W 0 (fun _ => true) true ts vs ds ps → (∀ x ∈ ps, x.block < W.heap.size) →
    DataW.TrodAll enc Try.prog W' 0 (fun b => decide (b < W.heap.size)) true ts vs ds ps
  | [], vs, ds, ps, _, h, _ => by
    obtain ⟨rfl, rfl, rfl⟩ := trodAll_nil h
    exact trodAll_mk0
  | t :: ts, vs, ds, ps, hr, h, hlt => by
    obtain ⟨v, vs', d, ds', p, q, rfl, rfl, rfl, h1, h2⟩ := trodAll_cons h
    exact trodAll_cons_mk (Below.trod laid_out (hr t (by simp)).1 (hr t (by simp)).2 h1 hb (fun x hx => hlt x (by simp [hx])))
      (trodAll_below hb ts vs' ds' q (fun t ht => hr t (by simp [ht])) h2 (fun x hx => hlt x (by simp [hx])))

/-- the law's post, out of its walk -/
theorem law_post {s : ChangeSpec} (hv : s.vars = []) {f : FuncId} {fn : Func} (hr : fn.resultTypes = #[4]) (hp : ∀ t ∈ fn.params.toList, Try.prog.readableRec t = true ∧ t < Try.prog.types.size)
    {H : Type} {enc : TypeId × Value → H} {W : World} {args : Array Value} {ds gs : List (DataW H)} {before : List MemPlace} (hs : s.fn H ds = { results := [.lit (.bool true)], args := ds })
    (hW : DataW.Whole enc Try.prog fn.params.toList s.vars false W args.toList ds gs before)
    (walk : Calls Try.prog f args W fun e W' => e = .returned (.bool true) ∧ Below W.heap.size W W') :
    Calls Try.prog f args W fun e W' => ∃ v, e = .returned v ∧ s.post enc Try.prog fn false true false false W args v W' := by
  have hW' := hW
  obtain ⟨p, q, hA0, hV, rfl, hfz, hnd⟩ := hW
  rw [hv] at hV
  obtain ⟨rfl, rfl⟩ := trodVars_none hV
  refine walk.mono fun e W' ⟨he, hb⟩ => ?_
  subst he
  have hlt : ∀ x ∈ p, x.block < W.heap.size := fun x hx => by simpa using hW'.lt x (by simpa using hx)
  rw [List.append_nil] at hW'
  refine ⟨_, rfl, _, _, _, [], p, [], hW', ?_, ?_, ?_, hb.frame _, fun h => by cases h⟩
  · rw [hr, List.append_nil, hs]
    exact trodAll_cons_mk (shut_bool under_bool _) trodAll_mk0
  · rw [List.append_nil, hs]
    exact trodAll_below hb _ _ _ _ hp hA0 hlt
  · rw [hv, List.append_nil, hs]
    rfl

/-- any bytes, opened -/
theorem open_bytes {H : Type} {enc : TypeId × Value → H} {W : World} {r : Reach} {base : Nat} {v : Value} {d : DataW H} {ps : List MemPlace} {ts : List TypeId} {ds : List (DataW H)} {j : Nat}
    (hsz : (DataW.weightsEach Try.prog ts ds).all (· ≤ reachBytes) = true) (ht : ts[j]? = some 48) (hd : ds[j]? = some d)
    (hval : Value.okWide Try.prog W r base 48 v) (h0 : DataW.Trod enc Try.prog W 0 (fun _ => true) true 48 v d ps) (hlt : ∀ x ∈ ps, x.block < W.heap.size) :
    ∃ (ao : Option Addr) (n cap : Nat) (xs : List Int), v = .slice ao n cap ∧ n = xs.length ∧ Lies W W.heap.size ao cap xs ∧ Byte xs ∧ n ≤ 140737488351232 := by
  obtain ⟨a0, len, cap, rfl⟩ := okWide_slice bytes_slice hval
  obtain ⟨fuel, hf⟩ := h0
  rcases open_ints bytes_slice under_u8 cells_u8 hf with ⟨hcs, hx⟩ | ⟨a, len', cap', zs, hcs, _, hl, hm, hz, hx, hcell, hwz⟩
  · simp [Value.cells] at hcs
    obtain ⟨rfl, rfl, rfl⟩ := hcs
    exact ⟨none, 0, 0, [], rfl, rfl, ⟨Nat.le_refl _, fun _ => rfl, fun h => absurd rfl h⟩, (fun x hx => by cases hx), by omega⟩
  · simp [Value.cells] at hcs
    obtain ⟨rfl, rfl, rfl⟩ := hcs
    simp only [Prod.mk.injEq] at hx
    obtain ⟨rfl, rfl⟩ := hx
    simp only [if_true] at hz
    have hreach : len ≤ 140737488351232 := by
      have := sized_slice hsz ht hd bytes_slice
      rw [bytes_u8] at this
      simp only [lits, List.length_map, List.length_take, List.length_drop, reachBytes] at this
      omega
    refine ⟨some a, len, cap, zs.take len, rfl, by simp; omega, ⟨by simp; omega, by simp, fun hne => ?_⟩, fun x hx => ?_, hreach⟩
    · have hpos : 0 < zs.length := by
        cases zs with
        | nil => simp at hne
        | cons _ _ => simp
      obtain ⟨b, off, spot⟩ := a
      have hspot : spot = none := by simpa [Addr.add] using World.cell?_spot (hcell 0 hpos)
      subst hspot
      refine ⟨b, off, rfl, hlt (.cell b off) (MemPlace.mem_row.2 ⟨0, hpos, by simp⟩), fun i hi => ?_⟩
      have hi' : i < len ∧ i < zs.length := by simp at hi; omega
      rw [← add_plain, hcell i hi'.2]
      simp [List.getD_eq_getElem?_getD, hi'.1]
    · have := hwz x (List.mem_of_mem_take hx)
      have h1 : IntKind.u8.min = 0 := rfl
      have h2 : IntKind.u8.max = 255 := rfl
      simp only [Lit.wf, Bool.and_eq_true, decide_eq_true_eq] at this
      omega

theorem wf_i64 {z : Int} (h : (Lit.int .i64 z).wf = true) : -9223372036854775808 ≤ z ∧ z ≤ 9223372036854775807 := by
  have h1 : IntKind.i64.min = -9223372036854775808 := rfl
  have h2 : IntKind.i64.max = 9223372036854775807 := rfl
  simp only [Lit.wf, Bool.and_eq_true, decide_eq_true_eq] at h
  omega
/-- any int, opened -/
theorem open_num {H : Type} {enc : TypeId × Value → H} {W : World} {r : Reach} {b0 base : Nat} {sp : Nat → Bool} {held : Bool} {v : Value} {d : DataW H} {ps : List MemPlace} (hval : Value.okWide Try.prog W r b0 3 v) (h : DataW.Trod enc Try.prog W base sp held 3 v d ps) :
    ∃ z : Int, v = .int .i64 z ∧ -9223372036854775808 ≤ z ∧ z ≤ 9223372036854775807 := by
  obtain ⟨z, rfl, _, _, hw⟩ := open_int under_int hval h
  exact ⟨z, rfl, wf_i64 hw⟩
/-- any text, opened -/
theorem open_text {H : Type} {enc : TypeId × Value → H} {W : World} {r : Reach} {b0 base : Nat} {sp : Nat → Bool} {held : Bool} {v : Value} {d : DataW H} {ps : List MemPlace} {ts : List TypeId} {ds : List (DataW H)} {j : Nat}
    (hsz : (DataW.weightsEach Try.prog ts ds).all (· ≤ reachBytes) = true) (ht : ts[j]? = some 9) (hd : ds[j]? = some d)
    (hval : Value.okWide Try.prog W r b0 9 v) (h : DataW.Trod enc Try.prog W base sp held 9 v d ps) : ∃ s : ByteArray, v = .string s ∧ s.size ≤ 140737488351232 := by
  obtain ⟨s, rfl, rfl, _, _⟩ := open_string under_string hval h
  refine ⟨s, rfl, ?_⟩
  have := sized_string hsz ht hd
  simpa [reachBytes] using this

def numAt (cs : Array Value) (i : Nat) : Int := match cs[i]? with
  | some (.int _ z) => z
  | _ => 0
/-- any array of integers, opened -/
theorem open_arr_ints {H : Type} {enc : TypeId × Value → H} {P : Program} {W : World} {b base : Nat} {sp : Nat → Bool} {held : Bool} {r : Reach} {t e : TypeId} {n : Nat} {k : IntKind} {v : Value} {d : DataW H} {ps : List MemPlace}
    (ht : P.underlying t = some (.array n e)) (he : P.underlying e = some (.int k)) (hce : P.cellsOf e = 1) (hct : P.cellsOf t = n)
    (hok : Value.okWide P W r b t v) (h : DataW.Trod enc P W base sp held t v d ps) :
    ∃ F : Nat → Int, v = .agg (((List.range n).map fun i => Value.int k (F i)).toArray) ∧ ∀ i, i < n → (Lit.int k (F i)).wf = true := by
  simp only [Value.okWide, ht] at hok
  obtain ⟨cs, rfl, hsz, _⟩ := hok
  obtain ⟨fuel, hf⟩ := h
  obtain ⟨xs, m, _, _, hl, hxl, hall⟩ := DataW.trod_array ht hf
  have hcl : cs.size = n := by simpa [Value.cells, hct] using hl
  have key : ∀ i, i < n → ∃ z, cs[i]? = some (.int k z) ∧ (Lit.int k z).wf = true := by
    intro i hi
    have h1 := hall i hi
    rw [hce, Nat.mul_one] at h1
    obtain ⟨y, hy⟩ : ∃ y, xs[i]? = some y := ⟨xs[i]'(by omega), by simp⟩
    rw [hy] at h1
    obtain ⟨z, hc, _, hw⟩ := DataW.trod_int he h1
    refine ⟨z, ?_, hw⟩
    have := congrArg (·[0]?) hc
    simpa [Value.cells, List.getElem?_take, List.getElem?_drop] using this
  refine ⟨numAt cs, ?_, fun i hi => ?_⟩
  · congr 1
    apply Array.ext_getElem?
    intro i
    by_cases hi : i < n
    · obtain ⟨z, hz, _⟩ := key i hi
      rw [hz]
      simp [numAt, hz, hi]
    · rw [Array.getElem?_eq_none (by omega), Array.getElem?_eq_none (by simp; omega)]
  · obtain ⟨z, hz, hw⟩ := key i hi
    simp only [numAt, hz]
    exact hw

/-- a struct of two ints, opened -/
theorem open_pair {H : Type} {enc : TypeId × Value → H} {W : World} {r : Reach} {b0 base : Nat} {sp : Nat → Bool} {held : Bool} {t : TypeId} {f0 f1 : Field} {v : Value} {d : DataW H} {ps : List MemPlace}
    (hs : Try.prog.underlying t = some (.struct #[f0, f1])) (hone : Go.Deep.oneCellFields Try.prog #[f0, f1] = true) (hC : Try.prog.cellsOf t = 2) (u0 : Try.prog.underlying f0.type = some (.int .i64)) (u1 : Try.prog.underlying f1.type = some (.int .i64))
    (hval : Value.okWide Try.prog W r b0 t v) (h : DataW.Trod enc Try.prog W base sp held t v d ps) :
    ∃ a b : Int, v = .agg #[.int .i64 a, .int .i64 b] ∧ (-9223372036854775808 ≤ a ∧ a ≤ 9223372036854775807) ∧ (-9223372036854775808 ≤ b ∧ b ≤ 9223372036854775807) := by
  obtain ⟨v0, v1, y0, y1, n, rfl, _, _, h0, h1⟩ := Joins.open_agg2 hs hone hC hval h
  obtain ⟨a, ha, _, wa⟩ := DataW.trod_int u0 h0
  obtain ⟨b, hb, _, wb⟩ := DataW.trod_int u1 h1
  simp at ha hb
  exact ⟨a, b, by rw [ha, hb], wf_i64 wa, wf_i64 wb⟩

end Law
end Go.Proofs.Ytnmljjehkdbbjaa
/- ptr: blocks, pointers, slices of pointers, small numbers, opened. -/
namespace Go.Proofs.Ytnmljjehkdbbjaa
set_option maxRecDepth 20000
namespace PLaw
open Go.ChangeShapes Go.WideShapes Go.ChangeAt Go.RowKit Go.ChangeMaps Law Dk Byt

theorem cells_sum : Try.prog.cellsOf 22 = 32 := by kernel_rfl
theorem under_sum : Try.prog.underlying 22 = some (.array 32 5) := by kernel_rfl
theorem cells_ptr : Try.prog.cellsOf 24 = 34 := by kernel_rfl
theorem bytes_ptr : Try.prog.bytesOf 24 = 48 := by kernel_rfl
theorem wf_u8 {z : Int} (h : (Lit.int .u8 z).wf = true) : 0 ≤ z ∧ z < 256 := by
  have h1 : IntKind.u8.min = 0 := rfl
  have h2 : IntKind.u8.max = 255 := rfl
  simp only [Lit.wf, Bool.and_eq_true, decide_eq_true_eq] at h
  omega

section
variable {H : Type} {enc : TypeId × Value → H} {w : World} {base : Nat} {sp : Nat → Bool} {held : Bool} {fuel : Nat} {cs : List Value} {x : DataW H × List MemPlace}
/-- the cells of n bytes -/
theorem bytes_read {t : TypeId} {n : Nat} (hu : Try.prog.underlying t = some (.array n 5)) (hc : Try.prog.cellsOf t = n) (h : DataW.trod enc Try.prog w base sp held fuel t cs = some x) : ∃ F : Nat → Int, cs = (List.range n).map (fun j => .int .u8 (F j)) ∧ ∀ i, i < n → 0 ≤ F i ∧ F i < 256 := by
  obtain ⟨xs, m, _, _, hl, hxl, hall⟩ := DataW.trod_array hu h
  rw [hc] at hl
  have key : ∀ i, i < n → ∃ z, cs[i]? = some (.int .u8 z) ∧ 0 ≤ z ∧ z < 256 := by
    intro i hi
    have h1 := hall i hi
    rw [cells_u8, Nat.mul_one] at h1
    obtain ⟨y, hy⟩ : ∃ y, xs[i]? = some y := ⟨xs[i]'(by omega), by simp⟩
    rw [hy] at h1
    obtain ⟨z, hz, _, hw⟩ := DataW.trod_int under_u8 h1
    refine ⟨z, ?_, wf_u8 hw⟩
    have := congrArg (·[0]?) hz
    simpa [List.getElem?_take, List.getElem?_drop] using this
  obtain ⟨F, hF⟩ := Go.Deep.choose_lt key
  refine ⟨F, List.ext_getElem? fun i => ?_, fun i hi => (hF i hi).2⟩
  by_cases hi : i < n
  · rw [(hF i hi).1]
    simp [hi]
  · rw [List.getElem?_eq_none (by omega), List.getElem?_eq_none (by simp; omega)]
def PtOk (p : Pt.Pn) : Prop := (-9223372036854775808 ≤ p.A ∧ p.A ≤ 9223372036854775807) ∧ (-9223372036854775808 ≤ p.B ∧ p.B ≤ 9223372036854775807) ∧ ∀ j, j < 32 → 0 ≤ p.S j ∧ p.S j < 256
theorem ptr_read (h : DataW.trod enc Try.prog w base sp held fuel 24 cs = some x) : ∃ p : { p : Pt.Pn // PtOk p }, cs = Pt.pV p.1 := by
  obtain ⟨y0, y1, y2, n, _, hl, h0, h1, h2⟩ := Go.Deep.trod_struct3 Try.underlying24 h
  rw [cells_ptr] at hl
  obtain ⟨z0, e0, _, w0⟩ := DataW.trod_int under_int h0
  obtain ⟨z1, e1, _, w1⟩ := DataW.trod_int under_int h1
  obtain ⟨F, hF, hb⟩ := bytes_read under_sum cells_sum h2
  rw [cells_int] at e0 e1
  rw [cells_sum] at hF
  refine ⟨⟨⟨z0, z1, F⟩, wf_i64 w0, wf_i64 w1, hb⟩, ?_⟩
  rw [List.take_of_length_le (by simp; omega)] at hF
  show cs = .int .i64 z0 :: .int .i64 z1 :: _
  rw [← hF, ← List.take_append_drop 1 cs]
  rw [List.drop_zero] at e0
  rw [e0, ← List.take_append_drop 1 (cs.drop 1), e1, List.drop_drop]
  rfl
end

/-- any pointer, opened -/
theorem open_ptr {H : Type} {enc : TypeId × Value → H} {W : World} {r : Reach} {b0 base : Nat} {sp : Nat → Bool} {held : Bool} {v : Value} {d : DataW H} {ps : List MemPlace}
    (hval : Value.okWide Try.prog W r b0 24 v) (h : DataW.Trod enc Try.prog W base sp held 24 v d ps) : ∃ p : Pt.Pn, v = .agg (Pt.pV p).toArray ∧ PtOk p := by
  obtain ⟨cs, rfl, _⟩ := okWide_struct Try.underlying24 hval
  obtain ⟨fuel, hf⟩ := h
  obtain ⟨p, hp⟩ := ptr_read hf
  refine ⟨p.1, ?_, p.2⟩
  have hp' : cs.toList = Pt.pV p.1 := by simpa [Value.cells] using hp
  rw [← hp']
/-- any byte, opened -/
theorem open_u8 {H : Type} {enc : TypeId × Value → H} {W : World} {r : Reach} {b0 base : Nat} {sp : Nat → Bool} {held : Bool} {v : Value} {d : DataW H} {ps : List MemPlace} (hval : Value.okWide Try.prog W r b0 5 v) (h : DataW.Trod enc Try.prog W base sp held 5 v d ps) :
    ∃ z : Nat, v = .int .u8 z ∧ z < 256 := by
  obtain ⟨z, rfl, _, _, hw⟩ := open_int under_u8 hval h
  have := wf_u8 hw
  exact ⟨z.toNat, by rw [Int.toNat_of_nonneg this.1], by omega⟩

instance : Inhabited { p : Pt.Pn // PtOk p } := ⟨⟨Pt.pz, by unfold PtOk Pt.pz Pt.zS; simp⟩⟩
/-- a slice of rows -/
theorem open_rows {H : Type} {enc : TypeId × Value → H} {W : World} {fuel : Nat} {cs : List Value} {x : DataW H × List MemPlace} {Ty : Type} [Inhabited Ty] {V : Ty → List Value} {t e : TypeId} {k : Nat} (ht : Try.prog.underlying t = some (.slice e)) (hk : Try.prog.cellsOf e = k) (hk0 : 0 < k)
    (hop : ∀ (fuel : Nat) (cs : List Value) (x : DataW H × List MemPlace), DataW.trod enc Try.prog W 0 (fun _ => true) true fuel e cs = some x → ∃ s, cs = V s)
    (h : DataW.trod enc Try.prog W 0 (fun _ => true) true fuel t cs = some x) (hlt : ∀ p ∈ x.2, p.block < W.heap.size) :
    ∃ (ao : Option Addr) (n cap : Nat) (F : Nat → Ty), cs = [.slice ao n cap] ∧ Lay W W.heap.size W.heap.size ao n cap k (fun i => V (F i)) ∧ (n = 0 ∨ ∃ el rest, x.1 = .slice el rest ∧ el.length = n) := by
  rcases Go.Deep.open_slice ht h with ⟨rfl, rfl⟩ | ⟨a, len, cap, m, fu, D, Pl, rfl, _, hl, hm, hmm, rfl, hx⟩
  · exact ⟨none, 0, 0, fun _ => default, rfl, ⟨Nat.le_refl _, fun _ => rfl, .inl rfl⟩, .inl rfl⟩
  · simp only [if_true] at hmm
    subst hmm
    rw [hk] at hx hlt
    have hx' : ∀ i, i < m → ∃ s, W.cells? 0 (a.add (i * k)) k = some (V s) := fun i hi => by
      obtain ⟨cs', h1, h2⟩ := hx i hi
      obtain ⟨s, rfl⟩ := hop _ _ _ h2
      exact ⟨s, h1⟩
    obtain ⟨F, hF⟩ := Go.Deep.choose_lt hx'
    refine ⟨some a, len, m, F, rfl, ⟨hl, (fun hn => by cases hn), ?_⟩, .inr ⟨_, _, rfl, by simp⟩⟩
    rcases Nat.eq_zero_or_pos len with h0 | h0
    · exact .inl h0
    · right
      obtain ⟨b, off, spot⟩ := a
      have hpos : 0 < m * k := Nat.mul_pos (by omega) hk0
      have hb : b < W.heap.size := hlt (.cell b off) (List.mem_append.2 (.inl (MemPlace.mem_row.2 ⟨0, hpos, by simp⟩)))
      obtain ⟨_, hlen0, hc0⟩ := World.cells?_some (hF 0 (by omega))
      have hspot : spot = none := by
        have h00 := hc0 0 hk0
        rw [List.getElem?_eq_getElem (by omega)] at h00
        simpa [Addr.add] using World.cell?_spot h00
      subst hspot
      refine ⟨b, off, rfl, hb, by omega, fun i hi j v hv => ?_⟩
      obtain ⟨_, hlen, hc⟩ := World.cells?_some (hF i (by omega))
      have hj : j < k := by
        rw [← hlen]
        exact (List.getElem?_eq_some_iff.1 hv).1
      have := hc j hj
      rw [hv, add_plain, add_plain] at this
      exact this
end PLaw
end Go.Proofs.Ytnmljjehkdbbjaa
