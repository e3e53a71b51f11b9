import Derived.Test.YtebgaafaokiigaaGreatDoorPJWd
import Derived.WalkKit
import Derived.ProofKit
import Derived.OpenShut
import Derived.SizedLaws
import Derived.Deep.DeepHandedRow
import Derived.Lib.SmallJoins
import Derived.ChangeMaps5
import Derived.Test.YtebgaafaokiigaaGreatDoorPJPt
import Derived.Deep.Slices
import Derived.Test.YtebgaafaokiigaaGreatDoorPJSpA
import Derived.Test.YtebgaafaokiigaaGreatDoorPJRb
import Derived.Test.YtebgaafaokiigaaGreatDoorPJDn
/- From a law's walk to what its row asks: for a law of any arguments that answers true and leaves old memory as it was. Arguments opened: bytes, numbers, texts, arrays of integers. -/
namespace Go.Proofs.YtebgaafaokiigaaGreatDoor
set_option maxRecDepth 20000
namespace Law
open Go.ChangeShapes Go.WideShapes Go.ChangeAt Go.RowKit Go.ChangeMaps Byt

theorem own : ownKnob Tryz.prog.godebug = none := by kernel_rfl
theorem under_u8 : Tryz.prog.underlying 5 = some (.int .u8) := by kernel_rfl
theorem under_int : Tryz.prog.underlying 3 = some (.int .i64) := by kernel_rfl
theorem under_bool : Tryz.prog.underlying 4 = some .bool := by kernel_rfl
theorem cells_u8 : Tryz.prog.cellsOf 5 = 1 := by kernel_rfl
theorem cells_int : Tryz.prog.cellsOf 3 = 1 := by kernel_rfl
theorem bytes_u8 : Tryz.prog.bytesOf 5 = 1 := by kernel_rfl
theorem laid_out : laidOutB Tryz.prog = true := by kernel_rfl

/-- what old memory held, arguments read behind the call -/
theorem trodAll_below {H : Type} {enc : TypeId × Value → H} {W W' : World} (hb : Below W.heap.size W W') : ∀ (ts : List TypeId) (vs : List Value) (ds : List (DataW H)) (ps : List MemPlace),
    (∀ t ∈ ts, Tryz.prog.readableRec t = true ∧ t < Tryz.prog.types.size) → DataW.TrodAll enc Tryz.prog W 0 (fun _ => true) true ts vs ds ps → (∀ x ∈ ps, x.block < W.heap.size) →
    DataW.TrodAll enc Tryz.prog W' 0 (fun b => decide (b < W.heap.size)) true ts vs ds ps
  | [], vs, ds, ps, _, h, _ => by
    obtain ⟨rfl, rfl, rfl⟩ := trodAll_nil h
    exact trodAll_mk0
  | t :: ts, vs, ds, ps, hr, h, hlt => by
    obtain ⟨v, vs', d, ds', p, q, rfl, rfl, rfl, h1, h2⟩ := trodAll_cons h
    exact trodAll_cons_mk (Below.trod laid_out (hr t (by simp)).1 (hr t (by simp)).2 h1 hb (fun x hx => hlt x (by simp [hx])))
      (trodAll_below hb ts vs' ds' q (fun t ht => hr t (by simp [ht])) h2 (fun x hx => hlt x (by simp [hx])))

/-- the law's post, out of its walk -/
theorem law_post {s : ChangeSpec} (hv : s.vars = []) {f : FuncId} {fn : Func} (hr : fn.resultTypes = #[4]) (hp : ∀ t ∈ fn.params.toList, Tryz.prog.readableRec t = true ∧ t < Tryz.prog.types.size)
    {H : Type} {enc : TypeId × Value → H} {W : World} {args : Array Value} {ds gs : List (DataW H)} {before : List MemPlace} (hs : s.fn H ds = { results := [.lit (.bool true)], args := ds })
    (hW : DataW.Whole enc Tryz.prog fn.params.toList s.vars false W args.toList ds gs before)
    (walk : Calls Tryz.prog f args W fun e W' => e = .returned (.bool true) ∧ Below W.heap.size W W') :
    Calls Tryz.prog f args W fun e W' => ∃ v, e = .returned v ∧ s.post enc Tryz.prog fn false true false false W args v W' := by
  have hW' := hW
  obtain ⟨p, q, hA0, hV, rfl, hfz, hnd⟩ := hW
  rw [hv] at hV
  obtain ⟨rfl, rfl⟩ := trodVars_none hV
  refine walk.mono fun e W' ⟨he, hb⟩ => ?_
  subst he
  have hlt : ∀ x ∈ p, x.block < W.heap.size := fun x hx => by simpa using hW'.lt x (by simpa using hx)
  rw [List.append_nil] at hW'
  refine ⟨_, rfl, _, _, _, [], p, [], hW', ?_, ?_, ?_, hb.frame _, fun h => by cases h⟩
  · rw [hr, List.append_nil, hs]
    exact trodAll_cons_mk (shut_bool under_bool _) trodAll_mk0
  · rw [List.append_nil, hs]
    exact trodAll_below hb _ _ _ _ hp hA0 hlt
  · rw [hv, List.append_nil, hs]
    rfl

theorem wf_i64 {z : Int} (h : (Lit.int .i64 z).wf = true) : -9223372036854775808 ≤ z ∧ z ≤ 9223372036854775807 := by
  have h1 : IntKind.i64.min = -9223372036854775808 := rfl
  have h2 : IntKind.i64.max = 9223372036854775807 := rfl
  simp only [Lit.wf, Bool.and_eq_true, decide_eq_true_eq] at h
  omega
/-- any int, opened -/
theorem open_num {H : Type} {enc : TypeId × Value → H} {W : World} {r : Reach} {b0 base : Nat} {sp : Nat → Bool} {held : Bool} {v : Value} {d : DataW H} {ps : List MemPlace} (hval : Value.okWide Tryz.prog W r b0 3 v) (h : DataW.Trod enc Tryz.prog W base sp held 3 v d ps) :
    ∃ z : Int, v = .int .i64 z ∧ -9223372036854775808 ≤ z ∧ z ≤ 9223372036854775807 := by
  obtain ⟨z, rfl, _, _, hw⟩ := open_int under_int hval h
  exact ⟨z, rfl, wf_i64 hw⟩
end Law
end Go.Proofs.YtebgaafaokiigaaGreatDoor
/- ptr: blocks, pointers, slices of pointers, small numbers, opened. -/
namespace Go.Proofs.YtebgaafaokiigaaGreatDoor
set_option maxRecDepth 20000
namespace PLaw
open Go.ChangeShapes Go.WideShapes Go.ChangeAt Go.RowKit Go.ChangeMaps Law Dk Byt

theorem cells_arr : Tryz.prog.cellsOf 47 = 128 := by kernel_rfl
theorem under_arr : Tryz.prog.underlying 47 = some (.array 128 5) := by kernel_rfl
theorem cells_sum : Tryz.prog.cellsOf 35 = 32 := by kernel_rfl
theorem under_sum : Tryz.prog.underlying 35 = some (.array 32 5) := by kernel_rfl
theorem cells_ptr : Tryz.prog.cellsOf 37 = 34 := by kernel_rfl
theorem wf_u8 {z : Int} (h : (Lit.int .u8 z).wf = true) : 0 ≤ z ∧ z < 256 := by
  have h1 : IntKind.u8.min = 0 := rfl
  have h2 : IntKind.u8.max = 255 := rfl
  simp only [Lit.wf, Bool.and_eq_true, decide_eq_true_eq] at h
  omega

section
variable {H : Type} {enc : TypeId × Value → H} {w : World} {base : Nat} {sp : Nat → Bool} {held : Bool} {fuel : Nat} {cs : List Value} {x : DataW H × List MemPlace}
/-- the cells of n bytes -/
theorem bytes_read {t : TypeId} {n : Nat} (hu : Tryz.prog.underlying t = some (.array n 5)) (hc : Tryz.prog.cellsOf t = n) (h : DataW.trod enc Tryz.prog w base sp held fuel t cs = some x) : ∃ F : Nat → Int, cs = (List.range n).map (fun j => .int .u8 (F j)) ∧ ∀ i, i < n → 0 ≤ F i ∧ F i < 256 := by
  obtain ⟨xs, m, _, _, hl, hxl, hall⟩ := DataW.trod_array hu h
  rw [hc] at hl
  have key : ∀ i, i < n → ∃ z, cs[i]? = some (.int .u8 z) ∧ 0 ≤ z ∧ z < 256 := by
    intro i hi
    have h1 := hall i hi
    rw [cells_u8, Nat.mul_one] at h1
    obtain ⟨y, hy⟩ : ∃ y, xs[i]? = some y := ⟨xs[i]'(by omega), by simp⟩
    rw [hy] at h1
    obtain ⟨z, hz, _, hw⟩ := DataW.trod_int under_u8 h1
    refine ⟨z, ?_, wf_u8 hw⟩
    have := congrArg (·[0]?) hz
    simpa [List.getElem?_take, List.getElem?_drop] using this
  obtain ⟨F, hF⟩ := Go.Deep.choose_lt key
  refine ⟨F, List.ext_getElem? fun i => ?_, fun i hi => (hF i hi).2⟩
  by_cases hi : i < n
  · rw [(hF i hi).1]
    simp [hi]
  · rw [List.getElem?_eq_none (by omega), List.getElem?_eq_none (by simp; omega)]
def PtOk (p : Pt.Pn) : Prop := (-9223372036854775808 ≤ p.A ∧ p.A ≤ 9223372036854775807) ∧ (-9223372036854775808 ≤ p.B ∧ p.B ≤ 9223372036854775807) ∧ ∀ j, j < 32 → 0 ≤ p.S j ∧ p.S j < 256
theorem ptr_read (h : DataW.trod enc Tryz.prog w base sp held fuel 37 cs = some x) : ∃ p : { p : Pt.Pn // PtOk p }, cs = Pt.pV p.1 := by
  obtain ⟨y0, y1, y2, n, _, hl, h0, h1, h2⟩ := Go.Deep.trod_struct3 Tryz.underlying37 h
  rw [cells_ptr] at hl
  obtain ⟨z0, e0, _, w0⟩ := DataW.trod_int under_int h0
  obtain ⟨z1, e1, _, w1⟩ := DataW.trod_int under_int h1
  obtain ⟨F, hF, hb⟩ := bytes_read under_sum cells_sum h2
  rw [cells_int] at e0 e1
  rw [cells_sum] at hF
  refine ⟨⟨⟨z0, z1, F⟩, wf_i64 w0, wf_i64 w1, hb⟩, ?_⟩
  rw [List.take_of_length_le (by simp; omega)] at hF
  show cs = .int .i64 z0 :: .int .i64 z1 :: _
  rw [← hF, ← List.take_append_drop 1 cs]
  rw [List.drop_zero] at e0
  rw [e0, ← List.take_append_drop 1 (cs.drop 1), e1, List.drop_drop]
  rfl
end

/-- any pointer, opened -/
theorem open_ptr {H : Type} {enc : TypeId × Value → H} {W : World} {r : Reach} {b0 base : Nat} {sp : Nat → Bool} {held : Bool} {v : Value} {d : DataW H} {ps : List MemPlace}
    (hval : Value.okWide Tryz.prog W r b0 37 v) (h : DataW.Trod enc Tryz.prog W base sp held 37 v d ps) : ∃ p : Pt.Pn, v = .agg (Pt.pV p).toArray ∧ PtOk p := by
  obtain ⟨cs, rfl, _⟩ := okWide_struct Tryz.underlying37 hval
  obtain ⟨fuel, hf⟩ := h
  obtain ⟨p, hp⟩ := ptr_read hf
  refine ⟨p.1, ?_, p.2⟩
  have hp' : cs.toList = Pt.pV p.1 := by simpa [Value.cells] using hp
  rw [← hp']
instance : Inhabited { p : Pt.Pn // PtOk p } := ⟨⟨Pt.pz, by unfold PtOk Pt.pz Pt.zS; simp⟩⟩
/-- a slice of rows -/
theorem open_rows {H : Type} {enc : TypeId × Value → H} {W : World} {fuel : Nat} {cs : List Value} {x : DataW H × List MemPlace} {Ty : Type} [Inhabited Ty] {V : Ty → List Value} {t e : TypeId} {k : Nat} (ht : Tryz.prog.underlying t = some (.slice e)) (hk : Tryz.prog.cellsOf e = k) (hk0 : 0 < k)
    (hop : ∀ (fuel : Nat) (cs : List Value) (x : DataW H × List MemPlace), DataW.trod enc Tryz.prog W 0 (fun _ => true) true fuel e cs = some x → ∃ s, cs = V s)
    (h : DataW.trod enc Tryz.prog W 0 (fun _ => true) true fuel t cs = some x) (hlt : ∀ p ∈ x.2, p.block < W.heap.size) :
    ∃ (ao : Option Addr) (n cap : Nat) (F : Nat → Ty), cs = [.slice ao n cap] ∧ Lay W W.heap.size W.heap.size ao n cap k (fun i => V (F i)) ∧ (n = 0 ∨ ∃ el rest, x.1 = .slice el rest ∧ el.length = n) := by
  rcases Go.Deep.open_slice ht h with ⟨rfl, rfl⟩ | ⟨a, len, cap, m, fu, D, Pl, rfl, _, hl, hm, hmm, rfl, hx⟩
  · exact ⟨none, 0, 0, fun _ => default, rfl, ⟨Nat.le_refl _, fun _ => rfl, .inl rfl⟩, .inl rfl⟩
  · simp only [if_true] at hmm
    subst hmm
    rw [hk] at hx hlt
    have hx' : ∀ i, i < m → ∃ s, W.cells? 0 (a.add (i * k)) k = some (V s) := fun i hi => by
      obtain ⟨cs', h1, h2⟩ := hx i hi
      obtain ⟨s, rfl⟩ := hop _ _ _ h2
      exact ⟨s, h1⟩
    obtain ⟨F, hF⟩ := Go.Deep.choose_lt hx'
    refine ⟨some a, len, m, F, rfl, ⟨hl, (fun hn => by cases hn), ?_⟩, .inr ⟨_, _, rfl, by simp⟩⟩
    rcases Nat.eq_zero_or_pos len with h0 | h0
    · exact .inl h0
    · right
      obtain ⟨b, off, spot⟩ := a
      have hpos : 0 < m * k := Nat.mul_pos (by omega) hk0
      have hb : b < W.heap.size := hlt (.cell b off) (List.mem_append.2 (.inl (MemPlace.mem_row.2 ⟨0, hpos, by simp⟩)))
      obtain ⟨_, hlen0, hc0⟩ := World.cells?_some (hF 0 (by omega))
      have hspot : spot = none := by
        have h00 := hc0 0 hk0
        rw [List.getElem?_eq_getElem (by omega)] at h00
        simpa [Addr.add] using World.cell?_spot h00
      subst hspot
      refine ⟨b, off, rfl, hb, by omega, fun i hi j v hv => ?_⟩
      obtain ⟨_, hlen, hc⟩ := World.cells?_some (hF i (by omega))
      have hj : j < k := by
        rw [← hlen]
        exact (List.getElem?_eq_some_iff.1 hv).1
      have := hc j hj
      rw [hv, add_plain, add_plain] at this
      exact this
end PLaw
end Go.Proofs.YtebgaafaokiigaaGreatDoor
/- vol: any volume, opened. -/
namespace Go.Proofs.YtebgaafaokiigaaGreatDoor
set_option maxRecDepth 20000
namespace VLaw
open Go.ChangeShapes Go.WideShapes Go.ChangeAt Go.RowKit Go.ChangeMaps Law Dk Byt

theorem cells_bool : Tryz.prog.cellsOf 4 = 1 := by kernel_rfl
theorem slice_sec : Tryz.prog.underlying 22 = some (.slice 74) := by kernel_rfl
theorem slice_wr : Tryz.prog.underlying 23 = some (.slice 139) := by kernel_rfl
theorem cells_secs : Tryz.prog.cellsOf 22 = 1 := by kernel_rfl
theorem cells_wrs : Tryz.prog.cellsOf 23 = 1 := by kernel_rfl
theorem cells_prs : Tryz.prog.cellsOf 26 = 1 := by kernel_rfl
theorem cells_arr : Tryz.prog.cellsOf 47 = 128 := by kernel_rfl
theorem cells_secty : Tryz.prog.cellsOf 74 = 130 := by kernel_rfl
theorem cells_wrty : Tryz.prog.cellsOf 139 = 129 := by kernel_rfl
theorem cells_disk : Tryz.prog.cellsOf 25 = 4 := by kernel_rfl
theorem bytes_secty : Tryz.prog.bytesOf 74 = 130 := by kernel_rfl
theorem bytes_wrty : Tryz.prog.bytesOf 139 = 136 := by kernel_rfl
theorem under_arr : Tryz.prog.underlying 47 = some (.array 128 5) := by kernel_rfl

instance : Inhabited Sec := ⟨sec0⟩
instance : Inhabited Wr := ⟨⟨0, fun _ => 0⟩⟩

section
variable {H : Type} {enc : TypeId × Value → H} {w : World} {base : Nat} {sp : Nat → Bool} {held : Bool} {fuel : Nat} {cs : List Value} {x : DataW H × List MemPlace}

/-- the cells of 128 bytes -/
theorem bl_read (h : DataW.trod enc Tryz.prog w base sp held fuel 47 cs = some x) : ∃ F : Nat → Int, cs = bl F := by
  obtain ⟨xs, m, _, _, hl, hxl, hall⟩ := DataW.trod_array under_arr h
  rw [cells_arr] at hl
  have key : ∀ i, i < 128 → ∃ z, cs[i]? = some (.int .u8 z) := by
    intro i hi
    have h1 := hall i hi
    rw [cells_u8, Nat.mul_one] at h1
    obtain ⟨y, hy⟩ : ∃ y, xs[i]? = some y := ⟨xs[i]'(by omega), by simp⟩
    rw [hy] at h1
    obtain ⟨z, hc, _, _⟩ := DataW.trod_int under_u8 h1
    refine ⟨z, ?_⟩
    have := congrArg (·[0]?) hc
    simpa [List.getElem?_take, List.getElem?_drop] using this
  obtain ⟨F, hF⟩ := Go.Deep.choose_lt key
  refine ⟨F, List.ext_getElem? fun i => ?_⟩
  by_cases hi : i < 128
  · rw [hF i hi, bl_get F hi]
  · rw [List.getElem?_eq_none (by omega), List.getElem?_eq_none (by rw [bl_length]; omega)]
theorem tail2 {u v : Value} {X : List Value} (hl : cs.length = 130) (h0 : (cs.drop 0).take 128 = X) (h1 : (cs.drop 128).take 1 = [u]) (h2 : (cs.drop 129).take 1 = [v]) : cs = X ++ [u, v] := by
  have e2 : cs.drop 129 = [v] := by rwa [List.take_of_length_le (by simp; omega)] at h2
  have e1 : cs.drop 128 = [u, v] := by
    rw [← List.take_append_drop 1 (cs.drop 128), h1, List.drop_drop, e2]; rfl
  rw [List.drop_zero] at h0
  rw [← h0, ← e1, List.take_append_drop]
theorem sec_read (h : DataW.trod enc Tryz.prog w base sp held fuel 74 cs = some x) : ∃ s : Sec, cs = secV s := by
  obtain ⟨y0, y1, y2, n, _, hl, h0, h1, h2⟩ := Go.Deep.trod_struct3 Tryz.underlying74 h
  rw [cells_secty] at hl
  obtain ⟨F, hF⟩ := bl_read h0
  obtain ⟨b1, e1, _⟩ := DataW.trod_bool under_bool h1
  obtain ⟨b2, e2, _⟩ := DataW.trod_bool under_bool h2
  exact ⟨⟨F, b1, b2⟩, tail2 hl (by rw [← hF, ← cells_arr]) (by rw [← e1, ← cells_bool]) (by rw [← e2, ← cells_bool])⟩
theorem wr_read (h : DataW.trod enc Tryz.prog w base sp held fuel 139 cs = some x) : ∃ s : Wr, cs = wrV s := by
  obtain ⟨y0, y1, n, _, hl, h0, h1⟩ := trod_struct2 Tryz.underlying139 h
  rw [cells_wrty] at hl
  obtain ⟨F, hF⟩ := bl_read h1
  obtain ⟨z, e0, _⟩ := DataW.trod_int under_int h0
  refine ⟨⟨z, F⟩, ?_⟩
  rw [cells_arr] at hF
  rw [cells_int] at e0
  rw [List.take_of_length_le (by simp; omega)] at hF
  show cs = .int .i64 z :: bl F
  rw [← List.take_append_drop 1 cs, ← hF]
  rw [List.drop_zero] at e0
  rw [e0]; rfl
end
abbrev PrT := { t : Int × Int // Rm.i64 t.1 ∧ Rm.i64 t.2 }
instance : Inhabited PrT := ⟨⟨(0, 0), by unfold Rm.i64; omega⟩⟩
def prT (t : PrT) : List Value := [.int .i64 t.1.1, .int .i64 t.1.2]
theorem cells_prty : Tryz.prog.cellsOf 134 = 2 := by kernel_rfl
theorem bytes_prty : Tryz.prog.bytesOf 134 = 16 := by kernel_rfl
theorem cells_rmty : Tryz.prog.cellsOf 28 = 2 := by kernel_rfl
theorem under_prs : Tryz.prog.underlying 26 = some (.slice 134) := by kernel_rfl
theorem pr_read {H : Type} {enc : TypeId × Value → H} {w : World} {base : Nat} {sp : Nat → Bool} {held : Bool} {fuel : Nat} {cs : List Value} {x : DataW H × List MemPlace} (h : DataW.trod enc Tryz.prog w base sp held fuel 134 cs = some x) : ∃ s : PrT, cs = prT s := by
  obtain ⟨y0, y1, n, _, hl, h0, h1⟩ := trod_struct2 Tryz.underlying134 h
  rw [cells_prty] at hl
  obtain ⟨z0, e0, _, w0⟩ := DataW.trod_int under_int h0
  obtain ⟨z1, e1, _, w1⟩ := DataW.trod_int under_int h1
  rw [cells_int] at e0 e1
  refine ⟨⟨(z0, z1), wf_i64 w0, wf_i64 w1⟩, ?_⟩
  match cs, hl with
  | [c0, c1], _ =>
    simp at e0 e1
    subst e0 e1
    rfl
theorem cells_two : Tryz.prog.cellsOf 29 = 2 := by kernel_rfl
theorem under_two : Tryz.prog.underlying 29 = some (.array 2 3) := by kernel_rfl
theorem cells_bs : Tryz.prog.cellsOf 30 = 1 := by kernel_rfl
theorem cells_space : Tryz.prog.cellsOf 32 = 4 := by kernel_rfl
section
variable {H : Type} {enc : TypeId × Value → H} {w : World} {base : Nat} {sp : Nat → Bool} {held : Bool} {fuel : Nat} {cs : List Value} {x : DataW H × List MemPlace}
theorem two_read (h : DataW.trod enc Tryz.prog w base sp held fuel 29 cs = some x) : ∃ a b : Int, cs = [.int .i64 a, .int .i64 b] ∧ Sp.i64 a ∧ Sp.i64 b := by
  obtain ⟨xs, m, _, _, hl, hxl, hall⟩ := DataW.trod_array under_two h
  rw [cells_two] at hl
  have key : ∀ i, i < 2 → ∃ z, cs[i]? = some (.int .i64 z) ∧ Sp.i64 z := by
    intro i hi
    have h1 := hall i hi
    rw [cells_int, Nat.mul_one] at h1
    obtain ⟨y, hy⟩ : ∃ y, xs[i]? = some y := ⟨xs[i]'(by omega), by simp⟩
    rw [hy] at h1
    obtain ⟨z, hz, _, hw⟩ := DataW.trod_int under_int h1
    refine ⟨z, ?_, wf_i64 hw⟩
    have := congrArg (·[0]?) hz
    simpa [List.getElem?_take, List.getElem?_drop] using this
  obtain ⟨a, ha, ba⟩ := key 0 (by omega)
  obtain ⟨b, hb, bb⟩ := key 1 (by omega)
  refine ⟨a, b, ?_, ba, bb⟩
  match cs, hl, ha, hb with
  | [c0, c1], _, ha, hb =>
    simp at ha hb
    rw [ha, hb]
end

theorem under_u16 : Tryz.prog.underlying 62 = some (.int .u16) := by kernel_rfl
theorem under_bl : Tryz.prog.underlying 4 = some .bool := by kernel_rfl
theorem open_u16 {H : Type} {enc : TypeId × Value → H} {W : World} {r : Reach} {b0 base : Nat} {sp : Nat → Bool} {held : Bool} {v : Value} {d : DataW H} {ps : List MemPlace} (hval : Value.okWide Tryz.prog W r b0 62 v) (h : DataW.Trod enc Tryz.prog W base sp held 62 v d ps) :
    ∃ z : Int, v = .int .u16 z ∧ 0 ≤ z ∧ z < 65536 := by
  obtain ⟨z, rfl, _, _, hw⟩ := open_int under_u16 hval h
  have h1 : IntKind.u16.min = 0 := rfl
  have h2 : IntKind.u16.max = 65535 := rfl
  simp only [Lit.wf, Bool.and_eq_true, decide_eq_true_eq] at hw
  exact ⟨z, rfl, by omega, by omega⟩
theorem open_bool9 {H : Type} {enc : TypeId × Value → H} {W : World} {r : Reach} {b0 base : Nat} {sp : Nat → Bool} {held : Bool} {v : Value} {d : DataW H} {ps : List MemPlace}
    (hval : Value.okWide Tryz.prog W r b0 4 v) (h : DataW.Trod enc Tryz.prog W base sp held 4 v d ps) : ∃ b : Bool, v = .bool b := by
  obtain ⟨b, e, _⟩ := Go.RowKit.open_bool under_bl hval h
  exact ⟨b, e⟩
theorem cells_vol : Tryz.prog.cellsOf 34 = 10 := by kernel_rfl
/-- any volume, opened -/
theorem open_vol {H : Type} {enc : TypeId × Value → H} {W : World} {r : Reach} {base : Nat} {v : Value} {d : DataW H} {ps : List MemPlace} {ts : List TypeId} {ds : List (DataW H)} {j : Nat}
    (hsz : (DataW.weightsEach Tryz.prog ts ds).all (· ≤ reachBytes) = true) (ht : ts[j]? = some 34) (hd : ds[j]? = some d)
    (hval : Value.okWide Tryz.prog W r base 34 v) (h0 : DataW.Trod enc Tryz.prog W 0 (fun _ => true) true 34 v d ps) (hlt : ∀ x ∈ ps, x.block < W.heap.size) :
    ∃ (sa : Option Addr) (n sc : Nat) (ca : Option Addr) (m cc : Nat) (fu : Int) (dn : Bool) (gen : Int) (pa : Option Addr) (k cap : Nat) (A B Z : Int) (ao : Option Addr) (kk kc : Nat) (S : Nat → Sec) (C : Nat → Wr) (F T : Nat → Int) (f : Nat → Int),
      v = .agg #[.slice sa n sc, .slice ca m cc, .int .i64 fu, .bool dn, .int .i64 gen, .slice pa k cap, .int .i64 A, .int .i64 B, .int .i64 Z, .slice ao kk kc] ∧
      n * 130 ≤ 140737488355328 ∧ m * 136 ≤ 140737488355328 ∧ k * 16 ≤ 140737488355328 ∧ (∀ i, i < k → Rm.i64 (F i) ∧ Rm.i64 (T i)) ∧ Sp.i64 B ∧
      Lay W W.heap.size W.heap.size sa n sc 130 (fun i => secV (S i)) ∧ Lay W W.heap.size W.heap.size ca m cc 129 (fun i => wrV (C i)) ∧ Lay W W.heap.size W.heap.size pa k cap 2 (Rm.prV F T) ∧ Sp.St W W.heap.size ao kk kc f := by
  obtain ⟨cs, rfl, hcs⟩ := okWide_struct Tryz.underlying34 hval
  obtain ⟨fuel, hf⟩ := h0
  obtain ⟨yD, yT, yS, fu, hx, hlen, tD, tT, tS⟩ := Go.Deep.trod_struct3 Tryz.underlying34 hf
  simp only [Prod.mk.injEq] at hx
  obtain ⟨hxd, hxp⟩ := hx
  have hl' : cs.toList.length = 10 := by rw [cells_vol] at hlen; simpa [Value.cells] using hlen
  obtain ⟨c0, c1, c2, c3, c4, c5, c6, c7, c8, c9, hc⟩ : ∃ c0 c1 c2 c3 c4 c5 c6 c7 c8 c9, cs.toList = [c0, c1, c2, c3, c4, c5, c6, c7, c8, c9] := by
    match cs.toList, hl' with
    | [c0, c1, c2, c3, c4, c5, c6, c7, c8, c9], _ => exact ⟨c0, c1, c2, c3, c4, c5, c6, c7, c8, c9, rfl⟩
  have hcs' : cs = #[c0, c1, c2, c3, c4, c5, c6, c7, c8, c9] := by rw [← Array.toArray_toList (xs := cs), hc]
  subst hcs'
  rw [cells_disk] at tD
  rw [cells_rmty] at tT
  rw [cells_space] at tS
  simp only [Value.cells, List.drop_succ_cons, List.drop_zero, List.take_succ_cons, List.take_zero] at tD tT tS
  obtain ⟨d0, d1, d2, d3, nD, hxD, _, s0, s1, s2, s3⟩ := Joins.trod_struct4 Tryz.underlying25 tD
  obtain ⟨e0, e1, nT, hxT, _, p0, p1⟩ := trod_struct2 Tryz.underlying28 tT
  obtain ⟨g0, g1, g2, nS, hxS, _, q0, q1, q2⟩ := Go.Deep.trod_struct3 Tryz.underlying32 tS
  replace hxD : yD.1 = _ ∧ yD.2 = _ := ⟨congrArg Prod.fst hxD, congrArg Prod.snd hxD⟩
  replace hxT : yT.1 = _ ∧ yT.2 = _ := ⟨congrArg Prod.fst hxT, congrArg Prod.snd hxT⟩
  replace hxS : yS.1 = _ ∧ yS.2 = _ := ⟨congrArg Prod.fst hxS, congrArg Prod.snd hxS⟩
  have ltD : ∀ x ∈ yD.2, x.block < W.heap.size := fun x hx => hlt x (by rw [hxp]; simp [hx])
  have ltT : ∀ x ∈ yT.2, x.block < W.heap.size := fun x hx => hlt x (by rw [hxp]; simp [hx])
  have ltS : ∀ x ∈ yS.2, x.block < W.heap.size := fun x hx => hlt x (by rw [hxp]; simp [hx])
  rw [cells_secs] at s0
  rw [cells_wrs] at s1
  rw [cells_int] at s2
  rw [cells_bool] at s3
  rw [cells_int] at p0
  rw [cells_prs] at p1
  rw [cells_two] at q0
  rw [cells_int] at q1
  rw [cells_bs] at q2
  simp only [List.drop_succ_cons, List.drop_zero, List.take_succ_cons, List.take_zero] at s0 s1 s2 s3 p0 p1 q0 q1 q2
  obtain ⟨fu', hf', _, wf⟩ := DataW.trod_int under_int s2
  obtain ⟨dn, hdn, _⟩ := DataW.trod_bool under_bool s3
  obtain ⟨gen, hg', _, wg⟩ := DataW.trod_int under_int p0
  obtain ⟨A, B, e9, bA, bB⟩ := two_read q0
  obtain ⟨Z, e10, _, wZ⟩ := DataW.trod_int under_int q1
  obtain ⟨sa, n, sc, S, hs, ls, ns⟩ := PLaw.open_rows (V := secV) slice_sec cells_secty (by omega) (fun _ _ _ h => sec_read h) s0 (fun p hp => ltD p (by rw [hxD.2]; simp [hp]))
  obtain ⟨ca, m, cc, C, hc', lc, nc⟩ := PLaw.open_rows (V := wrV) slice_wr cells_wrty (by omega) (fun _ _ _ h => wr_read h) s1 (fun p hp => ltD p (by rw [hxD.2]; simp [hp]))
  obtain ⟨pa, k, cap, Pq, hp', lp, np⟩ := PLaw.open_rows (V := prT) under_prs cells_prty (by omega) (fun _ _ _ h => pr_read h) p1 (fun p hp => ltT p (by rw [hxT.2]; simp [hp]))
  simp only [List.cons.injEq, and_true] at hf' hdn hg' hs hc' hp' e9 e10
  obtain ⟨rfl, rfl⟩ := e9
  subst hf' hdn hg' hs hc' hp' e10
  have bound : ∀ (el rest : List (DataW H)) (q : Nat), (el.length + rest.length) * q ∈ DataW.weights Tryz.prog 34 d → (el.length + rest.length) * q ≤ reachBytes := fun el rest q hmem => by
    simpa using List.all_eq_true.1 hsz _ (DataW.weights_mem_each ht hd _ hmem)
  have hd' : d = .agg [.agg [d0.1, d1.1, d2.1, d3.1], .agg [e0.1, e1.1], .agg [g0.1, g1.1, g2.1]] := by rw [hxd, hxD.1, hxT.1, hxS.1]
  have hn : n * 130 ≤ 140737488355328 := by
    rcases ns with rfl | ⟨el, rest, he, hl⟩
    · omega
    · have h9 := bound el rest 130 (by rw [hd', he]; simp [DataW.weights, DataW.weightsEach, Tryz.underlying34, Tryz.underlying25, bytes_secty])
      simp only [reachBytes] at h9
      omega
  have hm : m * 136 ≤ 140737488355328 := by
    rcases nc with rfl | ⟨el, rest, he, hl⟩
    · omega
    · have h9 := bound el rest 136 (by rw [hd', he]; simp [DataW.weights, DataW.weightsEach, Tryz.underlying34, Tryz.underlying25, bytes_wrty])
      simp only [reachBytes] at h9
      omega
  have hk : k * 16 ≤ 140737488355328 := by
    rcases np with rfl | ⟨el, rest, he, hl⟩
    · omega
    · have h9 := bound el rest 16 (by rw [hd', he]; simp [DataW.weights, DataW.weightsEach, Tryz.underlying34, Tryz.underlying28, bytes_prty])
      simp only [reachBytes] at h9
      omega
  have fin : ∀ (ao : Option Addr) (kk kc : Nat) (f : Nat → Int), c9 = .slice ao kk kc → Sp.St W W.heap.size ao kk kc f → ∃ (ao : Option Addr) (kk kc : Nat) (f : Nat → Int), c9 = .slice ao kk kc ∧ Sp.St W W.heap.size ao kk kc f := fun ao kk kc f h1 h2 => ⟨ao, kk, kc, f, h1, h2⟩
  obtain ⟨ao, kk, kc, f, rfl, hst⟩ : ∃ (ao : Option Addr) (kk kc : Nat) (f : Nat → Int), c9 = .slice ao kk kc ∧ Sp.St W W.heap.size ao kk kc f := by
    rcases open_ints bytes_slice under_u8 cells_u8 q2 with ⟨hs, hx⟩ | ⟨a, len, cap, zs, hs, _, hlc, hm, hz, hx, hcell, hwz⟩
    · simp at hs
      exact fin none 0 0 (fun _ => 0) hs ⟨⟨Nat.le_refl _, fun _ => rfl, fun h => absurd rfl h⟩, fun i hi => by omega, by omega⟩
    · simp at hs
      simp only [if_true] at hz
      have hreach : len ≤ 140737488351232 := by
        have hmem : ((lits IntKind.u8 (zs.take len) : List (DataW H)).length + (lits IntKind.u8 (zs.drop len) : List (DataW H)).length) * 1 ∈ DataW.weights Tryz.prog 34 d := by
          rw [hd', hx]
          simp [DataW.weights, DataW.weightsEach, Tryz.underlying34, Tryz.underlying32, Tryz.underlying30, bytes_u8]
        have h9 := List.all_eq_true.1 hsz _ (DataW.weights_mem_each ht hd _ hmem)
        simp [lits, reachBytes] at h9
        omega
      refine fin (some a) len cap (fun i => zs.getD i 0) hs ⟨⟨by simp [tab]; omega, by simp, fun hne => ?_⟩, fun i hi => ?_, by omega⟩
      · have hpos : 0 < len := by
          rcases Nat.eq_zero_or_pos len with h | h
          · subst h; exact absurd rfl hne
          · exact h
        obtain ⟨b, off, spot⟩ := a
        have hspot : spot = none := by simpa [Addr.add] using World.cell?_spot (hcell 0 (by omega))
        subst hspot
        have hlt2 : ∀ x ∈ g2.2, x.block < W.heap.size := fun x hx => ltS x (by rw [hxS.2]; simp [hx])
        rw [hx] at hlt2
        refine ⟨b, off, rfl, hlt2 (.cell b off) (MemPlace.mem_row.2 ⟨0, by omega, by simp⟩), fun i hi => ?_⟩
        have hi' : i < len := by simpa [tab] using hi
        rw [tab_getD len _ hi', ← add_plain, hcell i (by omega)]
      · have h1 : zs.getD i 0 ∈ zs := by
          rw [List.getD_eq_getElem?_getD, List.getElem?_eq_getElem (by omega : i < zs.length)]
          exact List.getElem_mem _
        have := hwz _ h1
        have h1 : IntKind.u8.min = 0 := rfl
        have h2 : IntKind.u8.max = 255 := rfl
        simp only [Lit.wf, Bool.and_eq_true, decide_eq_true_eq] at this
        omega
  exact ⟨sa, n, sc, ca, m, cc, fu', dn, gen, pa, k, cap, A, B, Z, ao, kk, kc, S, C, fun i => (Pq i).1.1, fun i => (Pq i).1.2, f, rfl, hn, hm, hk, fun i _ => (Pq i).2, bB, ls, lc, lp, hst⟩
end VLaw
end Go.Proofs.YtebgaafaokiigaaGreatDoor
