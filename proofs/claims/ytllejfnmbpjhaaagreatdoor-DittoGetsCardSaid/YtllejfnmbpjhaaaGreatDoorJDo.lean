import Derived.Test.YtllejfnmbpjhaaaGreatDoorJDn
import Derived.WalkKit
import Derived.ProofKit
import Derived.OpenShut
import Derived.SizedLaws
import Derived.Deep.DeepHandedRow
import Derived.Lib.SmallJoins
import Derived.ChangeMaps5
/- disk: the laws of Flush and Crash, walked. -/
namespace Go.Proofs.YtllejfnmbpjhaaaGreatDoor
set_option maxRecDepth 20000
namespace Dk
open Go.RowKit

theorem Lay.far {w w' : World} {B g : Nat} {ao : Option Addr} {n cap k : Nat} {T : Nat → List Value} (h : Lay w B g ao n cap k T) (hk : ∀ i, i < n → (T i).length = k) (hk4 : 4 < k) {q : Nat} {cs : Array Value} {t : TypeId} {fr : Nat × Nat} (hq : w.heap[q]? = some (.cells cs t fr)) (hs : cs.size = 4) (hg : w.grownBy w' (some q)) (hB : B ≤ w.heap.size) : Lay w' B g ao n cap k T := by
  refine ⟨h.room, h.nil, ?_⟩
  rcases h.rows with h0 | ⟨b, off, e, hb, hne, hr⟩
  · exact .inl h0
  · rcases Nat.eq_zero_or_pos n with h0 | h0
    · exact .inl h0
    · have hbq : b ≠ q := by
        rintro rfl
        have hl := hk 0 h0
        have h4 : 4 < (T 0).length := by omega
        have := hr 0 h0 4 _ (List.getElem?_eq_getElem h4)
        rw [cell_of_row w b _ cs t fr hq, Array.getElem?_eq_none (by omega)] at this
        cases this
      exact .inr ⟨b, off, e, hb, hne, fun i hi j v hv => (World.cell?_of_block (w := w) (hg.block b (by omega) (by simpa using hbq))).trans (hr i hi j v hv)⟩
/-- a disk, behind what turned another one -/
theorem Has.apart {w w' : World} {g q : Nat} {sa ca : Option Addr} {n sc m cc : Nat} {S : Nat → Sec} {C : Nat → Wr} {f : Int} {d : Bool} {cs : Array Value} {t : TypeId} {fr : Nat × Nat} (h : Has w g sa ca n sc m cc S C f d) (hq : w.heap[q]? = some (.cells cs t fr)) (hs : cs.size = 4) (hne : g ≠ q) (hg : w.grownBy w' (some q)) : Has w' g sa ca n sc m cc S C f d :=
  ⟨h.bx.block (hg.block g h.bx.lt (by simpa using hne)), (h.ss.far (fun i _ => secV_length _) (by omega) hq hs hg (Nat.le_refl _)).more hg.size, (h.cs.far (fun i _ => wrV_length _) (by omega) hq hs hg (Nat.le_refl _)).more hg.size, h.nb, h.mb⟩
theorem two_boxes (w : World) (va vb : Array Value) : ∀ W, W = (((w.alloc (.cells #[.slice none 0 0, .slice none 0 0, .int .i64 0, .bool false] 25)).alloc (.cells #[.slice none 0 0, .slice none 0 0, .int .i64 0, .bool false] 25)).setRow w.heap.size va).setRow (w.heap.size + 1) vb →
    W.heap[w.heap.size]? = some (.cells va 25 (0, 0)) ∧ W.heap[w.heap.size + 1]? = some (.cells vb 25 (0, 0)) ∧ Below w.heap.size w W ∧ W.heap.size = w.heap.size + 2 := by
  rintro W rfl
  have h0 : ((w.alloc (.cells #[.slice none 0 0, .slice none 0 0, .int .i64 0, .bool false] 25)).alloc (.cells #[.slice none 0 0, .slice none 0 0, .int .i64 0, .bool false] 25)).heap[w.heap.size]? = some (.cells #[.slice none 0 0, .slice none 0 0, .int .i64 0, .bool false] 25 (0, 0)) := (Below.heap_alloc _ _ _ (by simp)).trans (heap_alloc_new w _)
  have h1 : ((w.alloc (.cells #[.slice none 0 0, .slice none 0 0, .int .i64 0, .bool false] 25)).alloc (.cells #[.slice none 0 0, .slice none 0 0, .int .i64 0, .bool false] 25)).heap[w.heap.size + 1]? = some (.cells #[.slice none 0 0, .slice none 0 0, .int .i64 0, .bool false] 25 (0, 0)) := by
    have := heap_alloc_new (w.alloc (.cells #[.slice none 0 0, .slice none 0 0, .int .i64 0, .bool false] 25)) (.cells #[.slice none 0 0, .slice none 0 0, .int .i64 0, .bool false] 25)
    simpa using this
  have hA := setRow_heap _ w.heap.size _ va 25 (0, 0) h0
  refine ⟨(setRow_other _ _ _ _ (by omega)).trans hA, setRow_heap _ _ _ vb 25 (0, 0) ((setRow_other _ _ _ _ (by omega)).trans h1), ?_, by simp⟩
  refine ⟨rfl, rfl, rfl, by simp; omega, fun k hk => ?_⟩
  rw [setRow_other _ _ _ _ (by omega), setRow_other _ _ _ _ (by omega), Below.heap_alloc _ _ _ (by simp; omega), Below.heap_alloc _ _ _ hk]
theorem two_mid (w : World) (va : Array Value) : (((w.alloc (.cells #[.slice none 0 0, .slice none 0 0, .int .i64 0, .bool false] 25)).alloc (.cells #[.slice none 0 0, .slice none 0 0, .int .i64 0, .bool false] 25)).setRow w.heap.size va).heap[w.heap.size + 1]? = some (.cells #[.slice none 0 0, .slice none 0 0, .int .i64 0, .bool false] 25 (0, 0)) := by
  refine (setRow_other _ _ _ _ (by omega)).trans ?_
  have := heap_alloc_new (w.alloc (.cells #[.slice none 0 0, .slice none 0 0, .int .i64 0, .bool false] 25)) (.cells #[.slice none 0 0, .slice none 0 0, .int .i64 0, .bool false] 25)
  simpa using this
theorem Copied.has {w w2 W : World} {n m : Nat} {S : Nat → Sec} {C : Nat → Wr} {f : Int} {d : Bool} {sa ca : Option Addr} {sc cc : Nat} (p : w2.ownsRow w.heap.size 68 130 (.slice sa n sc) n (flat (fun i => secV (S i)) n)) (q : w2.ownsRow w.heap.size 70 129 (.slice ca m cc) m (flat (fun i => wrV (C i)) m))
    (hb : Below w2.heap.size w2 W) {A : Nat} (hA : w2.heap.size ≤ A) (hx : W.heap[A]? = some (.cells #[.slice sa n sc, .slice ca m cc, .int .i64 f, .bool d] 25 (0, 0))) (nb : n * 130 ≤ 140737488355328) (mb : m * 136 ≤ 140737488355328) : Has W A sa ca n sc m cc S C f d :=
  ⟨hx, ((lay_own (fun _i _ => secV_length _) p (.inr hA)).below hb).more hb.size, ((lay_own (fun _i _ => wrV_length _) q (.inr hA)).below hb).more hb.size, nb, mb⟩

theorem two_boxes2 (w : World) (va vb : Array Value) : ∃ W, W = (((w.alloc (.cells #[.slice none 0 0, .slice none 0 0, .int .i64 0, .bool false] 25)).alloc (.cells #[.slice none 0 0, .slice none 0 0, .int .i64 0, .bool false] 25)).setRow w.heap.size va).setRow (w.heap.size + 1) vb ∧
    W.heap[w.heap.size]? = some (.cells va 25 (0, 0)) ∧ W.heap[w.heap.size + 1]? = some (.cells vb 25 (0, 0)) ∧ Below w.heap.size w W ∧ W.heap.size = w.heap.size + 2 := ⟨_, rfl, two_boxes w va vb _ rfl⟩

end Dk
end Go.Proofs.YtllejfnmbpjhaaaGreatDoor
/- disk: arguments of a law, opened; from a law's walk to what its row asks. -/
namespace Go.Proofs.YtllejfnmbpjhaaaGreatDoor
set_option maxRecDepth 20000
namespace DLaw
open Go.ChangeShapes Go.WideShapes Go.ChangeAt Go.RowKit Go.ChangeMaps Dk

theorem own : ownKnob Tryz.prog.godebug = none := by kernel_rfl
theorem under_u8 : Tryz.prog.underlying 5 = some (.int .u8) := by kernel_rfl
theorem under_int : Tryz.prog.underlying 3 = some (.int .i64) := by kernel_rfl
theorem under_bool : Tryz.prog.underlying 4 = some .bool := by kernel_rfl
theorem cells_u8 : Tryz.prog.cellsOf 5 = 1 := by kernel_rfl
theorem cells_int : Tryz.prog.cellsOf 3 = 1 := by kernel_rfl
theorem bytes_u8 : Tryz.prog.bytesOf 5 = 1 := by kernel_rfl
theorem cells_bool : Tryz.prog.cellsOf 4 = 1 := by kernel_rfl
theorem laid_out : laidOutB Tryz.prog = true := by kernel_rfl

/-- what old memory held, arguments read behind the call -/
theorem trodAll_below {H : Type} {enc : TypeId × Value → H} {W W' : World} (hb : Below W.heap.size W W') : ∀ (ts : List TypeId) (vs : List Value) (ds : List (DataW H)) (ps : List MemPlace),
    (∀ t ∈ ts, Tryz.prog.readableRec t = true ∧ t < Tryz.prog.types.size) → DataW.TrodAll enc Tryz.prog W 0 (fun _ => true) true ts vs ds ps → (∀ x ∈ ps, x.block < W.heap.size) →
    DataW.TrodAll enc Tryz.prog W' 0 (fun b => decide (b < W.heap.size)) true ts vs ds ps
  | [], vs, ds, ps, _, h, _ => by
    obtain ⟨rfl, rfl, rfl⟩ := trodAll_nil h
    exact trodAll_mk0
  | t :: ts, vs, ds, ps, hr, h, hlt => by
    obtain ⟨v, vs', d, ds', p, q, rfl, rfl, rfl, h1, h2⟩ := trodAll_cons h
    exact trodAll_cons_mk (Below.trod laid_out (hr t (by simp)).1 (hr t (by simp)).2 h1 hb (fun x hx => hlt x (by simp [hx])))
      (trodAll_below hb ts vs' ds' q (fun t ht => hr t (by simp [ht])) h2 (fun x hx => hlt x (by simp [hx])))

/-- the law's post, out of its walk -/
theorem law_post {s : ChangeSpec} (hv : s.vars = []) {f : FuncId} {fn : Func} (hr : fn.resultTypes = #[4]) (hp : ∀ t ∈ fn.params.toList, Tryz.prog.readableRec t = true ∧ t < Tryz.prog.types.size)
    {H : Type} {enc : TypeId × Value → H} {W : World} {args : Array Value} {ds gs : List (DataW H)} {before : List MemPlace} (hs : s.fn H ds = { results := [.lit (.bool true)], args := ds })
    (hW : DataW.Whole enc Tryz.prog fn.params.toList s.vars false W args.toList ds gs before)
    (walk : Calls Tryz.prog f args W fun e W' => e = .returned (.bool true) ∧ Below W.heap.size W W') :
    Calls Tryz.prog f args W fun e W' => ∃ v, e = .returned v ∧ s.post enc Tryz.prog fn false true false false W args v W' := by
  have hW' := hW
  obtain ⟨p, q, hA0, hV, rfl, hfz, hnd⟩ := hW
  rw [hv] at hV
  obtain ⟨rfl, rfl⟩ := trodVars_none hV
  refine walk.mono fun e W' ⟨he, hb⟩ => ?_
  subst he
  have hlt : ∀ x ∈ p, x.block < W.heap.size := fun x hx => by simpa using hW'.lt x (by simpa using hx)
  rw [List.append_nil] at hW'
  refine ⟨_, rfl, _, _, _, [], p, [], hW', ?_, ?_, ?_, hb.frame _, fun h => by cases h⟩
  · rw [hr, List.append_nil, hs]
    exact trodAll_cons_mk (shut_bool under_bool _) trodAll_mk0
  · rw [List.append_nil, hs]
    exact trodAll_below hb _ _ _ _ hp hA0 hlt
  · rw [hv, List.append_nil, hs]
    rfl

theorem wf_i64 {z : Int} (h : (Lit.int .i64 z).wf = true) : -9223372036854775808 ≤ z ∧ z ≤ 9223372036854775807 := by
  have h1 : IntKind.i64.min = -9223372036854775808 := rfl
  have h2 : IntKind.i64.max = 9223372036854775807 := rfl
  simp only [Lit.wf, Bool.and_eq_true, decide_eq_true_eq] at h
  omega
/-- any int, opened -/
theorem open_num {H : Type} {enc : TypeId × Value → H} {W : World} {r : Reach} {b0 base : Nat} {sp : Nat → Bool} {held : Bool} {v : Value} {d : DataW H} {ps : List MemPlace} (hval : Value.okWide Tryz.prog W r b0 3 v) (h : DataW.Trod enc Tryz.prog W base sp held 3 v d ps) :
    ∃ z : Int, v = .int .i64 z ∧ -9223372036854775808 ≤ z ∧ z ≤ 9223372036854775807 := by
  obtain ⟨z, rfl, _, _, hw⟩ := open_int under_int hval h
  exact ⟨z, rfl, wf_i64 hw⟩
def numAt (cs : Array Value) (i : Nat) : Int := match cs[i]? with
  | some (.int _ z) => z
  | _ => 0
/-- any array of integers, opened -/
theorem open_arr_ints {H : Type} {enc : TypeId × Value → H} {P : Program} {W : World} {b base : Nat} {sp : Nat → Bool} {held : Bool} {r : Reach} {t e : TypeId} {n : Nat} {k : IntKind} {v : Value} {d : DataW H} {ps : List MemPlace}
    (ht : P.underlying t = some (.array n e)) (he : P.underlying e = some (.int k)) (hce : P.cellsOf e = 1) (hct : P.cellsOf t = n)
    (hok : Value.okWide P W r b t v) (h : DataW.Trod enc P W base sp held t v d ps) :
    ∃ F : Nat → Int, v = .agg (((List.range n).map fun i => Value.int k (F i)).toArray) ∧ ∀ i, i < n → (Lit.int k (F i)).wf = true := by
  simp only [Value.okWide, ht] at hok
  obtain ⟨cs, rfl, hsz, _⟩ := hok
  obtain ⟨fuel, hf⟩ := h
  obtain ⟨xs, m, _, _, hl, hxl, hall⟩ := DataW.trod_array ht hf
  have hcl : cs.size = n := by simpa [Value.cells, hct] using hl
  have key : ∀ i, i < n → ∃ z, cs[i]? = some (.int k z) ∧ (Lit.int k z).wf = true := by
    intro i hi
    have h1 := hall i hi
    rw [hce, Nat.mul_one] at h1
    obtain ⟨y, hy⟩ : ∃ y, xs[i]? = some y := ⟨xs[i]'(by omega), by simp⟩
    rw [hy] at h1
    obtain ⟨z, hc, _, hw⟩ := DataW.trod_int he h1
    refine ⟨z, ?_, hw⟩
    have := congrArg (·[0]?) hc
    simpa [Value.cells, List.getElem?_take, List.getElem?_drop] using this
  refine ⟨numAt cs, ?_, fun i hi => ?_⟩
  · congr 1
    apply Array.ext_getElem?
    intro i
    by_cases hi : i < n
    · obtain ⟨z, hz, _⟩ := key i hi
      rw [hz]
      simp [numAt, hz, hi]
    · rw [Array.getElem?_eq_none (by omega), Array.getElem?_eq_none (by simp; omega)]
  · obtain ⟨z, hz, hw⟩ := key i hi
    simp only [numAt, hz]
    exact hw


theorem cells_arr : Tryz.prog.cellsOf 36 = 128 := by kernel_rfl
theorem cells_secty : Tryz.prog.cellsOf 68 = 130 := by kernel_rfl
theorem cells_wrty : Tryz.prog.cellsOf 70 = 129 := by kernel_rfl
theorem cells_disk : Tryz.prog.cellsOf 25 = 4 := by kernel_rfl
theorem bytes_secty : Tryz.prog.bytesOf 68 = 130 := by kernel_rfl
theorem bytes_wrty : Tryz.prog.bytesOf 70 = 136 := by kernel_rfl
theorem bytes_boolty : Tryz.prog.bytesOf 4 = 1 := by kernel_rfl
theorem under_arr : Tryz.prog.underlying 36 = some (.array 128 5) := by kernel_rfl
theorem under_bools : Tryz.prog.underlying 141 = some (.slice 4) := by kernel_rfl

instance : Inhabited Sec := ⟨sec0⟩
instance : Inhabited Wr := ⟨⟨0, fun _ => 0⟩⟩

section
variable {H : Type} {enc : TypeId × Value → H} {w : World} {base : Nat} {sp : Nat → Bool} {held : Bool} {fuel : Nat} {cs : List Value} {x : DataW H × List MemPlace}

/-- the cells of 128 bytes -/
theorem bl_read (h : DataW.trod enc Tryz.prog w base sp held fuel 36 cs = some x) : ∃ F : Nat → Int, cs = bl F := by
  obtain ⟨xs, m, _, _, hl, hxl, hall⟩ := DataW.trod_array under_arr h
  rw [cells_arr] at hl
  have key : ∀ i, i < 128 → ∃ z, cs[i]? = some (.int .u8 z) := by
    intro i hi
    have h1 := hall i hi
    rw [cells_u8, Nat.mul_one] at h1
    obtain ⟨y, hy⟩ : ∃ y, xs[i]? = some y := ⟨xs[i]'(by omega), by simp⟩
    rw [hy] at h1
    obtain ⟨z, hc, _, _⟩ := DataW.trod_int under_u8 h1
    refine ⟨z, ?_⟩
    have := congrArg (·[0]?) hc
    simpa [List.getElem?_take, List.getElem?_drop] using this
  obtain ⟨F, hF⟩ := Go.Deep.choose_lt key
  refine ⟨F, List.ext_getElem? fun i => ?_⟩
  by_cases hi : i < 128
  · rw [hF i hi, bl_get F hi]
  · rw [List.getElem?_eq_none (by omega), List.getElem?_eq_none (by rw [bl_length]; omega)]
theorem tail2 {u v : Value} {X : List Value} (hl : cs.length = 130) (h0 : (cs.drop 0).take 128 = X) (h1 : (cs.drop 128).take 1 = [u]) (h2 : (cs.drop 129).take 1 = [v]) : cs = X ++ [u, v] := by
  have e2 : cs.drop 129 = [v] := by rwa [List.take_of_length_le (by simp; omega)] at h2
  have e1 : cs.drop 128 = [u, v] := by
    rw [← List.take_append_drop 1 (cs.drop 128), h1, List.drop_drop, e2]; rfl
  rw [List.drop_zero] at h0
  rw [← h0, ← e1, List.take_append_drop]
theorem sec_read (h : DataW.trod enc Tryz.prog w base sp held fuel 68 cs = some x) : ∃ s : Sec, cs = secV s := by
  obtain ⟨y0, y1, y2, n, _, hl, h0, h1, h2⟩ := Go.Deep.trod_struct3 Tryz.underlying68 h
  rw [cells_secty] at hl
  obtain ⟨F, hF⟩ := bl_read h0
  obtain ⟨b1, e1, _⟩ := DataW.trod_bool under_bool h1
  obtain ⟨b2, e2, _⟩ := DataW.trod_bool under_bool h2
  exact ⟨⟨F, b1, b2⟩, tail2 hl (by rw [← hF, ← cells_arr]) (by rw [← e1, ← cells_bool]) (by rw [← e2, ← cells_bool])⟩
theorem wr_read (h : DataW.trod enc Tryz.prog w base sp held fuel 70 cs = some x) : ∃ s : Wr, cs = wrV s := by
  obtain ⟨y0, y1, n, _, hl, h0, h1⟩ := trod_struct2 Tryz.underlying70 h
  rw [cells_wrty] at hl
  obtain ⟨F, hF⟩ := bl_read h1
  obtain ⟨z, e0, _⟩ := DataW.trod_int under_int h0
  refine ⟨⟨z, F⟩, ?_⟩
  rw [cells_arr] at hF
  rw [cells_int] at e0
  rw [List.take_of_length_le (by simp; omega)] at hF
  show cs = .int .i64 z :: bl F
  rw [← List.take_append_drop 1 cs, ← hF]
  rw [List.drop_zero] at e0
  rw [e0]; rfl
theorem bool_read (h : DataW.trod enc Tryz.prog w base sp held fuel 4 cs = some x) : ∃ b : Bool, cs = [.bool b] := by
  obtain ⟨b, e, _⟩ := DataW.trod_bool under_bool h
  exact ⟨b, e⟩

/-- a slice of rows -/
theorem open_rows {W : World} {Ty : Type} [Inhabited Ty] {V : Ty → List Value} {t e : TypeId} {k : Nat} (ht : Tryz.prog.underlying t = some (.slice e)) (hk : Tryz.prog.cellsOf e = k) (hk0 : 0 < k)
    (hop : ∀ (fuel : Nat) (cs : List Value) (x : DataW H × List MemPlace), DataW.trod enc Tryz.prog W 0 (fun _ => true) true fuel e cs = some x → ∃ s, cs = V s)
    (h : DataW.trod enc Tryz.prog W 0 (fun _ => true) true fuel t cs = some x) (hlt : ∀ p ∈ x.2, p.block < W.heap.size) :
    ∃ (ao : Option Addr) (n cap : Nat) (F : Nat → Ty), cs = [.slice ao n cap] ∧ Lay W W.heap.size W.heap.size ao n cap k (fun i => V (F i)) ∧ (n = 0 ∨ ∃ el rest, x.1 = .slice el rest ∧ el.length = n) := by
  rcases Go.Deep.open_slice ht h with ⟨rfl, rfl⟩ | ⟨a, len, cap, m, fu, D, Pl, rfl, _, hl, hm, hmm, rfl, hx⟩
  · exact ⟨none, 0, 0, fun _ => default, rfl, ⟨Nat.le_refl _, fun _ => rfl, .inl rfl⟩, .inl rfl⟩
  · simp only [if_true] at hmm
    subst hmm
    rw [hk] at hx hlt
    have hx' : ∀ i, i < m → ∃ s, W.cells? 0 (a.add (i * k)) k = some (V s) := fun i hi => by
      obtain ⟨cs', h1, h2⟩ := hx i hi
      obtain ⟨s, rfl⟩ := hop _ _ _ h2
      exact ⟨s, h1⟩
    obtain ⟨F, hF⟩ := Go.Deep.choose_lt hx'
    refine ⟨some a, len, m, F, rfl, ⟨hl, (fun hn => by cases hn), ?_⟩, .inr ⟨_, _, rfl, by simp⟩⟩
    rcases Nat.eq_zero_or_pos len with h0 | h0
    · exact .inl h0
    · right
      obtain ⟨b, off, spot⟩ := a
      have hpos : 0 < m * k := Nat.mul_pos (by omega) hk0
      have hb : b < W.heap.size := hlt (.cell b off) (List.mem_append.2 (.inl (MemPlace.mem_row.2 ⟨0, hpos, by simp⟩)))
      obtain ⟨_, hlen0, hc0⟩ := World.cells?_some (hF 0 (by omega))
      have hspot : spot = none := by
        have h00 := hc0 0 hk0
        rw [List.getElem?_eq_getElem (by omega)] at h00
        simpa [Addr.add] using World.cell?_spot h00
      subst hspot
      refine ⟨b, off, rfl, hb, by omega, fun i hi j v hv => ?_⟩
      obtain ⟨_, hlen, hc⟩ := World.cells?_some (hF i (by omega))
      have hj : j < k := by
        rw [← hlen]
        exact (List.getElem?_eq_some_iff.1 hv).1
      have := hc j hj
      rw [hv, add_plain, add_plain] at this
      exact this
end

/-- any disk, opened -/
theorem open_disk {H : Type} {enc : TypeId × Value → H} {W : World} {r : Reach} {base : Nat} {v : Value} {d : DataW H} {ps : List MemPlace} {ts : List TypeId} {ds : List (DataW H)} {j : Nat}
    (hsz : (DataW.weightsEach Tryz.prog ts ds).all (· ≤ reachBytes) = true) (ht : ts[j]? = some 25) (hd : ds[j]? = some d)
    (hval : Value.okWide Tryz.prog W r base 25 v) (h0 : DataW.Trod enc Tryz.prog W 0 (fun _ => true) true 25 v d ps) (hlt : ∀ x ∈ ps, x.block < W.heap.size) :
    ∃ (sa : Option Addr) (n sc : Nat) (ca : Option Addr) (m cc : Nat) (S : Nat → Sec) (C : Nat → Wr) (f : Int) (dn : Bool), v = .agg #[.slice sa n sc, .slice ca m cc, .int .i64 f, .bool dn] ∧
      Lay W W.heap.size W.heap.size sa n sc 130 (fun i => secV (S i)) ∧ Lay W W.heap.size W.heap.size ca m cc 129 (fun i => wrV (C i)) ∧ n * 130 ≤ 140737488355328 ∧ m * 136 ≤ 140737488355328 ∧ (-9223372036854775808 ≤ f ∧ f ≤ 9223372036854775807) := by
  obtain ⟨v0, v1, v2, v3, y0, y1, y2, y3, fu, rfl, rfl, rfl, t0, t1, t2, t3⟩ := Joins.open_agg4 Tryz.underlying25 (by kernel_rfl) cells_disk hval h0
  obtain ⟨f, hf, _, wf⟩ := DataW.trod_int under_int t2
  obtain ⟨dn, hdn, _⟩ := DataW.trod_bool under_bool t3
  obtain ⟨sa, n, sc, S, hs, ls, ns⟩ := open_rows (V := secV) slice_sec cells_secty (by omega) (fun _ _ _ h => sec_read h) t0 (fun p hp => hlt p (by simp [hp]))
  obtain ⟨ca, m, cc, C, hc, lc, nc⟩ := open_rows (V := wrV) slice_wr cells_wrty (by omega) (fun _ _ _ h => wr_read h) t1 (fun p hp => hlt p (by simp [hp]))
  simp only [List.cons.injEq, and_true] at hf hdn hs hc
  subst hf hdn hs hc
  refine ⟨sa, n, sc, ca, m, cc, S, C, f, dn, rfl, ls, lc, ?_, ?_, wf_i64 wf⟩
  · rcases ns with rfl | ⟨el, rest, he, hl⟩
    · omega
    · have hmem : (el.length + rest.length) * 130 ∈ DataW.weights Tryz.prog 25 (.agg [y0.1, y1.1, y2.1, y3.1]) := by
        rw [he]
        simp [DataW.weights, DataW.weightsEach, Tryz.underlying25, bytes_secty]
      have h9 : (el.length + rest.length) * 130 ≤ reachBytes := by simpa using List.all_eq_true.1 hsz _ (DataW.weights_mem_each ht hd _ hmem)
      simp only [reachBytes] at h9
      omega
  · rcases nc with rfl | ⟨el, rest, he, hl⟩
    · omega
    · have hmem : (el.length + rest.length) * 136 ∈ DataW.weights Tryz.prog 25 (.agg [y0.1, y1.1, y2.1, y3.1]) := by
        rw [he]
        simp [DataW.weights, DataW.weightsEach, Tryz.underlying25, bytes_wrty]
      have h9 : (el.length + rest.length) * 136 ≤ reachBytes := by simpa using List.all_eq_true.1 hsz _ (DataW.weights_mem_each ht hd _ hmem)
      simp only [reachBytes] at h9
      omega

/-- any list of truths, opened -/
theorem open_bools {H : Type} {enc : TypeId × Value → H} {W : World} {r : Reach} {base : Nat} {v : Value} {d : DataW H} {ps : List MemPlace} {ts : List TypeId} {ds : List (DataW H)} {j : Nat}
    (hsz : (DataW.weightsEach Tryz.prog ts ds).all (· ≤ reachBytes) = true) (ht : ts[j]? = some 141) (hd : ds[j]? = some d)
    (hval : Value.okWide Tryz.prog W r base 141 v) (h0 : DataW.Trod enc Tryz.prog W 0 (fun _ => true) true 141 v d ps) (hlt : ∀ x ∈ ps, x.block < W.heap.size) :
    ∃ (ka : Option Addr) (kn kc : Nat) (kf : Nat → Bool), v = .slice ka kn kc ∧ Keeps W W.heap.size W.heap.size ka kn kf ∧ kn ≤ 140737488355328 := by
  obtain ⟨a0, len, cap, rfl⟩ := okWide_slice under_bools hval
  obtain ⟨fuel, hf⟩ := h0
  obtain ⟨ka, kn, kc, kf, hs, l, nn⟩ := open_rows (V := fun b : Bool => [Value.bool b]) under_bools cells_bool (by omega) (fun _ _ _ h => bool_read h) hf hlt
  simp [Value.cells] at hs
  obtain ⟨rfl, rfl, rfl⟩ := hs
  refine ⟨_, _, _, kf, rfl, ?_, ?_⟩
  · rcases l.rows with h0 | ⟨b, off, e, hb, hne, hr⟩
    · exact .inl h0
    · exact .inr ⟨b, off, e, hb, hne, fun i hi => by simpa using hr i hi 0 _ rfl⟩
  · rcases nn with rfl | ⟨el, rest, he, hl⟩
    · omega
    · cases d with
      | slice el' rest' =>
        have h1 := sized_slice hsz ht hd under_bools
        rw [bytes_boolty] at h1
        simp only [reachBytes] at h1
        simp only [DataW.slice.injEq] at he
        obtain ⟨rfl, rfl⟩ := he
        omega
      | _ => cases he
end DLaw
end Go.Proofs.YtllejfnmbpjhaaaGreatDoor
/- disk: a blow, opened. -/
namespace Go.Proofs.YtllejfnmbpjhaaaGreatDoor
set_option maxRecDepth 20000
namespace DLaw
open Go.ChangeShapes Go.WideShapes Go.ChangeAt Go.RowKit Go.ChangeMaps Dk

end DLaw
end Go.Proofs.YtllejfnmbpjhaaaGreatDoor
/- disk: a disk with room for one more write, a block, opened. -/
namespace Go.Proofs.YtllejfnmbpjhaaaGreatDoor
set_option maxRecDepth 20000
namespace DLaw
open Go.ChangeShapes Go.WideShapes Go.ChangeAt Go.RowKit Go.ChangeMaps Dk

/-- any disk, opened -/
theorem open_disk1 {H : Type} {enc : TypeId × Value → H} {W : World} {r : Reach} {base : Nat} {v : Value} {d : DataW H} {ps : List MemPlace} {ts : List TypeId} {ds : List (DataW H)} {j : Nat}
    (hsz : (DataW.weightsEach Tryz.prog ts ds).all (· ≤ reachBytes) = true) (ht : ts[j]? = some 25) (hd : ds[j]? = some d)
    (hval : Value.okWide Tryz.prog W r base 25 v) (h0 : DataW.Trod enc Tryz.prog W 0 (fun _ => true) true 25 v d ps) (hlt : ∀ x ∈ ps, x.block < W.heap.size) :
    ∃ (sa : Option Addr) (n sc : Nat) (ca : Option Addr) (m cc : Nat) (S : Nat → Sec) (C : Nat → Wr) (f : Int) (dn : Bool), v = .agg #[.slice sa n sc, .slice ca m cc, .int .i64 f, .bool dn] ∧
      Lay W W.heap.size W.heap.size sa n sc 130 (fun i => secV (S i)) ∧ Lay W W.heap.size W.heap.size ca m cc 129 (fun i => wrV (C i)) ∧ n * 130 ≤ 140737488355328 ∧ (m + 1) * 136 ≤ 140737488355328 ∧ (-9223372036854775808 ≤ f ∧ f ≤ 9223372036854775807) := by
  obtain ⟨v0, v1, v2, v3, y0, y1, y2, y3, fu, rfl, rfl, rfl, t0, t1, t2, t3⟩ := Joins.open_agg4 Tryz.underlying25 (by kernel_rfl) cells_disk hval h0
  obtain ⟨f, hf, _, wf⟩ := DataW.trod_int under_int t2
  obtain ⟨dn, hdn, _⟩ := DataW.trod_bool under_bool t3
  obtain ⟨sa, n, sc, S, hs, ls, ns⟩ := open_rows (V := secV) slice_sec cells_secty (by omega) (fun _ _ _ h => sec_read h) t0 (fun p hp => hlt p (by simp [hp]))
  obtain ⟨ca, m, cc, C, hc, lc, nc⟩ := open_rows (V := wrV) slice_wr cells_wrty (by omega) (fun _ _ _ h => wr_read h) t1 (fun p hp => hlt p (by simp [hp]))
  simp only [List.cons.injEq, and_true] at hf hdn hs hc
  subst hf hdn hs hc
  refine ⟨sa, n, sc, ca, m, cc, S, C, f, dn, rfl, ls, lc, ?_, ?_, wf_i64 wf⟩
  · rcases ns with rfl | ⟨el, rest, he, hl⟩
    · omega
    · have hmem : (el.length + rest.length) * 130 ∈ DataW.weights Tryz.prog 25 (.agg [y0.1, y1.1, y2.1, y3.1]) := by
        rw [he]
        simp [DataW.weights, DataW.weightsEach, Tryz.underlying25, bytes_secty]
      have h9 : (el.length + rest.length) * 130 ≤ reachBytes := by simpa using List.all_eq_true.1 hsz _ (DataW.weights_mem_each ht hd _ hmem)
      simp only [reachBytes] at h9
      omega
  · rcases nc with rfl | ⟨el, rest, he, hl⟩
    · omega
    · have hmem : (el.length + rest.length) * 136 ∈ DataW.weights Tryz.prog 25 (.agg [y0.1, y1.1, y2.1, y3.1]) := by
        rw [he]
        simp [DataW.weights, DataW.weightsEach, Tryz.underlying25, bytes_wrty]
      have h9 : (el.length + rest.length) * 136 ≤ reachBytes := by simpa using List.all_eq_true.1 hsz _ (DataW.weights_mem_each ht hd _ hmem)
      simp only [reachBytes] at h9
      omega

/-- any block, opened -/
theorem open_block {H : Type} {enc : TypeId × Value → H} {W : World} {r : Reach} {b0 base : Nat} {sp : Nat → Bool} {held : Bool} {v : Value} {d : DataW H} {ps : List MemPlace}
    (hval : Value.okWide Tryz.prog W r b0 36 v) (h : DataW.Trod enc Tryz.prog W base sp held 36 v d ps) : ∃ D : Nat → Int, v = .agg (bl D).toArray := by
  simp only [Value.okWide, under_arr] at hval
  obtain ⟨cs, rfl, _, _⟩ := hval
  obtain ⟨fuel, hf⟩ := h
  obtain ⟨D, hD⟩ := bl_read hf
  exact ⟨D, by rw [← hD]; simp [Value.cells]⟩
end DLaw
end Go.Proofs.YtllejfnmbpjhaaaGreatDoor
