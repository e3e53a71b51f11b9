import Derived.Test.YtllejfnmbpjhaaaGreatDoorJDn
import Derived.WalkKit
import Derived.ProofKit
import Derived.OpenShut
import Derived.SizedLaws
import Derived.Deep.DeepHandedRow
import Derived.Lib.SmallJoins
import Derived.ChangeMaps5
import Derived.Test.YtllejfnmbpjhaaaGreatDoorJRb
import Derived.Test.YtllejfnmbpjhaaaGreatDoorJWd
import Derived.Test.YtllejfnmbpjhaaaGreatDoorPtSum
import Derived.Deep.Slices
import Derived.Test.YtllejfnmbpjhaaaGreatDoorCards
import Derived.Test.YtllejfnmbpjhaaaGreatDoorTie
import Derived.Test.YtllejfnmbpjhaaaGreatDoorJSh
import Derived.Lib.LaidTab
/- disk: the laws of Flush and Crash, walked. -/
namespace Go.Proofs.YtllejfnmbpjhaaaGreatDoor
set_option maxRecDepth 20000
namespace Dk
open Go.RowKit

theorem Lay.far {w w' : World} {B g : Nat} {ao : Option Addr} {n cap k : Nat} {T : Nat → List Value} (h : Lay w B g ao n cap k T) (hk : ∀ i, i < n → (T i).length = k) (hk4 : 4 < k) {q : Nat} {cs : Array Value} {t : TypeId} {fr : Nat × Nat} (hq : w.heap[q]? = some (.cells cs t fr)) (hs : cs.size = 4) (hg : w.grownBy w' (some q)) (hB : B ≤ w.heap.size) : Lay w' B g ao n cap k T := by
  refine ⟨h.room, h.nil, ?_⟩
  rcases h.rows with h0 | ⟨b, off, e, hb, hne, hr⟩
  · exact .inl h0
  · rcases Nat.eq_zero_or_pos n with h0 | h0
    · exact .inl h0
    · have hbq : b ≠ q := by
        rintro rfl
        have hl := hk 0 h0
        have h4 : 4 < (T 0).length := by omega
        have := hr 0 h0 4 _ (List.getElem?_eq_getElem h4)
        rw [cell_of_row w b _ cs t fr hq, Array.getElem?_eq_none (by omega)] at this
        cases this
      exact .inr ⟨b, off, e, hb, hne, fun i hi j v hv => (World.cell?_of_block (w := w) (hg.block b (by omega) (by simpa using hbq))).trans (hr i hi j v hv)⟩
/-- a disk, behind what turned another one -/
theorem Has.apart {w w' : World} {g q : Nat} {sa ca : Option Addr} {n sc m cc : Nat} {S : Nat → Sec} {C : Nat → Wr} {f : Int} {d : Bool} {cs : Array Value} {t : TypeId} {fr : Nat × Nat} (h : Has w g sa ca n sc m cc S C f d) (hq : w.heap[q]? = some (.cells cs t fr)) (hs : cs.size = 4) (hne : g ≠ q) (hg : w.grownBy w' (some q)) : Has w' g sa ca n sc m cc S C f d :=
  ⟨h.bx.block (hg.block g h.bx.lt (by simpa using hne)), (h.ss.far (fun i _ => secV_length _) (by omega) hq hs hg (Nat.le_refl _)).more hg.size, (h.cs.far (fun i _ => wrV_length _) (by omega) hq hs hg (Nat.le_refl _)).more hg.size, h.nb, h.mb⟩
theorem Copied.has {w w2 W : World} {n m : Nat} {S : Nat → Sec} {C : Nat → Wr} {f : Int} {d : Bool} {sa ca : Option Addr} {sc cc : Nat} (p : w2.ownsRow w.heap.size 68 130 (.slice sa n sc) n (flat (fun i => secV (S i)) n)) (q : w2.ownsRow w.heap.size 70 129 (.slice ca m cc) m (flat (fun i => wrV (C i)) m))
    (hb : Below w2.heap.size w2 W) {A : Nat} (hA : w2.heap.size ≤ A) (hx : W.heap[A]? = some (.cells #[.slice sa n sc, .slice ca m cc, .int .i64 f, .bool d] 25 (0, 0))) (nb : n * 130 ≤ 140737488355328) (mb : m * 136 ≤ 140737488355328) : Has W A sa ca n sc m cc S C f d :=
  ⟨hx, ((lay_own (fun _i _ => secV_length _) p (.inr hA)).below hb).more hb.size, ((lay_own (fun _i _ => wrV_length _) q (.inr hA)).below hb).more hb.size, nb, mb⟩

end Dk
end Go.Proofs.YtllejfnmbpjhaaaGreatDoor
/- disk: arguments of a law, opened; from a law's walk to what its row asks. -/
namespace Go.Proofs.YtllejfnmbpjhaaaGreatDoor
set_option maxRecDepth 20000
namespace DLaw
open Go.ChangeShapes Go.WideShapes Go.ChangeAt Go.RowKit Go.ChangeMaps Dk

theorem own : ownKnob Tryz.prog.godebug = none := by kernel_rfl
theorem under_u8 : Tryz.prog.underlying 5 = some (.int .u8) := by kernel_rfl
theorem under_int : Tryz.prog.underlying 3 = some (.int .i64) := by kernel_rfl
theorem under_bool : Tryz.prog.underlying 4 = some .bool := by kernel_rfl
theorem cells_u8 : Tryz.prog.cellsOf 5 = 1 := by kernel_rfl
theorem cells_int : Tryz.prog.cellsOf 3 = 1 := by kernel_rfl
theorem bytes_u8 : Tryz.prog.bytesOf 5 = 1 := by kernel_rfl
theorem cells_bool : Tryz.prog.cellsOf 4 = 1 := by kernel_rfl
theorem laid_out : laidOutB Tryz.prog = true := by kernel_rfl

/-- what old memory held, arguments read behind the call -/
theorem trodAll_below {H : Type} {enc : TypeId × Value → H} {W W' : World} (hb : Below W.heap.size W W') : ∀ (ts : List TypeId) (vs : List Value) (ds : List (DataW H)) (ps : List MemPlace),
    (∀ t ∈ ts, Tryz.prog.readableRec t = true ∧ t < Tryz.prog.types.size) → DataW.TrodAll enc Tryz.prog W 0 (fun _ => true) true ts vs ds ps → (∀ x ∈ ps, x.block < W.heap.size) →
    DataW.TrodAll enc Tryz.prog W' 0 (fun b => decide (b < W.heap.size)) true ts vs ds ps
  | [], vs, ds, ps, _, h, _ => by
    obtain ⟨rfl, rfl, rfl⟩ := trodAll_nil h
    exact trodAll_mk0
  | t :: ts, vs, ds, ps, hr, h, hlt => by
    obtain ⟨v, vs', d, ds', p, q, rfl, rfl, rfl, h1, h2⟩ := trodAll_cons h
    exact trodAll_cons_mk (Below.trod laid_out (hr t (by simp)).1 (hr t (by simp)).2 h1 hb (fun x hx => hlt x (by simp [hx])))
      (trodAll_below hb ts vs' ds' q (fun t ht => hr t (by simp [ht])) h2 (fun x hx => hlt x (by simp [hx])))

/-- the law's post, out of its walk -/
theorem law_post {s : ChangeSpec} (hv : s.vars = []) {f : FuncId} {fn : Func} (hr : fn.resultTypes = #[4]) (hp : ∀ t ∈ fn.params.toList, Tryz.prog.readableRec t = true ∧ t < Tryz.prog.types.size)
    {H : Type} {enc : TypeId × Value → H} {W : World} {args : Array Value} {ds gs : List (DataW H)} {before : List MemPlace} (hs : s.fn H ds = { results := [.lit (.bool true)], args := ds })
    (hW : DataW.Whole enc Tryz.prog fn.params.toList s.vars false W args.toList ds gs before)
    (walk : Calls Tryz.prog f args W fun e W' => e = .returned (.bool true) ∧ Below W.heap.size W W') :
    Calls Tryz.prog f args W fun e W' => ∃ v, e = .returned v ∧ s.post enc Tryz.prog fn false true false false W args v W' := by
  have hW' := hW
  obtain ⟨p, q, hA0, hV, rfl, hfz, hnd⟩ := hW
  rw [hv] at hV
  obtain ⟨rfl, rfl⟩ := trodVars_none hV
  refine walk.mono fun e W' ⟨he, hb⟩ => ?_
  subst he
  have hlt : ∀ x ∈ p, x.block < W.heap.size := fun x hx => by simpa using hW'.lt x (by simpa using hx)
  rw [List.append_nil] at hW'
  refine ⟨_, rfl, _, _, _, [], p, [], hW', ?_, ?_, ?_, hb.frame _, fun h => by cases h⟩
  · rw [hr, List.append_nil, hs]
    exact trodAll_cons_mk (shut_bool under_bool _) trodAll_mk0
  · rw [List.append_nil, hs]
    exact trodAll_below hb _ _ _ _ hp hA0 hlt
  · rw [hv, List.append_nil, hs]
    rfl

theorem wf_i64 {z : Int} (h : (Lit.int .i64 z).wf = true) : -9223372036854775808 ≤ z ∧ z ≤ 9223372036854775807 := by
  have h1 : IntKind.i64.min = -9223372036854775808 := rfl
  have h2 : IntKind.i64.max = 9223372036854775807 := rfl
  simp only [Lit.wf, Bool.and_eq_true, decide_eq_true_eq] at h
  omega
/-- any int, opened -/
theorem open_num {H : Type} {enc : TypeId × Value → H} {W : World} {r : Reach} {b0 base : Nat} {sp : Nat → Bool} {held : Bool} {v : Value} {d : DataW H} {ps : List MemPlace} (hval : Value.okWide Tryz.prog W r b0 3 v) (h : DataW.Trod enc Tryz.prog W base sp held 3 v d ps) :
    ∃ z : Int, v = .int .i64 z ∧ -9223372036854775808 ≤ z ∧ z ≤ 9223372036854775807 := by
  obtain ⟨z, rfl, _, _, hw⟩ := open_int under_int hval h
  exact ⟨z, rfl, wf_i64 hw⟩
def numAt (cs : Array Value) (i : Nat) : Int := match cs[i]? with
  | some (.int _ z) => z
  | _ => 0
/-- any array of integers, opened -/
theorem open_arr_ints {H : Type} {enc : TypeId × Value → H} {P : Program} {W : World} {b base : Nat} {sp : Nat → Bool} {held : Bool} {r : Reach} {t e : TypeId} {n : Nat} {k : IntKind} {v : Value} {d : DataW H} {ps : List MemPlace}
    (ht : P.underlying t = some (.array n e)) (he : P.underlying e = some (.int k)) (hce : P.cellsOf e = 1) (hct : P.cellsOf t = n)
    (hok : Value.okWide P W r b t v) (h : DataW.Trod enc P W base sp held t v d ps) :
    ∃ F : Nat → Int, v = .agg (((List.range n).map fun i => Value.int k (F i)).toArray) ∧ ∀ i, i < n → (Lit.int k (F i)).wf = true := by
  simp only [Value.okWide, ht] at hok
  obtain ⟨cs, rfl, hsz, _⟩ := hok
  obtain ⟨fuel, hf⟩ := h
  obtain ⟨xs, m, _, _, hl, hxl, hall⟩ := DataW.trod_array ht hf
  have hcl : cs.size = n := by simpa [Value.cells, hct] using hl
  have key : ∀ i, i < n → ∃ z, cs[i]? = some (.int k z) ∧ (Lit.int k z).wf = true := by
    intro i hi
    have h1 := hall i hi
    rw [hce, Nat.mul_one] at h1
    obtain ⟨y, hy⟩ : ∃ y, xs[i]? = some y := ⟨xs[i]'(by omega), by simp⟩
    rw [hy] at h1
    obtain ⟨z, hc, _, hw⟩ := DataW.trod_int he h1
    refine ⟨z, ?_, hw⟩
    have := congrArg (·[0]?) hc
    simpa [Value.cells, List.getElem?_take, List.getElem?_drop] using this
  refine ⟨numAt cs, ?_, fun i hi => ?_⟩
  · congr 1
    apply Array.ext_getElem?
    intro i
    by_cases hi : i < n
    · obtain ⟨z, hz, _⟩ := key i hi
      rw [hz]
      simp [numAt, hz, hi]
    · rw [Array.getElem?_eq_none (by omega), Array.getElem?_eq_none (by simp; omega)]
  · obtain ⟨z, hz, hw⟩ := key i hi
    simp only [numAt, hz]
    exact hw


theorem cells_arr : Tryz.prog.cellsOf 36 = 128 := by kernel_rfl
theorem cells_secty : Tryz.prog.cellsOf 68 = 130 := by kernel_rfl
theorem cells_wrty : Tryz.prog.cellsOf 70 = 129 := by kernel_rfl
theorem cells_disk : Tryz.prog.cellsOf 25 = 4 := by kernel_rfl
theorem bytes_secty : Tryz.prog.bytesOf 68 = 130 := by kernel_rfl
theorem bytes_wrty : Tryz.prog.bytesOf 70 = 136 := by kernel_rfl
theorem under_arr : Tryz.prog.underlying 36 = some (.array 128 5) := by kernel_rfl
instance : Inhabited Sec := ⟨sec0⟩
instance : Inhabited Wr := ⟨⟨0, fun _ => 0⟩⟩

section
variable {H : Type} {enc : TypeId × Value → H} {w : World} {base : Nat} {sp : Nat → Bool} {held : Bool} {fuel : Nat} {cs : List Value} {x : DataW H × List MemPlace}

/-- the cells of 128 bytes -/
theorem bl_read (h : DataW.trod enc Tryz.prog w base sp held fuel 36 cs = some x) : ∃ F : Nat → Int, cs = bl F := by
  obtain ⟨xs, m, _, _, hl, hxl, hall⟩ := DataW.trod_array under_arr h
  rw [cells_arr] at hl
  have key : ∀ i, i < 128 → ∃ z, cs[i]? = some (.int .u8 z) := by
    intro i hi
    have h1 := hall i hi
    rw [cells_u8, Nat.mul_one] at h1
    obtain ⟨y, hy⟩ : ∃ y, xs[i]? = some y := ⟨xs[i]'(by omega), by simp⟩
    rw [hy] at h1
    obtain ⟨z, hc, _, _⟩ := DataW.trod_int under_u8 h1
    refine ⟨z, ?_⟩
    have := congrArg (·[0]?) hc
    simpa [List.getElem?_take, List.getElem?_drop] using this
  obtain ⟨F, hF⟩ := Go.Deep.choose_lt key
  refine ⟨F, List.ext_getElem? fun i => ?_⟩
  by_cases hi : i < 128
  · rw [hF i hi, bl_get F hi]
  · rw [List.getElem?_eq_none (by omega), List.getElem?_eq_none (by rw [bl_length]; omega)]
theorem tail2 {u v : Value} {X : List Value} (hl : cs.length = 130) (h0 : (cs.drop 0).take 128 = X) (h1 : (cs.drop 128).take 1 = [u]) (h2 : (cs.drop 129).take 1 = [v]) : cs = X ++ [u, v] := by
  have e2 : cs.drop 129 = [v] := by rwa [List.take_of_length_le (by simp; omega)] at h2
  have e1 : cs.drop 128 = [u, v] := by
    rw [← List.take_append_drop 1 (cs.drop 128), h1, List.drop_drop, e2]; rfl
  rw [List.drop_zero] at h0
  rw [← h0, ← e1, List.take_append_drop]
/-- a slice of rows -/
theorem open_rows {W : World} {Ty : Type} [Inhabited Ty] {V : Ty → List Value} {t e : TypeId} {k : Nat} (ht : Tryz.prog.underlying t = some (.slice e)) (hk : Tryz.prog.cellsOf e = k) (hk0 : 0 < k)
    (hop : ∀ (fuel : Nat) (cs : List Value) (x : DataW H × List MemPlace), DataW.trod enc Tryz.prog W 0 (fun _ => true) true fuel e cs = some x → ∃ s, cs = V s)
    (h : DataW.trod enc Tryz.prog W 0 (fun _ => true) true fuel t cs = some x) (hlt : ∀ p ∈ x.2, p.block < W.heap.size) :
    ∃ (ao : Option Addr) (n cap : Nat) (F : Nat → Ty), cs = [.slice ao n cap] ∧ Lay W W.heap.size W.heap.size ao n cap k (fun i => V (F i)) ∧ (n = 0 ∨ ∃ el rest, x.1 = .slice el rest ∧ el.length = n) := by
  rcases Go.Deep.open_slice ht h with ⟨rfl, rfl⟩ | ⟨a, len, cap, m, fu, D, Pl, rfl, _, hl, hm, hmm, rfl, hx⟩
  · exact ⟨none, 0, 0, fun _ => default, rfl, ⟨Nat.le_refl _, fun _ => rfl, .inl rfl⟩, .inl rfl⟩
  · simp only [if_true] at hmm
    subst hmm
    rw [hk] at hx hlt
    have hx' : ∀ i, i < m → ∃ s, W.cells? 0 (a.add (i * k)) k = some (V s) := fun i hi => by
      obtain ⟨cs', h1, h2⟩ := hx i hi
      obtain ⟨s, rfl⟩ := hop _ _ _ h2
      exact ⟨s, h1⟩
    obtain ⟨F, hF⟩ := Go.Deep.choose_lt hx'
    refine ⟨some a, len, m, F, rfl, ⟨hl, (fun hn => by cases hn), ?_⟩, .inr ⟨_, _, rfl, by simp⟩⟩
    rcases Nat.eq_zero_or_pos len with h0 | h0
    · exact .inl h0
    · right
      obtain ⟨b, off, spot⟩ := a
      have hpos : 0 < m * k := Nat.mul_pos (by omega) hk0
      have hb : b < W.heap.size := hlt (.cell b off) (List.mem_append.2 (.inl (MemPlace.mem_row.2 ⟨0, hpos, by simp⟩)))
      obtain ⟨_, hlen0, hc0⟩ := World.cells?_some (hF 0 (by omega))
      have hspot : spot = none := by
        have h00 := hc0 0 hk0
        rw [List.getElem?_eq_getElem (by omega)] at h00
        simpa [Addr.add] using World.cell?_spot h00
      subst hspot
      refine ⟨b, off, rfl, hb, by omega, fun i hi j v hv => ?_⟩
      obtain ⟨_, hlen, hc⟩ := World.cells?_some (hF i (by omega))
      have hj : j < k := by
        rw [← hlen]
        exact (List.getElem?_eq_some_iff.1 hv).1
      have := hc j hj
      rw [hv, add_plain, add_plain] at this
      exact this
end

end DLaw
end Go.Proofs.YtllejfnmbpjhaaaGreatDoor
/- disk: a blow, opened. -/
namespace Go.Proofs.YtllejfnmbpjhaaaGreatDoor
set_option maxRecDepth 20000
namespace DLaw
open Go.ChangeShapes Go.WideShapes Go.ChangeAt Go.RowKit Go.ChangeMaps Dk

end DLaw
end Go.Proofs.YtllejfnmbpjhaaaGreatDoor
/- disk: a disk with room for one more write, a block, opened. -/
namespace Go.Proofs.YtllejfnmbpjhaaaGreatDoor
set_option maxRecDepth 20000
namespace DLaw
open Go.ChangeShapes Go.WideShapes Go.ChangeAt Go.RowKit Go.ChangeMaps Dk

/-- any block, opened -/
theorem open_block {H : Type} {enc : TypeId × Value → H} {W : World} {r : Reach} {b0 base : Nat} {sp : Nat → Bool} {held : Bool} {v : Value} {d : DataW H} {ps : List MemPlace}
    (hval : Value.okWide Tryz.prog W r b0 36 v) (h : DataW.Trod enc Tryz.prog W base sp held 36 v d ps) : ∃ D : Nat → Int, v = .agg (bl D).toArray := by
  simp only [Value.okWide, under_arr] at hval
  obtain ⟨cs, rfl, _, _⟩ := hval
  obtain ⟨fuel, hf⟩ := h
  obtain ⟨D, hD⟩ := bl_read hf
  exact ⟨D, by rw [← hD]; simp [Value.cells]⟩
end DLaw
end Go.Proofs.YtllejfnmbpjhaaaGreatDoor
/- remap: a table, opened. -/
namespace Go.Proofs.YtllejfnmbpjhaaaGreatDoor
set_option maxRecDepth 20000
namespace DLaw
open Go.ChangeShapes Go.WideShapes Go.ChangeAt Go.RowKit Go.ChangeMaps Dk

abbrev PrT := { t : Int × Int // Rm.i64 t.1 ∧ Rm.i64 t.2 }
instance : Inhabited PrT := ⟨⟨(0, 0), by unfold Rm.i64; omega⟩⟩
def prT (t : PrT) : List Value := [.int .i64 t.1.1, .int .i64 t.1.2]
theorem cells_prty : Tryz.prog.cellsOf 72 = 2 := by kernel_rfl
theorem bytes_prty : Tryz.prog.bytesOf 72 = 16 := by kernel_rfl
theorem cells_rmty : Tryz.prog.cellsOf 28 = 2 := by kernel_rfl
theorem under_prs : Tryz.prog.underlying 26 = some (.slice 72) := by kernel_rfl
theorem pr_read {H : Type} {enc : TypeId × Value → H} {w : World} {base : Nat} {sp : Nat → Bool} {held : Bool} {fuel : Nat} {cs : List Value} {x : DataW H × List MemPlace} (h : DataW.trod enc Tryz.prog w base sp held fuel 72 cs = some x) : ∃ s : PrT, cs = prT s := by
  obtain ⟨y0, y1, n, _, hl, h0, h1⟩ := trod_struct2 Tryz.underlying72 h
  rw [cells_prty] at hl
  obtain ⟨z0, e0, _, w0⟩ := DataW.trod_int under_int h0
  obtain ⟨z1, e1, _, w1⟩ := DataW.trod_int under_int h1
  rw [cells_int] at e0 e1
  refine ⟨⟨(z0, z1), wf_i64 w0, wf_i64 w1⟩, ?_⟩
  match cs, hl with
  | [c0, c1], _ =>
    simp at e0 e1
    subst e0 e1
    rfl
/-- any table, opened -/
theorem open_remap {H : Type} {enc : TypeId × Value → H} {W : World} {r : Reach} {base : Nat} {v : Value} {d : DataW H} {ps : List MemPlace} {ts : List TypeId} {ds : List (DataW H)} {j : Nat}
    (hsz : (DataW.weightsEach Tryz.prog ts ds).all (· ≤ reachBytes) = true) (ht : ts[j]? = some 28) (hd : ds[j]? = some d)
    (hval : Value.okWide Tryz.prog W r base 28 v) (h0 : DataW.Trod enc Tryz.prog W 0 (fun _ => true) true 28 v d ps) (hlt : ∀ x ∈ ps, x.block < W.heap.size) :
    ∃ (gen : Int) (pa : Option Addr) (n cap : Nat) (F T : Nat → Int), v = .agg #[.int .i64 gen, .slice pa n cap] ∧ Lay W W.heap.size W.heap.size pa n cap 2 (Rm.prV F T) ∧ n * 16 ≤ 140737488355328 ∧ (∀ i, i < n → Rm.i64 (F i) ∧ Rm.i64 (T i)) ∧ Rm.i64 gen := by
  obtain ⟨v0, v1, y0, y1, fu, rfl, rfl, rfl, t0, t1⟩ := Joins.open_agg2 Tryz.underlying28 (by kernel_rfl) cells_rmty hval h0
  obtain ⟨f, hf, _, wf⟩ := DataW.trod_int under_int t0
  obtain ⟨pa, n, cap, S, hs, ls, ns⟩ := open_rows (V := prT) under_prs cells_prty (by omega) (fun _ _ _ h => pr_read h) t1 (fun p hp => hlt p (by simp [hp]))
  simp only [List.cons.injEq, and_true] at hf hs
  subst hf hs
  refine ⟨f, pa, n, cap, fun i => (S i).1.1, fun i => (S i).1.2, rfl, ls, ?_, fun i _ => (S i).2, wf_i64 wf⟩
  rcases ns with rfl | ⟨el, rest, he, hl⟩
  · omega
  · have hmem : (el.length + rest.length) * 16 ∈ DataW.weights Tryz.prog 28 (.agg [y0.1, y1.1]) := by
      rw [he]
      simp [DataW.weights, DataW.weightsEach, Tryz.underlying28, bytes_prty]
    have h9 : (el.length + rest.length) * 16 ≤ reachBytes := by simpa using List.all_eq_true.1 hsz _ (DataW.weights_mem_each ht hd _ hmem)
    simp only [reachBytes] at h9
    omega
end DLaw
end Go.Proofs.YtllejfnmbpjhaaaGreatDoor
/- remap: what is written where, opened. -/
namespace Go.Proofs.YtllejfnmbpjhaaaGreatDoor
set_option maxRecDepth 20000
namespace DLaw
open Go.ChangeShapes Go.WideShapes Go.ChangeAt Go.RowKit Go.ChangeMaps Dk

end DLaw
end Go.Proofs.YtllejfnmbpjhaaaGreatDoor
/- remap: a disk whose bytes are bytes, and a fall, opened. -/
namespace Go.Proofs.YtllejfnmbpjhaaaGreatDoor
set_option maxRecDepth 20000
namespace DLaw
open Go.ChangeShapes Go.WideShapes Go.ChangeAt Go.RowKit Go.ChangeMaps Dk

theorem wf_u8b {z : Int} (h : (Lit.int .u8 z).wf = true) : 0 ≤ z ∧ z < 256 := by
  have h1 : IntKind.u8.min = 0 := rfl
  have h2 : IntKind.u8.max = 255 := rfl
  simp only [Lit.wf, Bool.and_eq_true, decide_eq_true_eq] at h
  omega
instance : Inhabited { s : Sec // ∀ i, i < 128 → 0 ≤ s.data i ∧ s.data i < 256 } := ⟨⟨⟨fun _ => 0, false, false⟩, fun _ _ => ⟨Int.le_refl 0, (by decide : (0 : Int) < 256)⟩⟩⟩
instance : Inhabited { s : Wr // ∀ i, i < 128 → 0 ≤ s.data i ∧ s.data i < 256 } := ⟨⟨⟨0, fun _ => 0⟩, fun _ _ => ⟨Int.le_refl 0, (by decide : (0 : Int) < 256)⟩⟩⟩
section
variable {H : Type} {enc : TypeId × Value → H} {w : World} {base : Nat} {sp : Nat → Bool} {held : Bool} {fuel : Nat} {cs : List Value} {x : DataW H × List MemPlace}
theorem blk_readB (h : DataW.trod enc Tryz.prog w base sp held fuel 36 cs = some x) : ∃ F : Nat → Int, cs = bl F ∧ ∀ i, i < 128 → 0 ≤ F i ∧ F i < 256 := by
  obtain ⟨xs, m, _, _, hl, hxl, hall⟩ := DataW.trod_array under_arr h
  rw [cells_arr] at hl
  have key : ∀ i, i < 128 → ∃ z, cs[i]? = some (.int .u8 z) ∧ 0 ≤ z ∧ z < 256 := by
    intro i hi
    have h1 := hall i hi
    rw [cells_u8, Nat.mul_one] at h1
    obtain ⟨y, hy⟩ : ∃ y, xs[i]? = some y := ⟨xs[i]'(by omega), by simp⟩
    rw [hy] at h1
    obtain ⟨z, hz, _, hw⟩ := DataW.trod_int under_u8 h1
    refine ⟨z, ?_, wf_u8b hw⟩
    have := congrArg (·[0]?) hz
    simpa [List.getElem?_take, List.getElem?_drop] using this
  obtain ⟨F, hF⟩ := Go.Deep.choose_lt key
  refine ⟨F, List.ext_getElem? fun i => ?_, fun i hi => (hF i hi).2⟩
  by_cases hi : i < 128
  · rw [(hF i hi).1]
    unfold bl
    simp [hi]
  · rw [List.getElem?_eq_none (by omega), List.getElem?_eq_none (by rw [bl_length]; omega)]
theorem sec_readB (h : DataW.trod enc Tryz.prog w base sp held fuel 68 cs = some x) : ∃ s : { s : Sec // ∀ i, i < 128 → 0 ≤ s.data i ∧ s.data i < 256 }, cs = secV s.1 := by
  obtain ⟨y0, y1, y2, n, _, hl, h0, h1, h2⟩ := Go.Deep.trod_struct3 Tryz.underlying68 h
  rw [cells_secty] at hl
  obtain ⟨F, hF, hb⟩ := blk_readB h0
  obtain ⟨b1, e1, _⟩ := DataW.trod_bool under_bool h1
  obtain ⟨b2, e2, _⟩ := DataW.trod_bool under_bool h2
  exact ⟨⟨⟨F, b1, b2⟩, hb⟩, tail2 hl (by rw [← hF, ← cells_arr]) (by rw [← e1, ← cells_bool]) (by rw [← e2, ← cells_bool])⟩
theorem wr_readB (h : DataW.trod enc Tryz.prog w base sp held fuel 70 cs = some x) : ∃ s : { s : Wr // ∀ i, i < 128 → 0 ≤ s.data i ∧ s.data i < 256 }, cs = wrV s.1 := by
  obtain ⟨y0, y1, n, _, hl, h0, h1⟩ := trod_struct2 Tryz.underlying70 h
  rw [cells_wrty] at hl
  obtain ⟨F, hF, hb⟩ := blk_readB h1
  obtain ⟨z, e0, _⟩ := DataW.trod_int under_int h0
  refine ⟨⟨⟨z, F⟩, hb⟩, ?_⟩
  rw [cells_arr] at hF
  rw [cells_int] at e0
  rw [List.take_of_length_le (by simp; omega)] at hF
  show cs = .int .i64 z :: bl F
  rw [← List.take_append_drop 1 cs, ← hF]
  rw [List.drop_zero] at e0
  rw [e0]; rfl
end
/-- any disk, opened, with its bytes -/
theorem open_disk_b {H : Type} {enc : TypeId × Value → H} {W : World} {r : Reach} {base : Nat} {v : Value} {d : DataW H} {ps : List MemPlace} {ts : List TypeId} {ds : List (DataW H)} {j : Nat}
    (hsz : (DataW.weightsEach Tryz.prog ts ds).all (· ≤ reachBytes) = true) (ht : ts[j]? = some 25) (hd : ds[j]? = some d)
    (hval : Value.okWide Tryz.prog W r base 25 v) (h0 : DataW.Trod enc Tryz.prog W 0 (fun _ => true) true 25 v d ps) (hlt : ∀ x ∈ ps, x.block < W.heap.size) :
    ∃ (sa : Option Addr) (n sc : Nat) (ca : Option Addr) (m cc : Nat) (S : Nat → Sec) (C : Nat → Wr) (f : Int) (dn : Bool), v = .agg #[.slice sa n sc, .slice ca m cc, .int .i64 f, .bool dn] ∧
      Lay W W.heap.size W.heap.size sa n sc 130 (fun i => secV (S i)) ∧ Lay W W.heap.size W.heap.size ca m cc 129 (fun i => wrV (C i)) ∧ n * 130 ≤ 140737488355328 ∧ m * 136 ≤ 140737488355328 ∧ (-9223372036854775808 ≤ f ∧ f ≤ 9223372036854775807) ∧
      (∀ i j, j < 128 → 0 ≤ (S i).data j ∧ (S i).data j < 256) ∧ ∀ i j, j < 128 → 0 ≤ (C i).data j ∧ (C i).data j < 256 := by
  obtain ⟨v0, v1, v2, v3, y0, y1, y2, y3, fu, rfl, rfl, rfl, t0, t1, t2, t3⟩ := Joins.open_agg4 Tryz.underlying25 (by kernel_rfl) cells_disk hval h0
  obtain ⟨f, hf, _, wf⟩ := DataW.trod_int under_int t2
  obtain ⟨dn, hdn, _⟩ := DataW.trod_bool under_bool t3
  obtain ⟨sa, n, sc, S, hs, ls, ns⟩ := open_rows (V := fun s : { s : Sec // ∀ i, i < 128 → 0 ≤ s.data i ∧ s.data i < 256 } => secV s.1) slice_sec cells_secty (by omega) (fun _ _ _ h => sec_readB h) t0 (fun p hp => hlt p (by simp [hp]))
  obtain ⟨ca, m, cc, C, hc, lc, nc⟩ := open_rows (V := fun s : { s : Wr // ∀ i, i < 128 → 0 ≤ s.data i ∧ s.data i < 256 } => wrV s.1) slice_wr cells_wrty (by omega) (fun _ _ _ h => wr_readB h) t1 (fun p hp => hlt p (by simp [hp]))
  simp only [List.cons.injEq, and_true] at hf hdn hs hc
  subst hf hdn hs hc
  refine ⟨sa, n, sc, ca, m, cc, fun i => (S i).1, fun i => (C i).1, f, dn, rfl, ls, lc, ?_, ?_, wf_i64 wf, fun i => (S i).2, fun i => (C i).2⟩
  · rcases ns with rfl | ⟨el, rest, he, hl⟩
    · omega
    · have hmem : (el.length + rest.length) * 130 ∈ DataW.weights Tryz.prog 25 (.agg [y0.1, y1.1, y2.1, y3.1]) := by
        rw [he]
        simp [DataW.weights, DataW.weightsEach, Tryz.underlying25, bytes_secty]
      have h9 : (el.length + rest.length) * 130 ≤ reachBytes := by simpa using List.all_eq_true.1 hsz _ (DataW.weights_mem_each ht hd _ hmem)
      simp only [reachBytes] at h9
      omega
  · rcases nc with rfl | ⟨el, rest, he, hl⟩
    · omega
    · have hmem : (el.length + rest.length) * 136 ∈ DataW.weights Tryz.prog 25 (.agg [y0.1, y1.1, y2.1, y3.1]) := by
        rw [he]
        simp [DataW.weights, DataW.weightsEach, Tryz.underlying25, bytes_wrty]
      have h9 : (el.length + rest.length) * 136 ≤ reachBytes := by simpa using List.all_eq_true.1 hsz _ (DataW.weights_mem_each ht hd _ hmem)
      simp only [reachBytes] at h9
      omega
end DLaw
end Go.Proofs.YtllejfnmbpjhaaaGreatDoor
/- From a law's walk to what its row asks: for a law of any arguments that answers true and leaves old memory as it was. Arguments opened: bytes, numbers, texts, arrays of integers. -/
namespace Go.Proofs.YtllejfnmbpjhaaaGreatDoor
set_option maxRecDepth 20000
namespace Law
open Go.ChangeShapes Go.WideShapes Go.ChangeAt Go.RowKit Go.ChangeMaps Byt

theorem own : ownKnob Tryz.prog.godebug = none := by kernel_rfl
theorem under_u8 : Tryz.prog.underlying 5 = some (.int .u8) := by kernel_rfl
theorem under_int : Tryz.prog.underlying 3 = some (.int .i64) := by kernel_rfl
theorem under_bool : Tryz.prog.underlying 4 = some .bool := by kernel_rfl
theorem cells_u8 : Tryz.prog.cellsOf 5 = 1 := by kernel_rfl
theorem cells_int : Tryz.prog.cellsOf 3 = 1 := by kernel_rfl
theorem bytes_u8 : Tryz.prog.bytesOf 5 = 1 := by kernel_rfl
theorem laid_out : laidOutB Tryz.prog = true := by kernel_rfl

/-- what old memory held, arguments read behind the call -/
theorem trodAll_below {H : Type} {enc : TypeId × Value → H} {W W' : World} (hb : Below W.heap.size W W') : ∀ (ts : List TypeId) (vs : List Value) (ds : List (DataW H)) (ps : List MemPlace),
    (∀ t ∈ ts, Tryz.prog.readableRec t = true ∧ t < Tryz.prog.types.size) → DataW.TrodAll enc Tryz.prog W 0 (fun _ => true) true ts vs ds ps → (∀ x ∈ ps, x.block < W.heap.size) →
    DataW.TrodAll enc Tryz.prog W' 0 (fun b => decide (b < W.heap.size)) true ts vs ds ps
  | [], vs, ds, ps, _, h, _ => by
    obtain ⟨rfl, rfl, rfl⟩ := trodAll_nil h
    exact trodAll_mk0
  | t :: ts, vs, ds, ps, hr, h, hlt => by
    obtain ⟨v, vs', d, ds', p, q, rfl, rfl, rfl, h1, h2⟩ := trodAll_cons h
    exact trodAll_cons_mk (Below.trod laid_out (hr t (by simp)).1 (hr t (by simp)).2 h1 hb (fun x hx => hlt x (by simp [hx])))
      (trodAll_below hb ts vs' ds' q (fun t ht => hr t (by simp [ht])) h2 (fun x hx => hlt x (by simp [hx])))

/-- the law's post, out of its walk -/
theorem law_post {s : ChangeSpec} (hv : s.vars = []) {f : FuncId} {fn : Func} (hr : fn.resultTypes = #[4]) (hp : ∀ t ∈ fn.params.toList, Tryz.prog.readableRec t = true ∧ t < Tryz.prog.types.size)
    {H : Type} {enc : TypeId × Value → H} {W : World} {args : Array Value} {ds gs : List (DataW H)} {before : List MemPlace} (hs : s.fn H ds = { results := [.lit (.bool true)], args := ds })
    (hW : DataW.Whole enc Tryz.prog fn.params.toList s.vars false W args.toList ds gs before)
    (walk : Calls Tryz.prog f args W fun e W' => e = .returned (.bool true) ∧ Below W.heap.size W W') :
    Calls Tryz.prog f args W fun e W' => ∃ v, e = .returned v ∧ s.post enc Tryz.prog fn false true false false W args v W' := by
  have hW' := hW
  obtain ⟨p, q, hA0, hV, rfl, hfz, hnd⟩ := hW
  rw [hv] at hV
  obtain ⟨rfl, rfl⟩ := trodVars_none hV
  refine walk.mono fun e W' ⟨he, hb⟩ => ?_
  subst he
  have hlt : ∀ x ∈ p, x.block < W.heap.size := fun x hx => by simpa using hW'.lt x (by simpa using hx)
  rw [List.append_nil] at hW'
  refine ⟨_, rfl, _, _, _, [], p, [], hW', ?_, ?_, ?_, hb.frame _, fun h => by cases h⟩
  · rw [hr, List.append_nil, hs]
    exact trodAll_cons_mk (shut_bool under_bool _) trodAll_mk0
  · rw [List.append_nil, hs]
    exact trodAll_below hb _ _ _ _ hp hA0 hlt
  · rw [hv, List.append_nil, hs]
    rfl

theorem wf_i64 {z : Int} (h : (Lit.int .i64 z).wf = true) : -9223372036854775808 ≤ z ∧ z ≤ 9223372036854775807 := by
  have h1 : IntKind.i64.min = -9223372036854775808 := rfl
  have h2 : IntKind.i64.max = 9223372036854775807 := rfl
  simp only [Lit.wf, Bool.and_eq_true, decide_eq_true_eq] at h
  omega
/-- any int, opened -/
theorem open_num {H : Type} {enc : TypeId × Value → H} {W : World} {r : Reach} {b0 base : Nat} {sp : Nat → Bool} {held : Bool} {v : Value} {d : DataW H} {ps : List MemPlace} (hval : Value.okWide Tryz.prog W r b0 3 v) (h : DataW.Trod enc Tryz.prog W base sp held 3 v d ps) :
    ∃ z : Int, v = .int .i64 z ∧ -9223372036854775808 ≤ z ∧ z ≤ 9223372036854775807 := by
  obtain ⟨z, rfl, _, _, hw⟩ := open_int under_int hval h
  exact ⟨z, rfl, wf_i64 hw⟩
def numAt (cs : Array Value) (i : Nat) : Int := match cs[i]? with
  | some (.int _ z) => z
  | _ => 0
/-- any array of integers, opened -/
theorem open_arr_ints {H : Type} {enc : TypeId × Value → H} {P : Program} {W : World} {b base : Nat} {sp : Nat → Bool} {held : Bool} {r : Reach} {t e : TypeId} {n : Nat} {k : IntKind} {v : Value} {d : DataW H} {ps : List MemPlace}
    (ht : P.underlying t = some (.array n e)) (he : P.underlying e = some (.int k)) (hce : P.cellsOf e = 1) (hct : P.cellsOf t = n)
    (hok : Value.okWide P W r b t v) (h : DataW.Trod enc P W base sp held t v d ps) :
    ∃ F : Nat → Int, v = .agg (((List.range n).map fun i => Value.int k (F i)).toArray) ∧ ∀ i, i < n → (Lit.int k (F i)).wf = true := by
  simp only [Value.okWide, ht] at hok
  obtain ⟨cs, rfl, hsz, _⟩ := hok
  obtain ⟨fuel, hf⟩ := h
  obtain ⟨xs, m, _, _, hl, hxl, hall⟩ := DataW.trod_array ht hf
  have hcl : cs.size = n := by simpa [Value.cells, hct] using hl
  have key : ∀ i, i < n → ∃ z, cs[i]? = some (.int k z) ∧ (Lit.int k z).wf = true := by
    intro i hi
    have h1 := hall i hi
    rw [hce, Nat.mul_one] at h1
    obtain ⟨y, hy⟩ : ∃ y, xs[i]? = some y := ⟨xs[i]'(by omega), by simp⟩
    rw [hy] at h1
    obtain ⟨z, hc, _, hw⟩ := DataW.trod_int he h1
    refine ⟨z, ?_, hw⟩
    have := congrArg (·[0]?) hc
    simpa [Value.cells, List.getElem?_take, List.getElem?_drop] using this
  refine ⟨numAt cs, ?_, fun i hi => ?_⟩
  · congr 1
    apply Array.ext_getElem?
    intro i
    by_cases hi : i < n
    · obtain ⟨z, hz, _⟩ := key i hi
      rw [hz]
      simp [numAt, hz, hi]
    · rw [Array.getElem?_eq_none (by omega), Array.getElem?_eq_none (by simp; omega)]
  · obtain ⟨z, hz, hw⟩ := key i hi
    simp only [numAt, hz]
    exact hw

end Law
end Go.Proofs.YtllejfnmbpjhaaaGreatDoor
/- ptr: blocks, pointers, slices of pointers, small numbers, opened. -/
namespace Go.Proofs.YtllejfnmbpjhaaaGreatDoor
set_option maxRecDepth 20000
namespace PLaw
open Go.ChangeShapes Go.WideShapes Go.ChangeAt Go.RowKit Go.ChangeMaps Law Dk Byt

theorem cells_arr : Tryz.prog.cellsOf 36 = 128 := by kernel_rfl
theorem under_arr : Tryz.prog.underlying 36 = some (.array 128 5) := by kernel_rfl
theorem cells_sum : Tryz.prog.cellsOf 29 = 32 := by kernel_rfl
theorem under_sum : Tryz.prog.underlying 29 = some (.array 32 5) := by kernel_rfl
theorem cells_ptr : Tryz.prog.cellsOf 31 = 34 := by kernel_rfl
theorem wf_u8 {z : Int} (h : (Lit.int .u8 z).wf = true) : 0 ≤ z ∧ z < 256 := by
  have h1 : IntKind.u8.min = 0 := rfl
  have h2 : IntKind.u8.max = 255 := rfl
  simp only [Lit.wf, Bool.and_eq_true, decide_eq_true_eq] at h
  omega

section
variable {H : Type} {enc : TypeId × Value → H} {w : World} {base : Nat} {sp : Nat → Bool} {held : Bool} {fuel : Nat} {cs : List Value} {x : DataW H × List MemPlace}
/-- the cells of n bytes -/
theorem bytes_read {t : TypeId} {n : Nat} (hu : Tryz.prog.underlying t = some (.array n 5)) (hc : Tryz.prog.cellsOf t = n) (h : DataW.trod enc Tryz.prog w base sp held fuel t cs = some x) : ∃ F : Nat → Int, cs = (List.range n).map (fun j => .int .u8 (F j)) ∧ ∀ i, i < n → 0 ≤ F i ∧ F i < 256 := by
  obtain ⟨xs, m, _, _, hl, hxl, hall⟩ := DataW.trod_array hu h
  rw [hc] at hl
  have key : ∀ i, i < n → ∃ z, cs[i]? = some (.int .u8 z) ∧ 0 ≤ z ∧ z < 256 := by
    intro i hi
    have h1 := hall i hi
    rw [cells_u8, Nat.mul_one] at h1
    obtain ⟨y, hy⟩ : ∃ y, xs[i]? = some y := ⟨xs[i]'(by omega), by simp⟩
    rw [hy] at h1
    obtain ⟨z, hz, _, hw⟩ := DataW.trod_int under_u8 h1
    refine ⟨z, ?_, wf_u8 hw⟩
    have := congrArg (·[0]?) hz
    simpa [List.getElem?_take, List.getElem?_drop] using this
  obtain ⟨F, hF⟩ := Go.Deep.choose_lt key
  refine ⟨F, List.ext_getElem? fun i => ?_, fun i hi => (hF i hi).2⟩
  by_cases hi : i < n
  · rw [(hF i hi).1]
    simp [hi]
  · rw [List.getElem?_eq_none (by omega), List.getElem?_eq_none (by simp; omega)]
def PtOk (p : Pt.Pn) : Prop := (-9223372036854775808 ≤ p.A ∧ p.A ≤ 9223372036854775807) ∧ (-9223372036854775808 ≤ p.B ∧ p.B ≤ 9223372036854775807) ∧ ∀ j, j < 32 → 0 ≤ p.S j ∧ p.S j < 256
theorem ptr_read (h : DataW.trod enc Tryz.prog w base sp held fuel 31 cs = some x) : ∃ p : { p : Pt.Pn // PtOk p }, cs = Pt.pV p.1 := by
  obtain ⟨y0, y1, y2, n, _, hl, h0, h1, h2⟩ := Go.Deep.trod_struct3 Tryz.underlying31 h
  rw [cells_ptr] at hl
  obtain ⟨z0, e0, _, w0⟩ := DataW.trod_int under_int h0
  obtain ⟨z1, e1, _, w1⟩ := DataW.trod_int under_int h1
  obtain ⟨F, hF, hb⟩ := bytes_read under_sum cells_sum h2
  rw [cells_int] at e0 e1
  rw [cells_sum] at hF
  refine ⟨⟨⟨z0, z1, F⟩, wf_i64 w0, wf_i64 w1, hb⟩, ?_⟩
  rw [List.take_of_length_le (by simp; omega)] at hF
  show cs = .int .i64 z0 :: .int .i64 z1 :: _
  rw [← hF, ← List.take_append_drop 1 cs]
  rw [List.drop_zero] at e0
  rw [e0, ← List.take_append_drop 1 (cs.drop 1), e1, List.drop_drop]
  rfl
end

/-- any block, opened -/
theorem open_block {H : Type} {enc : TypeId × Value → H} {W : World} {r : Reach} {b0 base : Nat} {sp : Nat → Bool} {held : Bool} {v : Value} {d : DataW H} {ps : List MemPlace}
    (hval : Value.okWide Tryz.prog W r b0 36 v) (h : DataW.Trod enc Tryz.prog W base sp held 36 v d ps) : ∃ D : Nat → Int, v = .agg (bl D).toArray ∧ Pt.Bytes D := by
  simp only [Value.okWide, under_arr] at hval
  obtain ⟨cs, rfl, _, _⟩ := hval
  obtain ⟨fuel, hf⟩ := h
  obtain ⟨D, hD, hb⟩ := bytes_read under_arr cells_arr hf
  refine ⟨D, ?_, hb⟩
  have hD' : cs.toList = bl D := by simpa [Value.cells, bl] using hD
  rw [← hD']
/-- any pointer, opened -/
theorem open_ptr {H : Type} {enc : TypeId × Value → H} {W : World} {r : Reach} {b0 base : Nat} {sp : Nat → Bool} {held : Bool} {v : Value} {d : DataW H} {ps : List MemPlace}
    (hval : Value.okWide Tryz.prog W r b0 31 v) (h : DataW.Trod enc Tryz.prog W base sp held 31 v d ps) : ∃ p : Pt.Pn, v = .agg (Pt.pV p).toArray ∧ PtOk p := by
  obtain ⟨cs, rfl, _⟩ := okWide_struct Tryz.underlying31 hval
  obtain ⟨fuel, hf⟩ := h
  obtain ⟨p, hp⟩ := ptr_read hf
  refine ⟨p.1, ?_, p.2⟩
  have hp' : cs.toList = Pt.pV p.1 := by simpa [Value.cells] using hp
  rw [← hp']
instance : Inhabited { p : Pt.Pn // PtOk p } := ⟨⟨Pt.pz, by unfold PtOk Pt.pz Pt.zS; simp⟩⟩
/-- a slice of rows -/
theorem open_rows {H : Type} {enc : TypeId × Value → H} {W : World} {fuel : Nat} {cs : List Value} {x : DataW H × List MemPlace} {Ty : Type} [Inhabited Ty] {V : Ty → List Value} {t e : TypeId} {k : Nat} (ht : Tryz.prog.underlying t = some (.slice e)) (hk : Tryz.prog.cellsOf e = k) (hk0 : 0 < k)
    (hop : ∀ (fuel : Nat) (cs : List Value) (x : DataW H × List MemPlace), DataW.trod enc Tryz.prog W 0 (fun _ => true) true fuel e cs = some x → ∃ s, cs = V s)
    (h : DataW.trod enc Tryz.prog W 0 (fun _ => true) true fuel t cs = some x) (hlt : ∀ p ∈ x.2, p.block < W.heap.size) :
    ∃ (ao : Option Addr) (n cap : Nat) (F : Nat → Ty), cs = [.slice ao n cap] ∧ Lay W W.heap.size W.heap.size ao n cap k (fun i => V (F i)) ∧ (n = 0 ∨ ∃ el rest, x.1 = .slice el rest ∧ el.length = n) := by
  rcases Go.Deep.open_slice ht h with ⟨rfl, rfl⟩ | ⟨a, len, cap, m, fu, D, Pl, rfl, _, hl, hm, hmm, rfl, hx⟩
  · exact ⟨none, 0, 0, fun _ => default, rfl, ⟨Nat.le_refl _, fun _ => rfl, .inl rfl⟩, .inl rfl⟩
  · simp only [if_true] at hmm
    subst hmm
    rw [hk] at hx hlt
    have hx' : ∀ i, i < m → ∃ s, W.cells? 0 (a.add (i * k)) k = some (V s) := fun i hi => by
      obtain ⟨cs', h1, h2⟩ := hx i hi
      obtain ⟨s, rfl⟩ := hop _ _ _ h2
      exact ⟨s, h1⟩
    obtain ⟨F, hF⟩ := Go.Deep.choose_lt hx'
    refine ⟨some a, len, m, F, rfl, ⟨hl, (fun hn => by cases hn), ?_⟩, .inr ⟨_, _, rfl, by simp⟩⟩
    rcases Nat.eq_zero_or_pos len with h0 | h0
    · exact .inl h0
    · right
      obtain ⟨b, off, spot⟩ := a
      have hpos : 0 < m * k := Nat.mul_pos (by omega) hk0
      have hb : b < W.heap.size := hlt (.cell b off) (List.mem_append.2 (.inl (MemPlace.mem_row.2 ⟨0, hpos, by simp⟩)))
      obtain ⟨_, hlen0, hc0⟩ := World.cells?_some (hF 0 (by omega))
      have hspot : spot = none := by
        have h00 := hc0 0 hk0
        rw [List.getElem?_eq_getElem (by omega)] at h00
        simpa [Addr.add] using World.cell?_spot h00
      subst hspot
      refine ⟨b, off, rfl, hb, by omega, fun i hi j v hv => ?_⟩
      obtain ⟨_, hlen, hc⟩ := World.cells?_some (hF i (by omega))
      have hj : j < k := by
        rw [← hlen]
        exact (List.getElem?_eq_some_iff.1 hv).1
      have := hc j hj
      rw [hv, add_plain, add_plain] at this
      exact this
end PLaw
end Go.Proofs.YtllejfnmbpjhaaaGreatDoor
/- From a walk over any bytes to what a law's row asks, for a law of one argument, any bytes. -/
namespace Go.Proofs.YtllejfnmbpjhaaaGreatDoor
set_option maxRecDepth 20000
namespace Sha
open Go.ChangeShapes Go.WideShapes Go.ChangeAt Go.RowKit

theorem own : ownKnob Tryz.prog.godebug = none := by kernel_rfl
theorem gTab : Tryz.prog.globalNamed "lazaret/sha.stepNumbers" = some 0 := by kernel_rfl
theorem gTabType : (Tryz.prog.globals[0]?).map (·.type) = some 138 := by kernel_rfl
theorem under_tab : Tryz.prog.underlying 138 = some (.array 64 111) := by kernel_rfl
theorem under_u32 : Tryz.prog.underlying 111 = some (.int .u32) := by kernel_rfl
theorem under_u8 : Tryz.prog.underlying 5 = some (.int .u8) := by kernel_rfl
theorem under_bool : Tryz.prog.underlying 4 = some .bool := by kernel_rfl
theorem cells_u32 : Tryz.prog.cellsOf 111 = 1 := by kernel_rfl
theorem cells_u8 : Tryz.prog.cellsOf 5 = 1 := by kernel_rfl
theorem cells_tab : Tryz.prog.cellsOf 138 = 64 := by kernel_rfl
theorem bytes_u8 : Tryz.prog.bytesOf 5 = 1 := by kernel_rfl
theorem laid_out : laidOutB Tryz.prog = true := by kernel_rfl

/-- what a row's list gives -/
theorem table {W : World} (h : laidMetH Tryz.prog [("lazaret/sha.stepNumbers", Rows.laid_lazaret_sha_stepNumbers)] W) : ∀ k, k < 64 → W.cell? ⟨0, k, none⟩ = some (.int .u32 (kT k)) :=
  fun k hk => (Lib.tabIs_of_head (zs := kList) (rest := []) gTab gTabType under_tab under_u32 cells_u32 cells_tab h).cell gTab k hk

/-- a world for the witness: the table holds its numbers -/
noncomputable def laidWorld (os : Os) : World :=
  { World.holding Tryz.prog os ⟨#[], #[], []⟩ with heap := (World.holding Tryz.prog os ⟨#[], #[], []⟩).heap.modify 0 fun
      | .cells _ t frozen => .cells (arr 64 (vu32 kT)) t frozen
      | o => o }

end Sha
end Go.Proofs.YtllejfnmbpjhaaaGreatDoor
