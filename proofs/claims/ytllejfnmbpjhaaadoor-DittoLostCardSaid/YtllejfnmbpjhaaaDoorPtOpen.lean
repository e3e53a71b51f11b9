/- ptr: blocks, pointers, slices of pointers, small numbers, opened. -/
import Derived.Test.YtllejfnmbpjhaaaDoorPtSum
import Derived.Test.YtllejfnmbpjhaaaDoorLaw
import Derived.Deep.Slices
namespace Go.Proofs.YtllejfnmbpjhaaaDoor
set_option maxRecDepth 20000
namespace PLaw
open Go.ChangeShapes Go.WideShapes Go.ChangeAt Go.RowKit Go.ChangeMaps Law Dk Byt

theorem cells_arr : Tryd.prog.cellsOf 22 = 128 := by kernel_rfl
theorem under_arr : Tryd.prog.underlying 22 = some (.array 128 5) := by kernel_rfl
theorem cells_sum : Tryd.prog.cellsOf 63 = 32 := by kernel_rfl
theorem under_sum : Tryd.prog.underlying 63 = some (.array 32 5) := by kernel_rfl
theorem cells_ptr : Tryd.prog.cellsOf 65 = 34 := by kernel_rfl
theorem bytes_ptr : Tryd.prog.bytesOf 65 = 48 := by kernel_rfl
theorem under_ptrs : Tryd.prog.underlying 60 = some (.slice 65) := by kernel_rfl
theorem wf_u8 {z : Int} (h : (Lit.int .u8 z).wf = true) : 0 ≤ z ∧ z < 256 := by
  have h1 : IntKind.u8.min = 0 := rfl
  have h2 : IntKind.u8.max = 255 := rfl
  simp only [Lit.wf, Bool.and_eq_true, decide_eq_true_eq] at h
  omega

section
variable {H : Type} {enc : TypeId × Value → H} {w : World} {base : Nat} {sp : Nat → Bool} {held : Bool} {fuel : Nat} {cs : List Value} {x : DataW H × List MemPlace}
/-- the cells of n bytes -/
theorem bytes_read {t : TypeId} {n : Nat} (hu : Tryd.prog.underlying t = some (.array n 5)) (hc : Tryd.prog.cellsOf t = n) (h : DataW.trod enc Tryd.prog w base sp held fuel t cs = some x) : ∃ F : Nat → Int, cs = (List.range n).map (fun j => .int .u8 (F j)) ∧ ∀ i, i < n → 0 ≤ F i ∧ F i < 256 := by
  obtain ⟨xs, m, _, _, hl, hxl, hall⟩ := DataW.trod_array hu h
  rw [hc] at hl
  have key : ∀ i, i < n → ∃ z, cs[i]? = some (.int .u8 z) ∧ 0 ≤ z ∧ z < 256 := by
    intro i hi
    have h1 := hall i hi
    rw [cells_u8, Nat.mul_one] at h1
    obtain ⟨y, hy⟩ : ∃ y, xs[i]? = some y := ⟨xs[i]'(by omega), by simp⟩
    rw [hy] at h1
    obtain ⟨z, hz, _, hw⟩ := DataW.trod_int under_u8 h1
    refine ⟨z, ?_, wf_u8 hw⟩
    have := congrArg (·[0]?) hz
    simpa [List.getElem?_take, List.getElem?_drop] using this
  obtain ⟨F, hF⟩ := Go.Deep.choose_lt key
  refine ⟨F, List.ext_getElem? fun i => ?_, fun i hi => (hF i hi).2⟩
  by_cases hi : i < n
  · rw [(hF i hi).1]
    simp [hi]
  · rw [List.getElem?_eq_none (by omega), List.getElem?_eq_none (by simp; omega)]
def PtOk (p : Pt.Pn) : Prop := (-9223372036854775808 ≤ p.A ∧ p.A ≤ 9223372036854775807) ∧ (-9223372036854775808 ≤ p.B ∧ p.B ≤ 9223372036854775807) ∧ ∀ j, j < 32 → 0 ≤ p.S j ∧ p.S j < 256
theorem ptr_read (h : DataW.trod enc Tryd.prog w base sp held fuel 65 cs = some x) : ∃ p : { p : Pt.Pn // PtOk p }, cs = Pt.pV p.1 := by
  obtain ⟨y0, y1, y2, n, _, hl, h0, h1, h2⟩ := Go.Deep.trod_struct3 Tryd.underlying65 h
  rw [cells_ptr] at hl
  obtain ⟨z0, e0, _, w0⟩ := DataW.trod_int under_int h0
  obtain ⟨z1, e1, _, w1⟩ := DataW.trod_int under_int h1
  obtain ⟨F, hF, hb⟩ := bytes_read under_sum cells_sum h2
  rw [cells_int] at e0 e1
  rw [cells_sum] at hF
  refine ⟨⟨⟨z0, z1, F⟩, wf_i64 w0, wf_i64 w1, hb⟩, ?_⟩
  rw [List.take_of_length_le (by simp; omega)] at hF
  show cs = .int .i64 z0 :: .int .i64 z1 :: _
  rw [← hF, ← List.take_append_drop 1 cs]
  rw [List.drop_zero] at e0
  rw [e0, ← List.take_append_drop 1 (cs.drop 1), e1, List.drop_drop]
  rfl
end

/-- any block, opened -/
theorem open_block {H : Type} {enc : TypeId × Value → H} {W : World} {r : Reach} {b0 base : Nat} {sp : Nat → Bool} {held : Bool} {v : Value} {d : DataW H} {ps : List MemPlace}
    (hval : Value.okWide Tryd.prog W r b0 22 v) (h : DataW.Trod enc Tryd.prog W base sp held 22 v d ps) : ∃ D : Nat → Int, v = .agg (bl D).toArray ∧ Pt.Bytes D := by
  simp only [Value.okWide, under_arr] at hval
  obtain ⟨cs, rfl, _, _⟩ := hval
  obtain ⟨fuel, hf⟩ := h
  obtain ⟨D, hD, hb⟩ := bytes_read under_arr cells_arr hf
  refine ⟨D, ?_, hb⟩
  have hD' : cs.toList = bl D := by simpa [Value.cells, bl] using hD
  rw [← hD']
/-- any pointer, opened -/
theorem open_ptr {H : Type} {enc : TypeId × Value → H} {W : World} {r : Reach} {b0 base : Nat} {sp : Nat → Bool} {held : Bool} {v : Value} {d : DataW H} {ps : List MemPlace}
    (hval : Value.okWide Tryd.prog W r b0 65 v) (h : DataW.Trod enc Tryd.prog W base sp held 65 v d ps) : ∃ p : Pt.Pn, v = .agg (Pt.pV p).toArray ∧ PtOk p := by
  obtain ⟨cs, rfl, _⟩ := okWide_struct Tryd.underlying65 hval
  obtain ⟨fuel, hf⟩ := h
  obtain ⟨p, hp⟩ := ptr_read hf
  refine ⟨p.1, ?_, p.2⟩
  have hp' : cs.toList = Pt.pV p.1 := by simpa [Value.cells] using hp
  rw [← hp']
/-- any byte, opened -/
theorem open_u8 {H : Type} {enc : TypeId × Value → H} {W : World} {r : Reach} {b0 base : Nat} {sp : Nat → Bool} {held : Bool} {v : Value} {d : DataW H} {ps : List MemPlace} (hval : Value.okWide Tryd.prog W r b0 5 v) (h : DataW.Trod enc Tryd.prog W base sp held 5 v d ps) :
    ∃ z : Nat, v = .int .u8 z ∧ z < 256 := by
  obtain ⟨z, rfl, _, _, hw⟩ := open_int under_u8 hval h
  have := wf_u8 hw
  exact ⟨z.toNat, by rw [Int.toNat_of_nonneg this.1], by omega⟩

instance : Inhabited { p : Pt.Pn // PtOk p } := ⟨⟨Pt.pz, by unfold PtOk Pt.pz Pt.zS; simp⟩⟩
/-- a slice of rows -/
theorem open_rows {H : Type} {enc : TypeId × Value → H} {W : World} {fuel : Nat} {cs : List Value} {x : DataW H × List MemPlace} {Ty : Type} [Inhabited Ty] {V : Ty → List Value} {t e : TypeId} {k : Nat} (ht : Tryd.prog.underlying t = some (.slice e)) (hk : Tryd.prog.cellsOf e = k) (hk0 : 0 < k)
    (hop : ∀ (fuel : Nat) (cs : List Value) (x : DataW H × List MemPlace), DataW.trod enc Tryd.prog W 0 (fun _ => true) true fuel e cs = some x → ∃ s, cs = V s)
    (h : DataW.trod enc Tryd.prog W 0 (fun _ => true) true fuel t cs = some x) (hlt : ∀ p ∈ x.2, p.block < W.heap.size) :
    ∃ (ao : Option Addr) (n cap : Nat) (F : Nat → Ty), cs = [.slice ao n cap] ∧ Lay W W.heap.size W.heap.size ao n cap k (fun i => V (F i)) ∧ (n = 0 ∨ ∃ el rest, x.1 = .slice el rest ∧ el.length = n) := by
  rcases Go.Deep.open_slice ht h with ⟨rfl, rfl⟩ | ⟨a, len, cap, m, fu, D, Pl, rfl, _, hl, hm, hmm, rfl, hx⟩
  · exact ⟨none, 0, 0, fun _ => default, rfl, ⟨Nat.le_refl _, fun _ => rfl, .inl rfl⟩, .inl rfl⟩
  · simp only [if_true] at hmm
    subst hmm
    rw [hk] at hx hlt
    have hx' : ∀ i, i < m → ∃ s, W.cells? 0 (a.add (i * k)) k = some (V s) := fun i hi => by
      obtain ⟨cs', h1, h2⟩ := hx i hi
      obtain ⟨s, rfl⟩ := hop _ _ _ h2
      exact ⟨s, h1⟩
    obtain ⟨F, hF⟩ := Go.Deep.choose_lt hx'
    refine ⟨some a, len, m, F, rfl, ⟨hl, (fun hn => by cases hn), ?_⟩, .inr ⟨_, _, rfl, by simp⟩⟩
    rcases Nat.eq_zero_or_pos len with h0 | h0
    · exact .inl h0
    · right
      obtain ⟨b, off, spot⟩ := a
      have hpos : 0 < m * k := Nat.mul_pos (by omega) hk0
      have hb : b < W.heap.size := hlt (.cell b off) (List.mem_append.2 (.inl (MemPlace.mem_row.2 ⟨0, hpos, by simp⟩)))
      obtain ⟨_, hlen0, hc0⟩ := World.cells?_some (hF 0 (by omega))
      have hspot : spot = none := by
        have h00 := hc0 0 hk0
        rw [List.getElem?_eq_getElem (by omega)] at h00
        simpa [Addr.add] using World.cell?_spot h00
      subst hspot
      refine ⟨b, off, rfl, hb, by omega, fun i hi j v hv => ?_⟩
      obtain ⟨_, hlen, hc⟩ := World.cells?_some (hF i (by omega))
      have hj : j < k := by
        rw [← hlen]
        exact (List.getElem?_eq_some_iff.1 hv).1
      have := hc j hj
      rw [hv, add_plain, add_plain] at this
      exact this
/-- any list of pointers, opened -/
theorem open_ptrs {H : Type} {enc : TypeId × Value → H} {W : World} {r : Reach} {base : Nat} {v : Value} {d : DataW H} {ps : List MemPlace} {ts : List TypeId} {ds : List (DataW H)} {j : Nat}
    (hsz : (DataW.weightsEach Tryd.prog ts ds).all (· ≤ reachBytes) = true) (ht : ts[j]? = some 60) (hd : ds[j]? = some d)
    (hval : Value.okWide Tryd.prog W r base 60 v) (h0 : DataW.Trod enc Tryd.prog W 0 (fun _ => true) true 60 v d ps) (hlt : ∀ x ∈ ps, x.block < W.heap.size) :
    ∃ (pa : Option Addr) (n cap : Nat) (F : Nat → Pt.Pn), v = .slice pa n cap ∧ Lay W W.heap.size W.heap.size pa n cap 34 (fun i => Pt.pV (F i)) ∧ n * 48 ≤ 140737488355328 ∧ ∀ i, PtOk (F i) := by
  obtain ⟨a0, len, cap, rfl⟩ := okWide_slice under_ptrs hval
  obtain ⟨fuel, hf⟩ := h0
  obtain ⟨ka, kn, kc, kf, hs, l, nn⟩ := open_rows (V := fun p : { p : Pt.Pn // PtOk p } => Pt.pV p.1) under_ptrs cells_ptr (by omega) (fun _ _ _ h => ptr_read h) hf hlt
  simp [Value.cells] at hs
  obtain ⟨rfl, rfl, rfl⟩ := hs
  refine ⟨_, _, _, fun i => (kf i).1, rfl, l, ?_, fun i => (kf i).2⟩
  rcases nn with rfl | ⟨el, rest, he, hl⟩
  · omega
  · cases d with
    | slice el' rest' =>
      have h1 := sized_slice hsz ht hd under_ptrs
      rw [bytes_ptr] at h1
      simp only [reachBytes] at h1
      simp only [DataW.slice.injEq] at he
      obtain ⟨rfl, rfl⟩ := he
      omega
    | _ => cases he
end PLaw
end Go.Proofs.YtllejfnmbpjhaaaDoor
