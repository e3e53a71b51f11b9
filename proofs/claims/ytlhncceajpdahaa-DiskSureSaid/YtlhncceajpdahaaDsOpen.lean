/- DiskSure: a list of steps, opened. -/
import Derived.Test.YtlhncceajpdahaaDkOpen
import Derived.Test.YtlhncceajpdahaaDsPlay
namespace Go.Proofs.Ytlhncceajpdahaa
namespace DLaw
open Go.ChangeShapes Go.WideShapes Go.ChangeAt Go.RowKit Go.ChangeMaps Dk

abbrev St3 := { t : Int × Int × Bool // 0 ≤ t.1 ∧ t.1 < 256 }
instance : Inhabited St3 := ⟨⟨(0, 0, false), by decide⟩⟩
def st3V (t : St3) : List Value := stepV t.1.1 t.1.2.1 t.1.2.2
theorem cells_step : Try.prog.cellsOf 38 = 3 := by kernel_rfl
theorem bytes_step : Try.prog.bytesOf 38 = 3 := by kernel_rfl
theorem under_steps : Try.prog.underlying 22 = some (.slice 38) := by kernel_rfl
theorem wf_u8 {z : Int} (h : (Lit.int .u8 z).wf = true) : 0 ≤ z ∧ z < 256 := by
  have h1 : IntKind.u8.min = 0 := rfl
  have h2 : IntKind.u8.max = 255 := rfl
  simp only [Lit.wf, Bool.and_eq_true, decide_eq_true_eq] at h
  omega
theorem step_read {H : Type} {enc : TypeId × Value → H} {w : World} {base : Nat} {sp : Nat → Bool} {held : Bool} {fuel : Nat} {cs : List Value} {x : DataW H × List MemPlace} (h : DataW.trod enc Try.prog w base sp held fuel 38 cs = some x) : ∃ s : St3, cs = st3V s := by
  obtain ⟨y0, y1, y2, n, _, hl, h0, h1, h2⟩ := Go.Deep.trod_struct3 Try.underlying38 h
  rw [cells_step] at hl
  obtain ⟨z0, e0, _, w0⟩ := DataW.trod_int under_u8 h0
  obtain ⟨z1, e1, _⟩ := DataW.trod_int under_u8 h1
  obtain ⟨b2, e2, _⟩ := DataW.trod_bool under_bool h2
  rw [cells_u8] at e0 e1
  rw [cells_bool] at e2
  refine ⟨⟨(z0, z1, b2), wf_u8 w0⟩, ?_⟩
  match cs, hl with
  | [c0, c1, c2], _ =>
    simp at e0 e1 e2
    subst e0 e1 e2
    rfl
/-- any list of steps, opened -/
theorem open_steps {H : Type} {enc : TypeId × Value → H} {W : World} {r : Reach} {base : Nat} {v : Value} {d : DataW H} {ps : List MemPlace} {ts : List TypeId} {ds : List (DataW H)} {j : Nat}
    (hsz : (DataW.weightsEach Try.prog ts ds).all (· ≤ reachBytes) = true) (ht : ts[j]? = some 22) (hd : ds[j]? = some d)
    (hval : Value.okWide Try.prog W r base 22 v) (h0 : DataW.Trod enc Try.prog W 0 (fun _ => true) true 22 v d ps) (hlt : ∀ x ∈ ps, x.block < W.heap.size) :
    ∃ (la : Option Addr) (ln lc : Nat) (A D : Nat → Int) (Fl : Nat → Bool), v = .slice la ln lc ∧ Lay W W.heap.size W.heap.size la ln lc 3 (fun i => stepV (A i) (D i) (Fl i)) ∧ (∀ i, i < ln → 0 ≤ A i ∧ A i < 256) ∧ ln ≤ 140737488355328 := by
  obtain ⟨a0, len, cap, rfl⟩ := okWide_slice under_steps hval
  obtain ⟨fuel, hf⟩ := h0
  obtain ⟨la, ln, lc, F, hs, l, nn⟩ := open_rows (V := st3V) under_steps cells_step (by omega) (fun _ _ _ h => step_read h) hf hlt
  simp [Value.cells] at hs
  obtain ⟨rfl, rfl, rfl⟩ := hs
  refine ⟨_, _, _, fun i => (F i).1.1, fun i => (F i).1.2.1, fun i => (F i).1.2.2, rfl, l, fun i _ => (F i).2, ?_⟩
  rcases nn with rfl | ⟨el, rest, he, hl⟩
  · omega
  · cases d with
    | slice el' rest' =>
      have h1 := sized_slice hsz ht hd under_steps
      rw [bytes_step] at h1
      simp only [reachBytes] at h1
      simp only [DataW.slice.injEq] at he
      obtain ⟨rfl, rfl⟩ := he
      omega
    | _ => cases he
end DLaw
end Go.Proofs.Ytlhncceajpdahaa
