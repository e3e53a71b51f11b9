/- From a walk over any bytes to what a law's row asks, for a law of one argument, any bytes. -/
import Derived.Test.YtllejfnmbpjhaaaGreatDoorCards
import Derived.Test.YtllejfnmbpjhaaaGreatDoorTie
import Derived.Test.YtllejfnmbpjhaaaGreatDoorJSh
import Derived.WalkKit
import Derived.ProofKit
import Derived.OpenShut
import Derived.SizedLaws
import Derived.Deep.DeepHandedRow
import Derived.Lib.LaidTab
namespace Go.Proofs.YtllejfnmbpjhaaaGreatDoor
set_option maxRecDepth 20000
namespace Sha
open Go.ChangeShapes Go.WideShapes Go.ChangeAt Go.RowKit

theorem own : ownKnob Tryz.prog.godebug = none := by kernel_rfl
theorem gTab : Tryz.prog.globalNamed "lazaret/sha.stepNumbers" = some 0 := by kernel_rfl
theorem gTabType : (Tryz.prog.globals[0]?).map (·.type) = some 138 := by kernel_rfl
theorem under_tab : Tryz.prog.underlying 138 = some (.array 64 111) := by kernel_rfl
theorem under_u32 : Tryz.prog.underlying 111 = some (.int .u32) := by kernel_rfl
theorem under_u8 : Tryz.prog.underlying 5 = some (.int .u8) := by kernel_rfl
theorem under_bool : Tryz.prog.underlying 4 = some .bool := by kernel_rfl
theorem cells_u32 : Tryz.prog.cellsOf 111 = 1 := by kernel_rfl
theorem cells_u8 : Tryz.prog.cellsOf 5 = 1 := by kernel_rfl
theorem cells_tab : Tryz.prog.cellsOf 138 = 64 := by kernel_rfl
theorem bytes_u8 : Tryz.prog.bytesOf 5 = 1 := by kernel_rfl
theorem laid_out : laidOutB Tryz.prog = true := by kernel_rfl

/-- what a row's list gives -/
theorem table {W : World} (h : laidMetH Tryz.prog [("lazaret/sha.stepNumbers", Rows.laid_lazaret_sha_stepNumbers)] W) : ∀ k, k < 64 → W.cell? ⟨0, k, none⟩ = some (.int .u32 (kT k)) :=
  fun k hk => (Lib.tabIs_of_head (zs := kList) (rest := []) gTab gTabType under_tab under_u32 cells_u32 cells_tab h).cell gTab k hk

def Walks (f : FuncId) : Prop :=
  ∀ (n : Nat) (ao : Option Addr) (cap : Nat) (xs : List Int) (w : World), n = xs.length → Lies w w.heap.size ao cap xs → Byte xs → n ≤ 140737488351232 →
    (∀ k, k < 64 → w.cell? ⟨0, k, none⟩ = some (.int .u32 (kT k))) → 0 < w.heap.size →
    Calls Tryz.prog f #[.slice ao n cap] w fun e w' => e = .returned (.bool true) ∧ Below w.heap.size w w'

theorem bytes_contract {s : ChangeSpec} (hv : s.vars = []) (hs : ∀ (H : Type) (d : DataW H), s.fn H [d] = { results := [.lit (.bool true)], args := [d] }) {f : FuncId} {fn : Func} (hp : fn.params = #[97]) (hr : fn.resultTypes = #[4])
    (walk : Walks f) (H : Type) (enc : TypeId × Value → H) (W : World) (base : Nat) (args : Array Value) (ds gs : List (DataW H)) (before : List MemPlace) (ts2 : List TypeId)
    (hval : ∀ (j : Nat) t v, fn.params[j]? = some t → args[j]? = some v → Value.okWide Tryz.prog W .any base t v)
    (hW : DataW.Whole enc Tryz.prog fn.params.toList s.vars false W args.toList ds gs before)
    (hsz : (DataW.weightsEach Tryz.prog (fn.params.toList ++ ts2) (ds ++ gs)).all (· ≤ reachBytes) = true)
    (hK : ∀ k, k < 64 → W.cell? ⟨0, k, none⟩ = some (.int .u32 (kT k))) :
    Calls Tryz.prog f args W fun e W' => ∃ v, e = .returned v ∧ s.post enc Tryz.prog fn false true false false W args v W' := by
  have hW' := hW
  obtain ⟨p, q, hA0, hV, rfl, hfz, hnd⟩ := hW
  have hA : DataW.TrodAll enc Tryz.prog W 0 (fun _ => true) true fn.params.toList args.toList ds p := hA0
  rw [hp] at hA hval hsz
  obtain ⟨v0, vs0, d0, ds0, p0, q0, hargs, rfl, rfl, h0, r0⟩ := trodAll_cons hA
  obtain ⟨rfl, rfl, rfl⟩ := trodAll_nil r0
  obtain rfl : args = #[v0] := by cases args; simp_all
  rw [hv] at hV
  obtain ⟨rfl, rfl⟩ := trodVars_none hV
  obtain ⟨a0, len, cap, rfl⟩ := okWide_slice bytes_slice (hval 0 97 v0 rfl rfl)
  have h0k := h0
  obtain ⟨fuel, hf⟩ := h0
  clear hA0
  have hlt : ∀ x ∈ p0, x.block < W.heap.size := fun x hx => by simpa using hW'.lt x (by simpa using hx)
  have h64 : 0 < W.heap.size := World.block_lt_of_cell? W _ (hK 0 (by omega))
  have key : ∃ xs : List Int, len = xs.length ∧ Lies W W.heap.size a0 cap xs ∧ Byte xs ∧ len ≤ 140737488351232 := by
    rcases open_ints bytes_slice under_u8 cells_u8 hf with ⟨hcs, hx⟩ | ⟨a, len', cap', zs, hcs, _, hl, hm, hz, hx, hcell, hwz⟩
    · simp [Value.cells] at hcs
      obtain ⟨rfl, rfl, rfl⟩ := hcs
      exact ⟨[], rfl, lies_nil _ _, (fun x hx => by cases hx), by omega⟩
    · simp [Value.cells] at hcs
      obtain ⟨rfl, rfl, rfl⟩ := hcs
      simp only [Prod.mk.injEq] at hx
      obtain ⟨rfl, rfl⟩ := hx
      simp only [if_true] at hz
      have hreach : len ≤ 140737488351232 := by
        have := sized_slice hsz (j := 0) (t := 97) (e := 5) rfl rfl bytes_slice
        rw [bytes_u8] at this
        simp only [lits, List.length_map, List.length_take, List.length_drop, reachBytes] at this
        omega
      refine ⟨zs.take len, by simp; omega, ⟨by simp; omega, by simp, fun hne => ?_⟩, fun x hx => ?_, hreach⟩
      · have hpos : 0 < zs.length := by
          cases zs with
          | nil => simp at hne
          | cons _ _ => simp
        obtain ⟨b, off, spot⟩ := a
        have hspot : spot = none := by simpa [Addr.add] using World.cell?_spot (hcell 0 hpos)
        subst hspot
        refine ⟨b, off, rfl, hlt (.cell b off) (MemPlace.mem_row.2 ⟨0, hpos, by simp⟩), fun i hi => ?_⟩
        have hi' : i < len ∧ i < zs.length := by simp at hi; omega
        rw [← add_plain, hcell i hi'.2]
        simp [List.getD_eq_getElem?_getD, hi'.1]
      · have := hwz x (List.mem_of_mem_take hx)
        have h1 : IntKind.u8.min = 0 := rfl
        have h2 : IntKind.u8.max = 255 := rfl
        simp only [Lit.wf, Bool.and_eq_true, decide_eq_true_eq] at this
        omega
  obtain ⟨xs, hn, hl, hx, hlen⟩ := key
  refine (walk len a0 cap xs W hn hl hx hlen hK h64).mono fun e W' ⟨he, hb⟩ => ?_
  subst he
  refine ⟨_, rfl, _, _, _, [], p0 ++ [], [], hW', ?_, ?_, ?_, hb.frame _, fun h => by cases h⟩
  · rw [hr]
    simp only [List.append_nil]
    rw [hs]
    exact trodAll_cons_mk (shut_bool under_bool _) trodAll_mk0
  · rw [hp]
    simp only [List.append_nil]
    rw [hs]
    have h1 := Below.trod laid_out (by kernel_rfl) (of_decide_eq_true (by kernel_rfl)) h0k hb hlt
    exact by simpa using trodAll_cons_mk h1 trodAll_mk0
  · rw [hv]
    simp only [List.append_nil]
    rw [hs]
    rfl

/-- a world for the witness: the table holds its numbers -/
noncomputable def laidWorld (os : Os) : World :=
  { World.holding Tryz.prog os ⟨#[], #[], []⟩ with heap := (World.holding Tryz.prog os ⟨#[], #[], []⟩).heap.modify 0 fun
      | .cells _ t frozen => .cells (arr 64 (vu32 kT)) t frozen
      | o => o }

end Sha
end Go.Proofs.YtllejfnmbpjhaaaGreatDoor
