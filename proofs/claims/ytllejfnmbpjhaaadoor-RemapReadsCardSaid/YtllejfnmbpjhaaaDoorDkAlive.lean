/- disk: the fixed fact. -/
import Derived.Test.YtllejfnmbpjhaaaDoorDkNew
import Derived.Test.YtllejfnmbpjhaaaDoorDkRead
namespace Go.Proofs.YtllejfnmbpjhaaaDoor
set_option maxRecDepth 20000
namespace Dk
open Go.RowKit

attribute [local go_sem] zv29
def five (j : Nat) : Int := if j = 0 then 5 else 0
theorem built_five : Tryd.prog.built 22 [(0, .int .u8 5)] = some (bl five).toArray := by kernel_rfl
theorem new_has {w w' : World} {b : Nat} {k : Nat} {f : Int} {d : Bool} (hk : k * 130 ≤ 140737488355328) (h : Lay w w.heap.size w.heap.size (some ⟨b, 0, none⟩) k k 130 (fun _ => secV sec0)) (hw : w' = w.alloc (.cells #[.slice (some ⟨b, 0, none⟩) k k, .slice none 0 0, .int .i64 f, .bool d] 35)) :
    Has w' w.heap.size (some ⟨b, 0, none⟩) none k k 0 0 (fun _ => sec0) (fun _ => wr0) f d := by
  subst hw
  exact ⟨heap_alloc_new _ _, (h.keep fun b hb _ => Below.heap_alloc _ _ _ hb).more (by simp), Lay.empty _ _ _ 0 _ _, hk, by omega⟩

theorem set_five : ((bl fun _ => 0).set 0 (.int .u8 5)) = bl five := by kernel_rfl
abbrev S0 : Nat → Sec := fun _ => sec0
abbrev C0 : Nat → Wr := fun _ => wr0
abbrev C1 : Nat → Wr := updC C0 0 ⟨1, five⟩
abbrev K1 : Nat → Bool := keepB 1 fun _ => true
abbrev S1 : Nat → Sec := stS S0 C1 K1 1
theorem a_write {w w' : World} {g : Nat} {e : Ending} (h : Writes w g 2 0 S0 C0 (-1) false 1 five e w') : Turns w g 0 2 1 S0 C1 (-1) false e w' := h
theorem a_crash {w w' : World} {g : Nat} {e : Ending} (h : Turns w g (crE 2 1 C1) 2 (crM 2 1 C1) (crS 2 1 S0 C1 K1) C1 (crF 2 1 C1 (-1)) (crD 2 1 C1 false) e w') : Turns w g 0 2 0 S1 C1 (-1) false e w' := h
theorem a_read {w w' : World} {e : Ending} (h : Reads w 2 0 S1 C1 false 1 e w') : e = .returned (.tuple #[.agg (bl five).toArray, .int .i64 0]) ∧ Below w.heap.size w w' := h
theorem a_formed : formedB 2 0 C1 = true := rfl

end Dk
end Go.Proofs.YtllejfnmbpjhaaaDoor
