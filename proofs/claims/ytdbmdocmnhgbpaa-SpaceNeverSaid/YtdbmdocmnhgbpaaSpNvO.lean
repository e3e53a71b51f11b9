/- SpaceNever: for bytes as they come in. -/
import Derived.Test.YtdbmdocmnhgbpaaSpNever
import Derived.Test.YtdbmdocmnhgbpaaJLp
namespace Go.Proofs.Ytdbmdocmnhgbpaa
set_option maxRecDepth 20000
namespace Sp
open Go.RowKit Dk Eqb Byt

theorem tab_list (xs : List Int) : tab xs.length (fun i => xs.getD i 0) = xs := by
  refine List.ext_getElem (by simp [tab]) fun i h1 h2 => ?_
  simp [tab, h2]
theorem never_bytes (n : Nat) (ao : Option Addr) (cap : Nat) (xs : List Int) (W : World) (hn : n = xs.length) (hl : Lies W W.heap.size ao cap xs) (hx : Byte xs) (hlen : n ≤ 140737488351232) :
    Calls Try.prog 8 #[.slice ao n cap] W fun e W' => e = .returned (.bool true) ∧ Below W.heap.size W W' := by
  subst hn
  refine never7_any ao xs.length cap (fun i => xs.getD i 0) W ⟨by rw [tab_list]; exact hl, fun i hi => ?_, by omega⟩
  have h1 : xs.getD i 0 ∈ xs := by
    rw [List.getD_eq_getElem?_getD, List.getElem?_eq_getElem hi]
    exact List.getElem_mem _
  exact hx _ h1
end Sp
end Go.Proofs.Ytdbmdocmnhgbpaa
