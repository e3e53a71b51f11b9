import Derived.Test.YtkmphpkobjhleaaDoorShaStep
namespace Go.Proofs.YtkmphpkobjhleaaDoor
namespace Sha
open Go.RowKit

/-- the constants of the steps -/
def kList : List Int := [1116352408, 1899447441, 3049323471, 3921009573, 961987163, 1508970993, 2453635748, 2870763221, 3624381080, 310598401, 607225278, 1426881987, 1925078388, 2162078206, 2614888103, 3248222580, 3835390401, 4022224774, 264347078, 604807628, 770255983, 1249150122, 1555081692, 1996064986, 2554220882, 2821834349, 2952996808, 3210313671, 3336571891, 3584528711, 113926993, 338241895, 666307205, 773529912, 1294757372, 1396182291, 1695183700, 1986661051, 2177026350, 2456956037, 2730485921, 2820302411, 3259730800, 3345764771, 3516065817, 3600352804, 4094571909, 275423344, 430227734, 506948616, 659060556, 883997877, 958139571, 1322822218, 1537002063, 1747873779, 1955562222, 2024104815, 2227730452, 2361852424, 2428436474, 2756734187, 3204031479, 3329325298]
def kT (i : Nat) : Int := kList.getD i 0

theorem wpList_build_to {P : Program} {ops : Array Oper} {rest : List Oper} {o : Oper} {a : Act} {w : World} {Q : Exit → Act → World → Prop} (hg : o.guard = none) (t : TypeId) (parts : Array (Nat × Operand)) (ho : o.op = .build t parts)
    (cs : Array Value) (hb : P.built t (parts.map fun (i, x) => (i, a.eval x)).toList = some cs) (h : wpList P ops Q rest (a.put o.dst (.agg cs)) w) : wpList P ops Q (o :: rest) a w :=
  wpList_build hg t parts ho (by rw [hb]; rfl) (by rw [hb]; exact h)

set_option maxRecDepth 100000 in
set_option maxHeartbeats 1000000 in
theorem roots_any (w : World) : Calls Tryd.prog 21 #[] w fun e w' => e = .returned (.agg (arr 64 (vu32 kT))) ∧ Below w.heap.size w w' := by
  go_enter Tryd.func21, Tryd.ntmps21
  repeat (first
    | (refine wpList_build_to rfl 38 _ rfl (arr 64 (vu32 kT)) (by kernel_rfl) ?_)
    | (refine wpList_store_row rfl 38 (.tmp 0) (.tmp 1) rfl w.heap.size (arr 64 (vu32 kT)) rfl rfl 38 _ (heap_alloc_new _ _) info64 (by rw [arr_size]; rfl) (arr_one _ _) ?_)
    | go_step)
  refine bodyPost_ret (results_cell_row rfl _ _ w.heap.size 38 (arr 64 (vu32 kT)) (0, 0) (.array 64 27) rfl (setRow_heap _ _ _ _ _ _ (heap_alloc_new _ _)) (by kernel_rfl) rfl info64) rfl ⟨rfl, below_setRow ((Below.refl _ _).alloc (Nat.le_refl _) _) (Nat.le_refl _) _⟩

end Sha
end Go.Proofs.YtkmphpkobjhleaaDoor
