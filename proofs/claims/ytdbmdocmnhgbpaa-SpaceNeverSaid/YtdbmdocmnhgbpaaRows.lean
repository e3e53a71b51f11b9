/-
  No cell of these rows narrows 'for every input' (looked for: loops, veiled, ifaces, maps, wideKeys, modest, calm, conditions, laid).
  DERIVED. THE GIVEN ROWS OF THIS SEAT. 6 by the template 'for every input the law returns true; each argument reads behind the call as it read before'; 0 by the template 'total and deterministic' (their statements: YtdbmdocmnhgbpaaTotals.lean).
  GIVEN WITH THE SEED: the statements are not yours to turn. If you find one false, say at which input.
  Laid BY PROGRAM, IN A SANDBOX (cutbox-rows.mjs): the forced cells as the released guide's own fill.sh prints them over the translation 2e96fc36eb40953e… (all of the seat's roots in one cut). By AI agents, Wed Nov 11 2026. No macro, syntax, notation, axiom, sorry.
-/
import Derived.Test.YtdbmdocmnhgbpaaChecked
import GoSem.Claim
import GoSem.ClaimJoined
import GoSem.ClaimMapViews
import Derived.JoinedTies
import Derived.KernelRfl
namespace Go.Proofs.Ytdbmdocmnhgbpaa
/- THE CELL 'sum', in the pinned program and in every row, IS THE sha256 OF THE DUMP (.gsa) THAT YtdbmdocmnhgbpaaProg.lean LOADS. Nothing in Lean hashes anything: it is a label: what it is worth is what the hold of that sum in a sandbox is worth. -/
noncomputable def Try.pinned : Pinned := { name := "ytdbmdocmnhgbpaa", sum := "2e96fc36eb40953e71ded318fde536f10605d913151bccc195dd8eb4157da641", checked := Try.checked }
namespace Rows
def none {H : Type} : Left H := { results := [], args := [] }

/-- 'lazaretlaw07.SpaceMakes': WHATEVER THE INPUT: true; the input reads as it did. -/
def spaceMakesSpec : ChangeSpec := { name := "spaceMakes", fn := fun _ => fun
  | [d1, d2, d3] => { results := [.lit (.bool true)], args := [d1, d2, d3] }
  | _ => none }
def spaceMakesRow : OpenClaim := { program := "ytdbmdocmnhgbpaa", sum := "2e96fc36eb40953e71ded318fde536f10605d913151bccc195dd8eb4157da641", func := "lazaret/lazaretlaw07.SpaceMakes", spec := "spaceMakes", apart := false }
def SpaceMakesSaid : Prop := spaceMakesRow.holds Try.pinned (OpenSpec.ofChange spaceMakesSpec)

/-- ITS FALSE NEIGHBOUR: 'it returns false'. Refute it at one input. -/
def spaceMakesWrong : ChangeSpec := { name := "spaceMakes", fn := fun _ => fun
  | [d1, d2, d3] => { results := [.lit (.bool false)], args := [d1, d2, d3] }
  | _ => none }
def SpaceMakesWrongFalsely : Prop := spaceMakesRow.holds Try.pinned (OpenSpec.ofChange spaceMakesWrong)

/-- 'lazaretlaw07.SpaceAsks': WHATEVER THE INPUT: true; the input reads as it did. -/
def spaceAsksSpec : ChangeSpec := { name := "spaceAsks", fn := fun _ => fun
  | [d1, d2] => { results := [.lit (.bool true)], args := [d1, d2] }
  | _ => none }
def spaceAsksRow : OpenClaim := { program := "ytdbmdocmnhgbpaa", sum := "2e96fc36eb40953e71ded318fde536f10605d913151bccc195dd8eb4157da641", func := "lazaret/lazaretlaw07.SpaceAsks", spec := "spaceAsks", apart := false }
def SpaceAsksSaid : Prop := spaceAsksRow.holds Try.pinned (OpenSpec.ofChange spaceAsksSpec)

/-- ITS FALSE NEIGHBOUR: 'it returns false'. Refute it at one input. -/
def spaceAsksWrong : ChangeSpec := { name := "spaceAsks", fn := fun _ => fun
  | [d1, d2] => { results := [.lit (.bool false)], args := [d1, d2] }
  | _ => none }
def SpaceAsksWrongFalsely : Prop := spaceAsksRow.holds Try.pinned (OpenSpec.ofChange spaceAsksWrong)

/-- 'lazaretlaw07.SpaceTakes': WHATEVER THE INPUT: true; the input reads as it did. -/
def spaceTakesSpec : ChangeSpec := { name := "spaceTakes", fn := fun _ => fun
  | [d1, d2] => { results := [.lit (.bool true)], args := [d1, d2] }
  | _ => none }
def spaceTakesRow : OpenClaim := { program := "ytdbmdocmnhgbpaa", sum := "2e96fc36eb40953e71ded318fde536f10605d913151bccc195dd8eb4157da641", func := "lazaret/lazaretlaw07.SpaceTakes", spec := "spaceTakes", apart := false }
def SpaceTakesSaid : Prop := spaceTakesRow.holds Try.pinned (OpenSpec.ofChange spaceTakesSpec)

/-- ITS FALSE NEIGHBOUR: 'it returns false'. Refute it at one input. -/
def spaceTakesWrong : ChangeSpec := { name := "spaceTakes", fn := fun _ => fun
  | [d1, d2] => { results := [.lit (.bool false)], args := [d1, d2] }
  | _ => none }
def SpaceTakesWrongFalsely : Prop := spaceTakesRow.holds Try.pinned (OpenSpec.ofChange spaceTakesWrong)

/-- 'lazaretlaw07.SpaceDrops': WHATEVER THE INPUT: true; the input reads as it did. -/
def spaceDropsSpec : ChangeSpec := { name := "spaceDrops", fn := fun _ => fun
  | [d1, d2] => { results := [.lit (.bool true)], args := [d1, d2] }
  | _ => none }
def spaceDropsRow : OpenClaim := { program := "ytdbmdocmnhgbpaa", sum := "2e96fc36eb40953e71ded318fde536f10605d913151bccc195dd8eb4157da641", func := "lazaret/lazaretlaw07.SpaceDrops", spec := "spaceDrops", unfollowed := true, recurses := true, apart := false }
def SpaceDropsSaid : Prop := spaceDropsRow.holds Try.pinned (OpenSpec.ofChange spaceDropsSpec)

/-- ITS FALSE NEIGHBOUR: 'it returns false'. Refute it at one input. -/
def spaceDropsWrong : ChangeSpec := { name := "spaceDrops", fn := fun _ => fun
  | [d1, d2] => { results := [.lit (.bool false)], args := [d1, d2] }
  | _ => none }
def SpaceDropsWrongFalsely : Prop := spaceDropsRow.holds Try.pinned (OpenSpec.ofChange spaceDropsWrong)

/-- 'lazaretlaw07.SpaceSettles': WHATEVER THE INPUT: true; the input reads as it did. -/
def spaceSettlesSpec : ChangeSpec := { name := "spaceSettles", fn := fun _ => fun
  | [d] => { results := [.lit (.bool true)], args := [d] }
  | _ => none }
def spaceSettlesRow : OpenClaim := { program := "ytdbmdocmnhgbpaa", sum := "2e96fc36eb40953e71ded318fde536f10605d913151bccc195dd8eb4157da641", func := "lazaret/lazaretlaw07.SpaceSettles", spec := "spaceSettles", apart := false }
def SpaceSettlesSaid : Prop := spaceSettlesRow.holds Try.pinned (OpenSpec.ofChange spaceSettlesSpec)

/-- ITS FALSE NEIGHBOUR: 'it returns false'. Refute it at one input. -/
def spaceSettlesWrong : ChangeSpec := { name := "spaceSettles", fn := fun _ => fun
  | [d] => { results := [.lit (.bool false)], args := [d] }
  | _ => none }
def SpaceSettlesWrongFalsely : Prop := spaceSettlesRow.holds Try.pinned (OpenSpec.ofChange spaceSettlesWrong)

/-- 'lazaretlaw07.SpaceNever': WHATEVER THE INPUT: true; the input reads as it did. -/
def spaceNeverSpec : ChangeSpec := { name := "spaceNever", fn := fun _ => fun
  | [d] => { results := [.lit (.bool true)], args := [d] }
  | _ => none }
def spaceNeverRow : OpenClaim := { program := "ytdbmdocmnhgbpaa", sum := "2e96fc36eb40953e71ded318fde536f10605d913151bccc195dd8eb4157da641", func := "lazaret/lazaretlaw07.SpaceNever", spec := "spaceNever", unfollowed := true, recurses := true, apart := false }
def SpaceNeverSaid : Prop := spaceNeverRow.holds Try.pinned (OpenSpec.ofChange spaceNeverSpec)

/-- ITS FALSE NEIGHBOUR: 'it returns false'. Refute it at one input. -/
def spaceNeverWrong : ChangeSpec := { name := "spaceNever", fn := fun _ => fun
  | [d] => { results := [.lit (.bool false)], args := [d] }
  | _ => none }
def SpaceNeverWrongFalsely : Prop := spaceNeverRow.holds Try.pinned (OpenSpec.ofChange spaceNeverWrong)

/- THE SECOND FORM. 'bulk': how many values and letters a reading holds, each counted each time it is reached (what is shared counts as often as it is met; a slice's spare places count too). A statement '..UptoSaid' is the law's where the arguments, and the package variables that the reading takes, are together of bulk at most 1048576: NARROWER than '..Said'. Prove '..Said' where nothing that the law and all that it calls make is longer than what came in: it says more and counts as full. Else prove '..UptoSaid'. A law counts once. -/
mutual
def uptoBulk {H : Type} : DataW H → Nat
  | .lit (.string bytes) => bytes.length + 1
  | .lit _ => 1
  | .nil => 1
  | .ptr d => uptoBulk d + 1
  | .slice elems spare => uptoBulkAll elems + uptoBulkAll spare + 1
  | .agg parts => uptoBulkAll parts + 1
  | .iface _ d => uptoBulk d + 1
  | .map entries => uptoBulkEntries entries + 1
  | .held _ => 1
def uptoBulkAll {H : Type} : List (DataW H) → Nat
  | [] => 0
  | d :: r => uptoBulk d + uptoBulkAll r
def uptoBulkEntries {H : Type} : List (Lit × DataW H) → Nat
  | [] => 0
  | x :: r => uptoBulkEntry x + uptoBulkEntries r
def uptoBulkEntry {H : Type} : Lit × DataW H → Nat
  | (.string bytes, d) => bytes.length + uptoBulk d + 1
  | (_, d) => uptoBulk d + 1
 end
def uptoSmall : (H : Type) → List (DataW H) → Bool := fun _ ds => decide (uptoBulkAll ds ≤ 1048576)
def OpenSpec.upto (s : _root_.Go.ChangeSpec) : _root_.Go.OpenSpec := { _root_.Go.OpenSpec.ofChange s with cond := some uptoSmall }

/-- 'lazaretlaw07.SpaceMakes', WHERE WHAT IT READS IS OF BULK AT MOST 1048576: true; the input reads as it did. -/
def spaceMakesUptoRow : OpenClaim := { program := "ytdbmdocmnhgbpaa", sum := "2e96fc36eb40953e71ded318fde536f10605d913151bccc195dd8eb4157da641", func := "lazaret/lazaretlaw07.SpaceMakes", spec := "spaceMakes", apart := false, narrowed := true }
def SpaceMakesUptoSaid : Prop := spaceMakesUptoRow.holds Try.pinned (OpenSpec.upto spaceMakesSpec)

/-- 'lazaretlaw07.SpaceAsks', WHERE WHAT IT READS IS OF BULK AT MOST 1048576: true; the input reads as it did. -/
def spaceAsksUptoRow : OpenClaim := { program := "ytdbmdocmnhgbpaa", sum := "2e96fc36eb40953e71ded318fde536f10605d913151bccc195dd8eb4157da641", func := "lazaret/lazaretlaw07.SpaceAsks", spec := "spaceAsks", apart := false, narrowed := true }
def SpaceAsksUptoSaid : Prop := spaceAsksUptoRow.holds Try.pinned (OpenSpec.upto spaceAsksSpec)

/-- 'lazaretlaw07.SpaceTakes', WHERE WHAT IT READS IS OF BULK AT MOST 1048576: true; the input reads as it did. -/
def spaceTakesUptoRow : OpenClaim := { program := "ytdbmdocmnhgbpaa", sum := "2e96fc36eb40953e71ded318fde536f10605d913151bccc195dd8eb4157da641", func := "lazaret/lazaretlaw07.SpaceTakes", spec := "spaceTakes", apart := false, narrowed := true }
def SpaceTakesUptoSaid : Prop := spaceTakesUptoRow.holds Try.pinned (OpenSpec.upto spaceTakesSpec)

/-- 'lazaretlaw07.SpaceDrops', WHERE WHAT IT READS IS OF BULK AT MOST 1048576: true; the input reads as it did. -/
def spaceDropsUptoRow : OpenClaim := { program := "ytdbmdocmnhgbpaa", sum := "2e96fc36eb40953e71ded318fde536f10605d913151bccc195dd8eb4157da641", func := "lazaret/lazaretlaw07.SpaceDrops", spec := "spaceDrops", unfollowed := true, recurses := true, apart := false, narrowed := true }
def SpaceDropsUptoSaid : Prop := spaceDropsUptoRow.holds Try.pinned (OpenSpec.upto spaceDropsSpec)

/-- 'lazaretlaw07.SpaceSettles', WHERE WHAT IT READS IS OF BULK AT MOST 1048576: true; the input reads as it did. -/
def spaceSettlesUptoRow : OpenClaim := { program := "ytdbmdocmnhgbpaa", sum := "2e96fc36eb40953e71ded318fde536f10605d913151bccc195dd8eb4157da641", func := "lazaret/lazaretlaw07.SpaceSettles", spec := "spaceSettles", apart := false, narrowed := true }
def SpaceSettlesUptoSaid : Prop := spaceSettlesUptoRow.holds Try.pinned (OpenSpec.upto spaceSettlesSpec)

/-- 'lazaretlaw07.SpaceNever', WHERE WHAT IT READS IS OF BULK AT MOST 1048576: true; the input reads as it did. -/
def spaceNeverUptoRow : OpenClaim := { program := "ytdbmdocmnhgbpaa", sum := "2e96fc36eb40953e71ded318fde536f10605d913151bccc195dd8eb4157da641", func := "lazaret/lazaretlaw07.SpaceNever", spec := "spaceNever", unfollowed := true, recurses := true, apart := false, narrowed := true }
def SpaceNeverUptoSaid : Prop := spaceNeverUptoRow.holds Try.pinned (OpenSpec.upto spaceNeverSpec)

end Rows
end Go.Proofs.Ytdbmdocmnhgbpaa
