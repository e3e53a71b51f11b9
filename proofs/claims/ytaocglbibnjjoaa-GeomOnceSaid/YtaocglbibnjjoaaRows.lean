/-
  No cell of these rows narrows 'for every input' (looked for: loops, veiled, ifaces, maps, wideKeys, modest, calm, conditions, laid).
  DERIVED. THE GIVEN ROWS OF THIS SEAT. 4 by the template 'for every input the law returns true; each argument reads behind the call as it read before'; 0 by the template 'total and deterministic' (their statements: YtaocglbibnjjoaaTotals.lean).
  GIVEN WITH THE SEED: the statements are not yours to turn. If you find one false, say at which input.
  Laid BY PROGRAM, IN A SANDBOX (cutbox-rows.mjs): the forced cells as the released guide's own fill.sh prints them over the translation 5c2eb3b36426dfae… (all of the seat's roots in one cut). By AI agents, Wed Nov 11 2026. No macro, syntax, notation, axiom, sorry.
-/
import Derived.Test.YtaocglbibnjjoaaChecked
import GoSem.Claim
import GoSem.ClaimJoined
import GoSem.ClaimMapViews
import Derived.JoinedTies
import Derived.KernelRfl
namespace Go.Proofs.Ytaocglbibnjjoaa
/- THE CELL 'sum', in the pinned program and in every row, IS THE sha256 OF THE DUMP (.gsa) THAT YtaocglbibnjjoaaProg.lean LOADS. Nothing in Lean hashes anything: it is a label: what it is worth is what the hold of that sum in a sandbox is worth. -/
noncomputable def Try.pinned : Pinned := { name := "ytaocglbibnjjoaa", sum := "5c2eb3b36426dfae0fb6971b8169c367316846ca646bac31fff1f2cb2de728c6", checked := Try.checked }
namespace Rows
def none {H : Type} : Left H := { results := [], args := [] }

/-- 'lazaretlaw08.GeomMakes': WHATEVER THE INPUT: true; the input reads as it did. -/
def geomMakesSpec : ChangeSpec := { name := "geomMakes", fn := fun _ => fun
  | [d1, d2] => { results := [.lit (.bool true)], args := [d1, d2] }
  | _ => none }
def geomMakesRow : OpenClaim := { program := "ytaocglbibnjjoaa", sum := "5c2eb3b36426dfae0fb6971b8169c367316846ca646bac31fff1f2cb2de728c6", func := "lazaret/lazaretlaw08.GeomMakes", spec := "geomMakes", apart := false }
def GeomMakesSaid : Prop := geomMakesRow.holds Try.pinned (OpenSpec.ofChange geomMakesSpec)

/-- ITS FALSE NEIGHBOUR: 'it returns false'. Refute it at one input. -/
def geomMakesWrong : ChangeSpec := { name := "geomMakes", fn := fun _ => fun
  | [d1, d2] => { results := [.lit (.bool false)], args := [d1, d2] }
  | _ => none }
def GeomMakesWrongFalsely : Prop := geomMakesRow.holds Try.pinned (OpenSpec.ofChange geomMakesWrong)

/-- 'lazaretlaw08.GeomAsks': WHATEVER THE INPUT: true; the input reads as it did. -/
def geomAsksSpec : ChangeSpec := { name := "geomAsks", fn := fun _ => fun
  | [d1, d2] => { results := [.lit (.bool true)], args := [d1, d2] }
  | _ => none }
def geomAsksRow : OpenClaim := { program := "ytaocglbibnjjoaa", sum := "5c2eb3b36426dfae0fb6971b8169c367316846ca646bac31fff1f2cb2de728c6", func := "lazaret/lazaretlaw08.GeomAsks", spec := "geomAsks", apart := false }
def GeomAsksSaid : Prop := geomAsksRow.holds Try.pinned (OpenSpec.ofChange geomAsksSpec)

/-- ITS FALSE NEIGHBOUR: 'it returns false'. Refute it at one input. -/
def geomAsksWrong : ChangeSpec := { name := "geomAsks", fn := fun _ => fun
  | [d1, d2] => { results := [.lit (.bool false)], args := [d1, d2] }
  | _ => none }
def GeomAsksWrongFalsely : Prop := geomAsksRow.holds Try.pinned (OpenSpec.ofChange geomAsksWrong)

/-- 'lazaretlaw08.GeomPlaces': WHATEVER THE INPUT: true; the input reads as it did. -/
def geomPlacesSpec : ChangeSpec := { name := "geomPlaces", fn := fun _ => fun
  | [d1, d2] => { results := [.lit (.bool true)], args := [d1, d2] }
  | _ => none }
def geomPlacesRow : OpenClaim := { program := "ytaocglbibnjjoaa", sum := "5c2eb3b36426dfae0fb6971b8169c367316846ca646bac31fff1f2cb2de728c6", func := "lazaret/lazaretlaw08.GeomPlaces", spec := "geomPlaces", apart := false }
def GeomPlacesSaid : Prop := geomPlacesRow.holds Try.pinned (OpenSpec.ofChange geomPlacesSpec)

/-- ITS FALSE NEIGHBOUR: 'it returns false'. Refute it at one input. -/
def geomPlacesWrong : ChangeSpec := { name := "geomPlaces", fn := fun _ => fun
  | [d1, d2] => { results := [.lit (.bool false)], args := [d1, d2] }
  | _ => none }
def GeomPlacesWrongFalsely : Prop := geomPlacesRow.holds Try.pinned (OpenSpec.ofChange geomPlacesWrong)

/-- 'lazaretlaw08.GeomOnce': WHATEVER THE INPUT: true; the input reads as it did. -/
def geomOnceSpec : ChangeSpec := { name := "geomOnce", fn := fun _ => fun
  | [d1, d2, d3] => { results := [.lit (.bool true)], args := [d1, d2, d3] }
  | _ => none }
def geomOnceRow : OpenClaim := { program := "ytaocglbibnjjoaa", sum := "5c2eb3b36426dfae0fb6971b8169c367316846ca646bac31fff1f2cb2de728c6", func := "lazaret/lazaretlaw08.GeomOnce", spec := "geomOnce", apart := false }
def GeomOnceSaid : Prop := geomOnceRow.holds Try.pinned (OpenSpec.ofChange geomOnceSpec)

/-- ITS FALSE NEIGHBOUR: 'it returns false'. Refute it at one input. -/
def geomOnceWrong : ChangeSpec := { name := "geomOnce", fn := fun _ => fun
  | [d1, d2, d3] => { results := [.lit (.bool false)], args := [d1, d2, d3] }
  | _ => none }
def GeomOnceWrongFalsely : Prop := geomOnceRow.holds Try.pinned (OpenSpec.ofChange geomOnceWrong)

/- THE SECOND FORM. 'bulk': how many values and letters a reading holds, each counted each time it is reached (what is shared counts as often as it is met; a slice's spare places count too). A statement '..UptoSaid' is the law's where the arguments, and the package variables that the reading takes, are together of bulk at most 1048576: NARROWER than '..Said'. Prove '..Said' where nothing that the law and all that it calls make is longer than what came in: it says more and counts as full. Else prove '..UptoSaid'. A law counts once. -/
mutual
def uptoBulk {H : Type} : DataW H → Nat
  | .lit (.string bytes) => bytes.length + 1
  | .lit _ => 1
  | .nil => 1
  | .ptr d => uptoBulk d + 1
  | .slice elems spare => uptoBulkAll elems + uptoBulkAll spare + 1
  | .agg parts => uptoBulkAll parts + 1
  | .iface _ d => uptoBulk d + 1
  | .map entries => uptoBulkEntries entries + 1
  | .held _ => 1
def uptoBulkAll {H : Type} : List (DataW H) → Nat
  | [] => 0
  | d :: r => uptoBulk d + uptoBulkAll r
def uptoBulkEntries {H : Type} : List (Lit × DataW H) → Nat
  | [] => 0
  | x :: r => uptoBulkEntry x + uptoBulkEntries r
def uptoBulkEntry {H : Type} : Lit × DataW H → Nat
  | (.string bytes, d) => bytes.length + uptoBulk d + 1
  | (_, d) => uptoBulk d + 1
 end
def uptoSmall : (H : Type) → List (DataW H) → Bool := fun _ ds => decide (uptoBulkAll ds ≤ 1048576)
def OpenSpec.upto (s : _root_.Go.ChangeSpec) : _root_.Go.OpenSpec := { _root_.Go.OpenSpec.ofChange s with cond := some uptoSmall }

/-- 'lazaretlaw08.GeomMakes', WHERE WHAT IT READS IS OF BULK AT MOST 1048576: true; the input reads as it did. -/
def geomMakesUptoRow : OpenClaim := { program := "ytaocglbibnjjoaa", sum := "5c2eb3b36426dfae0fb6971b8169c367316846ca646bac31fff1f2cb2de728c6", func := "lazaret/lazaretlaw08.GeomMakes", spec := "geomMakes", apart := false, narrowed := true }
def GeomMakesUptoSaid : Prop := geomMakesUptoRow.holds Try.pinned (OpenSpec.upto geomMakesSpec)

/-- 'lazaretlaw08.GeomAsks', WHERE WHAT IT READS IS OF BULK AT MOST 1048576: true; the input reads as it did. -/
def geomAsksUptoRow : OpenClaim := { program := "ytaocglbibnjjoaa", sum := "5c2eb3b36426dfae0fb6971b8169c367316846ca646bac31fff1f2cb2de728c6", func := "lazaret/lazaretlaw08.GeomAsks", spec := "geomAsks", apart := false, narrowed := true }
def GeomAsksUptoSaid : Prop := geomAsksUptoRow.holds Try.pinned (OpenSpec.upto geomAsksSpec)

/-- 'lazaretlaw08.GeomPlaces', WHERE WHAT IT READS IS OF BULK AT MOST 1048576: true; the input reads as it did. -/
def geomPlacesUptoRow : OpenClaim := { program := "ytaocglbibnjjoaa", sum := "5c2eb3b36426dfae0fb6971b8169c367316846ca646bac31fff1f2cb2de728c6", func := "lazaret/lazaretlaw08.GeomPlaces", spec := "geomPlaces", apart := false, narrowed := true }
def GeomPlacesUptoSaid : Prop := geomPlacesUptoRow.holds Try.pinned (OpenSpec.upto geomPlacesSpec)

/-- 'lazaretlaw08.GeomOnce', WHERE WHAT IT READS IS OF BULK AT MOST 1048576: true; the input reads as it did. -/
def geomOnceUptoRow : OpenClaim := { program := "ytaocglbibnjjoaa", sum := "5c2eb3b36426dfae0fb6971b8169c367316846ca646bac31fff1f2cb2de728c6", func := "lazaret/lazaretlaw08.GeomOnce", spec := "geomOnce", apart := false, narrowed := true }
def GeomOnceUptoSaid : Prop := geomOnceUptoRow.holds Try.pinned (OpenSpec.upto geomOnceSpec)

end Rows
end Go.Proofs.Ytaocglbibnjjoaa
