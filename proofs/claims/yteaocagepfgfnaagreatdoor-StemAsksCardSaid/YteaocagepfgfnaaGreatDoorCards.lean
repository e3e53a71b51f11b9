/-
  DERIVED. GIVEN WITH THE SEED: THE CARDS: each row of YteaocagepfgfnaaGreatDoorRows.lean that lists a variable, with what it lists TIED to the program's text (the seventh form; the later family's looks); each row that meets fmt, with fmt's text TOLD by the authors' own Lean function (tested against real Go, not proved from fmt's source: count such statements apart). THE CARD IS WHAT COUNTS. Prove the row's statement (the work); the ties are given (YteaocagepfgfnaaGreatDoorTie.lean); close each card by the builder's one call (the guide's Derived/Test/ToyasCard.lean, 'card_holds'). Laid BY PROGRAM, IN A SANDBOX (cutbox-door.mjs). By AI agents, Wed Nov 11 2026. No macro, syntax, notation, axiom, sorry.
-/
import Derived.Test.YteaocagepfgfnaaGreatDoorRows
import GoSem.ClaimSeven
namespace Go.Proofs.YteaocagepfgfnaaGreatDoor
namespace Rows

/-- THE TIED CARD OF 'lazaretlaw10.StemAsks'. -/
def stemAsksCard : Claim7 := { stood := { row := stemAsksRow, standIns := [], harness := (true, "1a6a6844e83d6402f532f96fa4b9bb5aa025ff3d05f2839d744ffb20f0e4d45c"), looks := false }, kinds := [], alts := [], laidByText := true, laidKinds := [.data], laidTests := true, laidLooks := .later }
def StemAsksCardSaid : Prop := Claim7.holds Tryz.pinned (.plain (OpenSpec.ofChange stemAsksSpec)) stemAsksCard

/-- THE TIED CARD OF 'lazaretlaw10.StemRefuses'. -/
def stemRefusesCard : Claim7 := { stood := { row := stemRefusesRow, standIns := [], harness := (true, "1a6a6844e83d6402f532f96fa4b9bb5aa025ff3d05f2839d744ffb20f0e4d45c"), looks := false }, kinds := [], alts := [], laidByText := true, laidKinds := [.data], laidTests := true, laidLooks := .later }
def StemRefusesCardSaid : Prop := Claim7.holds Tryz.pinned (.plain (OpenSpec.ofChange stemRefusesSpec)) stemRefusesCard

/-- THE SECOND FORM's CARD OF 'lazaretlaw10.StemAsks'. -/
def stemAsksUptoCard : Claim7 := { stood := { row := stemAsksUptoRow, standIns := [], harness := (true, "1a6a6844e83d6402f532f96fa4b9bb5aa025ff3d05f2839d744ffb20f0e4d45c"), looks := false }, kinds := [], alts := [], laidByText := true, laidKinds := [.data], laidTests := true, laidLooks := .later }
def StemAsksUptoCardSaid : Prop := Claim7.holds Tryz.pinned (.plain (OpenSpec.upto stemAsksSpec)) stemAsksUptoCard

/-- THE SECOND FORM's CARD OF 'lazaretlaw10.StemRefuses'. -/
def stemRefusesUptoCard : Claim7 := { stood := { row := stemRefusesUptoRow, standIns := [], harness := (true, "1a6a6844e83d6402f532f96fa4b9bb5aa025ff3d05f2839d744ffb20f0e4d45c"), looks := false }, kinds := [], alts := [], laidByText := true, laidKinds := [.data], laidTests := true, laidLooks := .later }
def StemRefusesUptoCardSaid : Prop := Claim7.holds Tryz.pinned (.plain (OpenSpec.upto stemRefusesSpec)) stemRefusesUptoCard
end Rows
end Go.Proofs.YteaocagepfgfnaaGreatDoor
