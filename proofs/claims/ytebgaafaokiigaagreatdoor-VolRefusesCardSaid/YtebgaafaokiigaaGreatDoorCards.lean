/-
  DERIVED. GIVEN WITH THE SEED: THE CARDS: each row of YtebgaafaokiigaaGreatDoorRows.lean that lists a variable, with what it lists TIED to the program's text (the seventh form; the later family's looks); each row that meets fmt, with fmt's text TOLD by the authors' own Lean function (tested against real Go, not proved from fmt's source: count such statements apart). THE CARD IS WHAT COUNTS. Prove the row's statement (the work); the ties are given (YtebgaafaokiigaaGreatDoorTie.lean); close each card by the builder's one call (the guide's Derived/Test/ToyasCard.lean, 'card_holds'). Laid BY PROGRAM, IN A SANDBOX (cutbox-door.mjs). By AI agents, Wed Nov 11 2026. No macro, syntax, notation, axiom, sorry.
-/
import Derived.Test.YtebgaafaokiigaaGreatDoorRows
import GoSem.ClaimSeven
namespace Go.Proofs.YtebgaafaokiigaaGreatDoor
namespace Rows

/-- THE TIED CARD OF 'lazaretlaw09.VolAsks'. -/
def volAsksCard : Claim7 := { stood := { row := volAsksRow, standIns := [], harness := (true, "dc4d34e0a1cab955c7464e04172b65f622c1e5209f4545efdd4a6a5b006ff7db"), looks := false }, kinds := [], alts := [], laidByText := true, laidKinds := [.data], laidTests := true, laidLooks := .later }
def VolAsksCardSaid : Prop := Claim7.holds Tryz.pinned (.plain (OpenSpec.ofChange volAsksSpec)) volAsksCard

/-- THE TIED CARD OF 'lazaretlaw09.VolRefuses'. -/
def volRefusesCard : Claim7 := { stood := { row := volRefusesRow, standIns := [], harness := (true, "dc4d34e0a1cab955c7464e04172b65f622c1e5209f4545efdd4a6a5b006ff7db"), looks := false }, kinds := [], alts := [], laidByText := true, laidKinds := [.data], laidTests := true, laidLooks := .later }
def VolRefusesCardSaid : Prop := Claim7.holds Tryz.pinned (.plain (OpenSpec.ofChange volRefusesSpec)) volRefusesCard

/-- THE TIED CARD OF 'lazaretlaw09.VolPlays'. -/
def volPlaysCard : Claim7 := { stood := { row := volPlaysRow, standIns := [], harness := (true, "dc4d34e0a1cab955c7464e04172b65f622c1e5209f4545efdd4a6a5b006ff7db"), looks := false }, kinds := [], alts := [], laidByText := true, laidKinds := [.data], laidTests := true, laidLooks := .later }
def VolPlaysCardSaid : Prop := Claim7.holds Tryz.pinned (.plain (OpenSpec.ofChange volPlaysSpec)) volPlaysCard

/-- THE TIED CARD OF 'lazaretlaw09.VolFull'. -/
def volFullCard : Claim7 := { stood := { row := volFullRow, standIns := [], harness := (true, "dc4d34e0a1cab955c7464e04172b65f622c1e5209f4545efdd4a6a5b006ff7db"), looks := false }, kinds := [], alts := [], laidByText := true, laidKinds := [.data], laidTests := true, laidLooks := .later }
def VolFullCardSaid : Prop := Claim7.holds Tryz.pinned (.plain (OpenSpec.ofChange volFullSpec)) volFullCard

/-- THE TIED CARD OF 'lazaretlaw09.VolHeals'. -/
def volHealsCard : Claim7 := { stood := { row := volHealsRow, standIns := [], harness := (true, "dc4d34e0a1cab955c7464e04172b65f622c1e5209f4545efdd4a6a5b006ff7db"), looks := false }, kinds := [], alts := [], laidByText := true, laidKinds := [.data], laidTests := true, laidLooks := .later }
def VolHealsCardSaid : Prop := Claim7.holds Tryz.pinned (.plain (OpenSpec.ofChange volHealsSpec)) volHealsCard

/-- THE SECOND FORM's CARD OF 'lazaretlaw09.VolAsks'. -/
def volAsksUptoCard : Claim7 := { stood := { row := volAsksUptoRow, standIns := [], harness := (true, "dc4d34e0a1cab955c7464e04172b65f622c1e5209f4545efdd4a6a5b006ff7db"), looks := false }, kinds := [], alts := [], laidByText := true, laidKinds := [.data], laidTests := true, laidLooks := .later }
def VolAsksUptoCardSaid : Prop := Claim7.holds Tryz.pinned (.plain (OpenSpec.upto volAsksSpec)) volAsksUptoCard

/-- THE SECOND FORM's CARD OF 'lazaretlaw09.VolRefuses'. -/
def volRefusesUptoCard : Claim7 := { stood := { row := volRefusesUptoRow, standIns := [], harness := (true, "dc4d34e0a1cab955c7464e04172b65f622c1e5209f4545efdd4a6a5b006ff7db"), looks := false }, kinds := [], alts := [], laidByText := true, laidKinds := [.data], laidTests := true, laidLooks := .later }
def VolRefusesUptoCardSaid : Prop := Claim7.holds Tryz.pinned (.plain (OpenSpec.upto volRefusesSpec)) volRefusesUptoCard

/-- THE SECOND FORM's CARD OF 'lazaretlaw09.VolPlays'. -/
def volPlaysUptoCard : Claim7 := { stood := { row := volPlaysUptoRow, standIns := [], harness := (true, "dc4d34e0a1cab955c7464e04172b65f622c1e5209f4545efdd4a6a5b006ff7db"), looks := false }, kinds := [], alts := [], laidByText := true, laidKinds := [.data], laidTests := true, laidLooks := .later }
def VolPlaysUptoCardSaid : Prop := Claim7.holds Tryz.pinned (.plain (OpenSpec.upto volPlaysSpec)) volPlaysUptoCard

/-- THE SECOND FORM's CARD OF 'lazaretlaw09.VolFull'. -/
def volFullUptoCard : Claim7 := { stood := { row := volFullUptoRow, standIns := [], harness := (true, "dc4d34e0a1cab955c7464e04172b65f622c1e5209f4545efdd4a6a5b006ff7db"), looks := false }, kinds := [], alts := [], laidByText := true, laidKinds := [.data], laidTests := true, laidLooks := .later }
def VolFullUptoCardSaid : Prop := Claim7.holds Tryz.pinned (.plain (OpenSpec.upto volFullSpec)) volFullUptoCard

/-- THE SECOND FORM's CARD OF 'lazaretlaw09.VolHeals'. -/
def volHealsUptoCard : Claim7 := { stood := { row := volHealsUptoRow, standIns := [], harness := (true, "dc4d34e0a1cab955c7464e04172b65f622c1e5209f4545efdd4a6a5b006ff7db"), looks := false }, kinds := [], alts := [], laidByText := true, laidKinds := [.data], laidTests := true, laidLooks := .later }
def VolHealsUptoCardSaid : Prop := Claim7.holds Tryz.pinned (.plain (OpenSpec.upto volHealsSpec)) volHealsUptoCard
end Rows
end Go.Proofs.YtebgaafaokiigaaGreatDoor
