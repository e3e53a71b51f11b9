/-
  DERIVED. GIVEN WITH THE SEED: THE CARDS: each row of YtknjmamhijlnaaaGreatDoorRows.lean that lists a variable, with what it lists TIED to the program's text (the seventh form; the later family's looks); each row that meets fmt, with fmt's text TOLD by the authors' own Lean function (tested against real Go, not proved from fmt's source: count such statements apart). THE CARD IS WHAT COUNTS. Prove the row's statement (the work); the ties are given (YtknjmamhijlnaaaGreatDoorTie.lean); close each card by the builder's one call (the guide's Derived/Test/ToyasCard.lean, 'card_holds'). Laid BY PROGRAM, IN A SANDBOX (cutbox-door.mjs). By AI agents, Wed Nov 11 2026. No macro, syntax, notation, axiom, sorry.
-/
import Derived.Test.YtknjmamhijlnaaaGreatDoorRows
import GoSem.ClaimSeven
namespace Go.Proofs.YtknjmamhijlnaaaGreatDoor
namespace Rows

/-- THE TIED CARD OF 'lazaretlaw09.VolHeals'. -/
def volHealsCard : Claim7 := { stood := { row := volHealsRow, standIns := [], harness := (true, "ba0660d1babe2e3e0ddf1df22ce4cf6c513910919f142eb0fba515cce56f30b9"), looks := false }, kinds := [], alts := [], laidByText := true, laidKinds := [.data], laidTests := true, laidLooks := .later }
def VolHealsCardSaid : Prop := Claim7.holds Tryz.pinned (.plain (OpenSpec.ofChange volHealsSpec)) volHealsCard

/-- THE TIED CARD OF 'lazaretlaw10.StemAsks'. -/
def stemAsksCard : Claim7 := { stood := { row := stemAsksRow, standIns := [], harness := (true, "ba0660d1babe2e3e0ddf1df22ce4cf6c513910919f142eb0fba515cce56f30b9"), looks := false }, kinds := [], alts := [], laidByText := true, laidKinds := [.data], laidTests := true, laidLooks := .later }
def StemAsksCardSaid : Prop := Claim7.holds Tryz.pinned (.plain (OpenSpec.ofChange stemAsksSpec)) stemAsksCard

/-- THE TIED CARD OF 'lazaretlaw10.StemRefuses'. -/
def stemRefusesCard : Claim7 := { stood := { row := stemRefusesRow, standIns := [], harness := (true, "ba0660d1babe2e3e0ddf1df22ce4cf6c513910919f142eb0fba515cce56f30b9"), looks := false }, kinds := [], alts := [], laidByText := true, laidKinds := [.data], laidTests := true, laidLooks := .later }
def StemRefusesCardSaid : Prop := Claim7.holds Tryz.pinned (.plain (OpenSpec.ofChange stemRefusesSpec)) stemRefusesCard

/-- THE TIED CARD OF 'lazaretlaw10.StemLeaves'. -/
def stemLeavesCard : Claim7 := { stood := { row := stemLeavesRow, standIns := [], harness := (true, "ba0660d1babe2e3e0ddf1df22ce4cf6c513910919f142eb0fba515cce56f30b9"), looks := false }, kinds := [], alts := [], laidByText := true, laidKinds := [.data], laidTests := true, laidLooks := .later }
def StemLeavesCardSaid : Prop := Claim7.holds Tryz.pinned (.plain (OpenSpec.ofChange stemLeavesSpec)) stemLeavesCard

/-- THE TIED CARD OF 'lazaretlaw10.StemWalks'. -/
def stemWalksCard : Claim7 := { stood := { row := stemWalksRow, standIns := [], harness := (true, "ba0660d1babe2e3e0ddf1df22ce4cf6c513910919f142eb0fba515cce56f30b9"), looks := false }, kinds := [], alts := [], laidByText := true, laidKinds := [.data], laidTests := true, laidLooks := .later }
def StemWalksCardSaid : Prop := Claim7.holds Tryz.pinned (.plain (OpenSpec.ofChange stemWalksSpec)) stemWalksCard

/-- THE TIED CARD OF 'lazaretlaw10.StemSame'. -/
def stemSameCard : Claim7 := { stood := { row := stemSameRow, standIns := [], harness := (true, "ba0660d1babe2e3e0ddf1df22ce4cf6c513910919f142eb0fba515cce56f30b9"), looks := false }, kinds := [], alts := [], laidByText := true, laidKinds := [.data], laidTests := true, laidLooks := .later }
def StemSameCardSaid : Prop := Claim7.holds Tryz.pinned (.plain (OpenSpec.ofChange stemSameSpec)) stemSameCard

/-- THE TIED CARD OF 'lazaretlaw10.StemFull'. -/
def stemFullCard : Claim7 := { stood := { row := stemFullRow, standIns := [], harness := (true, "ba0660d1babe2e3e0ddf1df22ce4cf6c513910919f142eb0fba515cce56f30b9"), looks := false }, kinds := [], alts := [], laidByText := true, laidKinds := [.data], laidTests := true, laidLooks := .later }
def StemFullCardSaid : Prop := Claim7.holds Tryz.pinned (.plain (OpenSpec.ofChange stemFullSpec)) stemFullCard

/-- THE TIED CARD OF 'lazaretlaw10.StemDamage'. -/
def stemDamageCard : Claim7 := { stood := { row := stemDamageRow, standIns := [], harness := (true, "ba0660d1babe2e3e0ddf1df22ce4cf6c513910919f142eb0fba515cce56f30b9"), looks := false }, kinds := [], alts := [], laidByText := true, laidKinds := [.data], laidTests := true, laidLooks := .later }
def StemDamageCardSaid : Prop := Claim7.holds Tryz.pinned (.plain (OpenSpec.ofChange stemDamageSpec)) stemDamageCard

/-- THE SECOND FORM's CARD OF 'lazaretlaw09.VolHeals'. -/
def volHealsUptoCard : Claim7 := { stood := { row := volHealsUptoRow, standIns := [], harness := (true, "ba0660d1babe2e3e0ddf1df22ce4cf6c513910919f142eb0fba515cce56f30b9"), looks := false }, kinds := [], alts := [], laidByText := true, laidKinds := [.data], laidTests := true, laidLooks := .later }
def VolHealsUptoCardSaid : Prop := Claim7.holds Tryz.pinned (.plain (OpenSpec.upto volHealsSpec)) volHealsUptoCard

/-- THE SECOND FORM's CARD OF 'lazaretlaw10.StemAsks'. -/
def stemAsksUptoCard : Claim7 := { stood := { row := stemAsksUptoRow, standIns := [], harness := (true, "ba0660d1babe2e3e0ddf1df22ce4cf6c513910919f142eb0fba515cce56f30b9"), looks := false }, kinds := [], alts := [], laidByText := true, laidKinds := [.data], laidTests := true, laidLooks := .later }
def StemAsksUptoCardSaid : Prop := Claim7.holds Tryz.pinned (.plain (OpenSpec.upto stemAsksSpec)) stemAsksUptoCard

/-- THE SECOND FORM's CARD OF 'lazaretlaw10.StemRefuses'. -/
def stemRefusesUptoCard : Claim7 := { stood := { row := stemRefusesUptoRow, standIns := [], harness := (true, "ba0660d1babe2e3e0ddf1df22ce4cf6c513910919f142eb0fba515cce56f30b9"), looks := false }, kinds := [], alts := [], laidByText := true, laidKinds := [.data], laidTests := true, laidLooks := .later }
def StemRefusesUptoCardSaid : Prop := Claim7.holds Tryz.pinned (.plain (OpenSpec.upto stemRefusesSpec)) stemRefusesUptoCard

/-- THE SECOND FORM's CARD OF 'lazaretlaw10.StemLeaves'. -/
def stemLeavesUptoCard : Claim7 := { stood := { row := stemLeavesUptoRow, standIns := [], harness := (true, "ba0660d1babe2e3e0ddf1df22ce4cf6c513910919f142eb0fba515cce56f30b9"), looks := false }, kinds := [], alts := [], laidByText := true, laidKinds := [.data], laidTests := true, laidLooks := .later }
def StemLeavesUptoCardSaid : Prop := Claim7.holds Tryz.pinned (.plain (OpenSpec.upto stemLeavesSpec)) stemLeavesUptoCard

/-- THE SECOND FORM's CARD OF 'lazaretlaw10.StemWalks'. -/
def stemWalksUptoCard : Claim7 := { stood := { row := stemWalksUptoRow, standIns := [], harness := (true, "ba0660d1babe2e3e0ddf1df22ce4cf6c513910919f142eb0fba515cce56f30b9"), looks := false }, kinds := [], alts := [], laidByText := true, laidKinds := [.data], laidTests := true, laidLooks := .later }
def StemWalksUptoCardSaid : Prop := Claim7.holds Tryz.pinned (.plain (OpenSpec.upto stemWalksSpec)) stemWalksUptoCard

/-- THE SECOND FORM's CARD OF 'lazaretlaw10.StemSame'. -/
def stemSameUptoCard : Claim7 := { stood := { row := stemSameUptoRow, standIns := [], harness := (true, "ba0660d1babe2e3e0ddf1df22ce4cf6c513910919f142eb0fba515cce56f30b9"), looks := false }, kinds := [], alts := [], laidByText := true, laidKinds := [.data], laidTests := true, laidLooks := .later }
def StemSameUptoCardSaid : Prop := Claim7.holds Tryz.pinned (.plain (OpenSpec.upto stemSameSpec)) stemSameUptoCard

/-- THE SECOND FORM's CARD OF 'lazaretlaw10.StemFull'. -/
def stemFullUptoCard : Claim7 := { stood := { row := stemFullUptoRow, standIns := [], harness := (true, "ba0660d1babe2e3e0ddf1df22ce4cf6c513910919f142eb0fba515cce56f30b9"), looks := false }, kinds := [], alts := [], laidByText := true, laidKinds := [.data], laidTests := true, laidLooks := .later }
def StemFullUptoCardSaid : Prop := Claim7.holds Tryz.pinned (.plain (OpenSpec.upto stemFullSpec)) stemFullUptoCard

/-- THE SECOND FORM's CARD OF 'lazaretlaw10.StemDamage'. -/
def stemDamageUptoCard : Claim7 := { stood := { row := stemDamageUptoRow, standIns := [], harness := (true, "ba0660d1babe2e3e0ddf1df22ce4cf6c513910919f142eb0fba515cce56f30b9"), looks := false }, kinds := [], alts := [], laidByText := true, laidKinds := [.data], laidTests := true, laidLooks := .later }
def StemDamageUptoCardSaid : Prop := Claim7.holds Tryz.pinned (.plain (OpenSpec.upto stemDamageSpec)) stemDamageUptoCard
end Rows
end Go.Proofs.YtknjmamhijlnaaaGreatDoor
