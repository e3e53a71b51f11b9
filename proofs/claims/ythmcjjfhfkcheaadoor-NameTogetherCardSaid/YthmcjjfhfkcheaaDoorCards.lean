/-
  DERIVED. GIVEN WITH THE SEED: THE CARDS: each row of YthmcjjfhfkcheaaDoorRows.lean that lists a variable, with what it lists TIED to the program's text (the seventh form; the later family's looks); each row that meets fmt, with fmt's text TOLD by the authors' own Lean function (tested against real Go, not proved from fmt's source: count such statements apart). THE CARD IS WHAT COUNTS. Prove the row's statement (the work); the ties are given (YthmcjjfhfkcheaaDoorTie.lean); close each card by the builder's one call (the guide's Derived/Test/ToyasCard.lean, 'card_holds'). Laid BY PROGRAM, IN A SANDBOX (cutbox-door.mjs). By AI agents, Wed Nov 11 2026. No macro, syntax, notation, axiom, sorry.
-/
import Derived.Test.YthmcjjfhfkcheaaDoorRows
import GoSem.ClaimSeven
namespace Go.Proofs.YthmcjjfhfkcheaaDoor
namespace Rows

/-- THE TIED CARD OF 'lazaretlaw12.NameSplits'. -/
def nameSplitsCard : Claim7 := { stood := { row := nameSplitsRow, standIns := [], harness := (true, "8c6fa9f40aca8e808878c477f993fbe3ec578144d33800067d1340eb80395980"), looks := false }, kinds := [], alts := [], laidByText := true, laidKinds := [.data, .pinned], laidTests := true, laidLooks := .later }
def NameSplitsCardSaid : Prop := Claim7.holds Tryd.pinned (.plain (OpenSpec.ofChange nameSplitsSpec)) nameSplitsCard

/-- THE TIED CARD OF 'lazaretlaw12.NameCleans'. -/
def nameCleansCard : Claim7 := { stood := { row := nameCleansRow, standIns := [], harness := (true, "8c6fa9f40aca8e808878c477f993fbe3ec578144d33800067d1340eb80395980"), looks := false }, kinds := [], alts := [], laidByText := true, laidKinds := [.data, .pinned], laidTests := true, laidLooks := .later }
def NameCleansCardSaid : Prop := Claim7.holds Tryd.pinned (.plain (OpenSpec.ofChange nameCleansSpec)) nameCleansCard

/-- THE TIED CARD OF 'lazaretlaw12.NameAgain'. -/
def nameAgainCard : Claim7 := { stood := { row := nameAgainRow, standIns := [], harness := (true, "8c6fa9f40aca8e808878c477f993fbe3ec578144d33800067d1340eb80395980"), looks := false }, kinds := [], alts := [], laidByText := true, laidKinds := [.data, .pinned], laidTests := true, laidLooks := .later }
def NameAgainCardSaid : Prop := Claim7.holds Tryd.pinned (.plain (OpenSpec.ofChange nameAgainSpec)) nameAgainCard

/-- THE TIED CARD OF 'lazaretlaw12.NameTogether'. -/
def nameTogetherCard : Claim7 := { stood := { row := nameTogetherRow, standIns := [], harness := (true, "8c6fa9f40aca8e808878c477f993fbe3ec578144d33800067d1340eb80395980"), looks := false }, kinds := [], alts := [], laidByText := true, laidKinds := [.data, .pinned], laidTests := true, laidLooks := .later }
def NameTogetherCardSaid : Prop := Claim7.holds Tryd.pinned (.plain (OpenSpec.ofChange nameTogetherSpec)) nameTogetherCard

/-- THE SECOND FORM's CARD OF 'lazaretlaw12.NameSplits'. -/
def nameSplitsUptoCard : Claim7 := { stood := { row := nameSplitsUptoRow, standIns := [], harness := (true, "8c6fa9f40aca8e808878c477f993fbe3ec578144d33800067d1340eb80395980"), looks := false }, kinds := [], alts := [], laidByText := true, laidKinds := [.data, .pinned], laidTests := true, laidLooks := .later }
def NameSplitsUptoCardSaid : Prop := Claim7.holds Tryd.pinned (.plain (OpenSpec.upto nameSplitsSpec)) nameSplitsUptoCard

/-- THE SECOND FORM's CARD OF 'lazaretlaw12.NameCleans'. -/
def nameCleansUptoCard : Claim7 := { stood := { row := nameCleansUptoRow, standIns := [], harness := (true, "8c6fa9f40aca8e808878c477f993fbe3ec578144d33800067d1340eb80395980"), looks := false }, kinds := [], alts := [], laidByText := true, laidKinds := [.data, .pinned], laidTests := true, laidLooks := .later }
def NameCleansUptoCardSaid : Prop := Claim7.holds Tryd.pinned (.plain (OpenSpec.upto nameCleansSpec)) nameCleansUptoCard

/-- THE SECOND FORM's CARD OF 'lazaretlaw12.NameAgain'. -/
def nameAgainUptoCard : Claim7 := { stood := { row := nameAgainUptoRow, standIns := [], harness := (true, "8c6fa9f40aca8e808878c477f993fbe3ec578144d33800067d1340eb80395980"), looks := false }, kinds := [], alts := [], laidByText := true, laidKinds := [.data, .pinned], laidTests := true, laidLooks := .later }
def NameAgainUptoCardSaid : Prop := Claim7.holds Tryd.pinned (.plain (OpenSpec.upto nameAgainSpec)) nameAgainUptoCard

/-- THE SECOND FORM's CARD OF 'lazaretlaw12.NameTogether'. -/
def nameTogetherUptoCard : Claim7 := { stood := { row := nameTogetherUptoRow, standIns := [], harness := (true, "8c6fa9f40aca8e808878c477f993fbe3ec578144d33800067d1340eb80395980"), looks := false }, kinds := [], alts := [], laidByText := true, laidKinds := [.data, .pinned], laidTests := true, laidLooks := .later }
def NameTogetherUptoCardSaid : Prop := Claim7.holds Tryd.pinned (.plain (OpenSpec.upto nameTogetherSpec)) nameTogetherUptoCard
end Rows
end Go.Proofs.YthmcjjfhfkcheaaDoor
