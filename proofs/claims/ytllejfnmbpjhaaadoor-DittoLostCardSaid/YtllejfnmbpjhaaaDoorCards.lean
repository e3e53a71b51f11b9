/-
  DERIVED. GIVEN WITH THE SEED: THE CARDS: each row of YtllejfnmbpjhaaaDoorRows.lean that lists a variable, with what it lists TIED to the program's text (the seventh form; the later family's looks); each row that meets fmt, with fmt's text TOLD by the authors' own Lean function (tested against real Go, not proved from fmt's source: count such statements apart). THE CARD IS WHAT COUNTS. Prove the row's statement (the work); the ties are given (YtllejfnmbpjhaaaDoorTie.lean); close each card by the builder's one call (the guide's Derived/Test/ToyasCard.lean, 'card_holds'). Laid BY PROGRAM, IN A SANDBOX (cutbox-door.mjs). By AI agents, Wed Nov 11 2026. No macro, syntax, notation, axiom, sorry.
-/
import Derived.Test.YtllejfnmbpjhaaaDoorRows
import GoSem.ClaimSeven
namespace Go.Proofs.YtllejfnmbpjhaaaDoor
namespace Rows

/-- THE TIED CARD OF 'lazaretlaw04.RemapTakes'. -/
def remapTakesCard : Claim7 := { stood := { row := remapTakesRow, standIns := [], harness := (true, "12d74a79375bd3edfecd4129e5e239a1c9277f8cfd7fc09a8547aaf006c0f093"), looks := false }, kinds := [], alts := [], laidByText := true, laidKinds := [.data], laidTests := true, laidLooks := .later }
def RemapTakesCardSaid : Prop := Claim7.holds Tryd.pinned (.plain (OpenSpec.ofChange remapTakesSpec)) remapTakesCard

/-- THE TIED CARD OF 'lazaretlaw04.RemapReads'. -/
def remapReadsCard : Claim7 := { stood := { row := remapReadsRow, standIns := [], harness := (true, "12d74a79375bd3edfecd4129e5e239a1c9277f8cfd7fc09a8547aaf006c0f093"), looks := false }, kinds := [], alts := [], laidByText := true, laidKinds := [.data], laidTests := true, laidLooks := .later }
def RemapReadsCardSaid : Prop := Claim7.holds Tryd.pinned (.plain (OpenSpec.ofChange remapReadsSpec)) remapReadsCard

/-- THE TIED CARD OF 'lazaretlaw04.RemapWrites'. -/
def remapWritesCard : Claim7 := { stood := { row := remapWritesRow, standIns := [], harness := (true, "12d74a79375bd3edfecd4129e5e239a1c9277f8cfd7fc09a8547aaf006c0f093"), looks := false }, kinds := [], alts := [], laidByText := true, laidKinds := [.data], laidTests := true, laidLooks := .later }
def RemapWritesCardSaid : Prop := Claim7.holds Tryd.pinned (.plain (OpenSpec.ofChange remapWritesSpec)) remapWritesCard

/-- THE TIED CARD OF 'lazaretlaw04.RemapBack'. -/
def remapBackCard : Claim7 := { stood := { row := remapBackRow, standIns := [], harness := (true, "12d74a79375bd3edfecd4129e5e239a1c9277f8cfd7fc09a8547aaf006c0f093"), looks := false }, kinds := [], alts := [], laidByText := true, laidKinds := [.data], laidTests := true, laidLooks := .later }
def RemapBackCardSaid : Prop := Claim7.holds Tryd.pinned (.plain (OpenSpec.ofChange remapBackSpec)) remapBackCard

/-- THE TIED CARD OF 'lazaretlaw04.RemapWhole'. -/
def remapWholeCard : Claim7 := { stood := { row := remapWholeRow, standIns := [], harness := (true, "12d74a79375bd3edfecd4129e5e239a1c9277f8cfd7fc09a8547aaf006c0f093"), looks := false }, kinds := [], alts := [], laidByText := true, laidKinds := [.data], laidTests := true, laidLooks := .later }
def RemapWholeCardSaid : Prop := Claim7.holds Tryd.pinned (.plain (OpenSpec.ofChange remapWholeSpec)) remapWholeCard

/-- THE TIED CARD OF 'lazaretlaw05.PtrBack'. -/
def ptrBackCard : Claim7 := { stood := { row := ptrBackRow, standIns := [], harness := (true, "12d74a79375bd3edfecd4129e5e239a1c9277f8cfd7fc09a8547aaf006c0f093"), looks := false }, kinds := [], alts := [], laidByText := true, laidKinds := [.data], laidTests := true, laidLooks := .later }
def PtrBackCardSaid : Prop := Claim7.holds Tryd.pinned (.plain (OpenSpec.ofChange ptrBackSpec)) ptrBackCard

/-- THE TIED CARD OF 'lazaretlaw06.DittoAgain'. -/
def dittoAgainCard : Claim7 := { stood := { row := dittoAgainRow, standIns := [], harness := (true, "12d74a79375bd3edfecd4129e5e239a1c9277f8cfd7fc09a8547aaf006c0f093"), looks := false }, kinds := [], alts := [], laidByText := true, laidKinds := [.data], laidTests := true, laidLooks := .later }
def DittoAgainCardSaid : Prop := Claim7.holds Tryd.pinned (.plain (OpenSpec.ofChange dittoAgainSpec)) dittoAgainCard

/-- THE TIED CARD OF 'lazaretlaw06.DittoLost'. -/
def dittoLostCard : Claim7 := { stood := { row := dittoLostRow, standIns := [], harness := (true, "12d74a79375bd3edfecd4129e5e239a1c9277f8cfd7fc09a8547aaf006c0f093"), looks := false }, kinds := [], alts := [], laidByText := true, laidKinds := [.data], laidTests := true, laidLooks := .later }
def DittoLostCardSaid : Prop := Claim7.holds Tryd.pinned (.plain (OpenSpec.ofChange dittoLostSpec)) dittoLostCard

/-- THE SECOND FORM's CARD OF 'lazaretlaw04.RemapTakes'. -/
def remapTakesUptoCard : Claim7 := { stood := { row := remapTakesUptoRow, standIns := [], harness := (true, "12d74a79375bd3edfecd4129e5e239a1c9277f8cfd7fc09a8547aaf006c0f093"), looks := false }, kinds := [], alts := [], laidByText := true, laidKinds := [.data], laidTests := true, laidLooks := .later }
def RemapTakesUptoCardSaid : Prop := Claim7.holds Tryd.pinned (.plain (OpenSpec.upto remapTakesSpec)) remapTakesUptoCard

/-- THE SECOND FORM's CARD OF 'lazaretlaw04.RemapReads'. -/
def remapReadsUptoCard : Claim7 := { stood := { row := remapReadsUptoRow, standIns := [], harness := (true, "12d74a79375bd3edfecd4129e5e239a1c9277f8cfd7fc09a8547aaf006c0f093"), looks := false }, kinds := [], alts := [], laidByText := true, laidKinds := [.data], laidTests := true, laidLooks := .later }
def RemapReadsUptoCardSaid : Prop := Claim7.holds Tryd.pinned (.plain (OpenSpec.upto remapReadsSpec)) remapReadsUptoCard

/-- THE SECOND FORM's CARD OF 'lazaretlaw04.RemapWrites'. -/
def remapWritesUptoCard : Claim7 := { stood := { row := remapWritesUptoRow, standIns := [], harness := (true, "12d74a79375bd3edfecd4129e5e239a1c9277f8cfd7fc09a8547aaf006c0f093"), looks := false }, kinds := [], alts := [], laidByText := true, laidKinds := [.data], laidTests := true, laidLooks := .later }
def RemapWritesUptoCardSaid : Prop := Claim7.holds Tryd.pinned (.plain (OpenSpec.upto remapWritesSpec)) remapWritesUptoCard

/-- THE SECOND FORM's CARD OF 'lazaretlaw04.RemapBack'. -/
def remapBackUptoCard : Claim7 := { stood := { row := remapBackUptoRow, standIns := [], harness := (true, "12d74a79375bd3edfecd4129e5e239a1c9277f8cfd7fc09a8547aaf006c0f093"), looks := false }, kinds := [], alts := [], laidByText := true, laidKinds := [.data], laidTests := true, laidLooks := .later }
def RemapBackUptoCardSaid : Prop := Claim7.holds Tryd.pinned (.plain (OpenSpec.upto remapBackSpec)) remapBackUptoCard

/-- THE SECOND FORM's CARD OF 'lazaretlaw04.RemapWhole'. -/
def remapWholeUptoCard : Claim7 := { stood := { row := remapWholeUptoRow, standIns := [], harness := (true, "12d74a79375bd3edfecd4129e5e239a1c9277f8cfd7fc09a8547aaf006c0f093"), looks := false }, kinds := [], alts := [], laidByText := true, laidKinds := [.data], laidTests := true, laidLooks := .later }
def RemapWholeUptoCardSaid : Prop := Claim7.holds Tryd.pinned (.plain (OpenSpec.upto remapWholeSpec)) remapWholeUptoCard

/-- THE SECOND FORM's CARD OF 'lazaretlaw05.PtrBack'. -/
def ptrBackUptoCard : Claim7 := { stood := { row := ptrBackUptoRow, standIns := [], harness := (true, "12d74a79375bd3edfecd4129e5e239a1c9277f8cfd7fc09a8547aaf006c0f093"), looks := false }, kinds := [], alts := [], laidByText := true, laidKinds := [.data], laidTests := true, laidLooks := .later }
def PtrBackUptoCardSaid : Prop := Claim7.holds Tryd.pinned (.plain (OpenSpec.upto ptrBackSpec)) ptrBackUptoCard

/-- THE SECOND FORM's CARD OF 'lazaretlaw06.DittoAgain'. -/
def dittoAgainUptoCard : Claim7 := { stood := { row := dittoAgainUptoRow, standIns := [], harness := (true, "12d74a79375bd3edfecd4129e5e239a1c9277f8cfd7fc09a8547aaf006c0f093"), looks := false }, kinds := [], alts := [], laidByText := true, laidKinds := [.data], laidTests := true, laidLooks := .later }
def DittoAgainUptoCardSaid : Prop := Claim7.holds Tryd.pinned (.plain (OpenSpec.upto dittoAgainSpec)) dittoAgainUptoCard

/-- THE SECOND FORM's CARD OF 'lazaretlaw06.DittoLost'. -/
def dittoLostUptoCard : Claim7 := { stood := { row := dittoLostUptoRow, standIns := [], harness := (true, "12d74a79375bd3edfecd4129e5e239a1c9277f8cfd7fc09a8547aaf006c0f093"), looks := false }, kinds := [], alts := [], laidByText := true, laidKinds := [.data], laidTests := true, laidLooks := .later }
def DittoLostUptoCardSaid : Prop := Claim7.holds Tryd.pinned (.plain (OpenSpec.upto dittoLostSpec)) dittoLostUptoCard
end Rows
end Go.Proofs.YtllejfnmbpjhaaaDoor
