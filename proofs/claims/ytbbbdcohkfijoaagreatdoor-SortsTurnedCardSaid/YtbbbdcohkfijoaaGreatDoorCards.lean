/-
  DERIVED. GIVEN WITH THE SEED: THE CARDS: each row of YtbbbdcohkfijoaaGreatDoorRows.lean that lists a variable, with what it lists TIED to the program's text (the seventh form; the later family's looks); each row that meets fmt, with fmt's text TOLD by the authors' own Lean function (tested against real Go, not proved from fmt's source: count such statements apart). THE CARD IS WHAT COUNTS. Prove the row's statement (the work); the ties are given (YtbbbdcohkfijoaaGreatDoorTie.lean); close each card by the builder's one call (the guide's Derived/Test/ToyasCard.lean, 'card_holds'). Laid BY PROGRAM, IN A SANDBOX (cutbox-door.mjs). By AI agents, Wed Nov 11 2026. No macro, syntax, notation, axiom, sorry.
-/
import Derived.Test.YtbbbdcohkfijoaaGreatDoorRows
import GoSem.ClaimSeven
namespace Go.Proofs.YtbbbdcohkfijoaaGreatDoor
namespace Rows

/-- THE TIED CARD OF 'thresherlaw04.NumReckons'. -/
def numReckonsCard : Claim7 := { stood := { row := numReckonsRow, standIns := [], harness := (true, "27ba4e129ff8df1567da28a7ed19a22a56fd0fe627ac05cddfcf0db25d831be4"), looks := true }, kinds := [], alts := [], laidByText := true, laidKinds := [.data, .data, .data, .data, .pinned], laidTests := true, laidLooks := .later }
def NumReckonsCardSaid : Prop := Claim7.holds Tryz.pinned (.plain (OpenSpec.ofChange numReckonsSpec)) numReckonsCard

/-- THE TIED CARD OF 'thresherlaw05.FormatWide'. -/
def formatWideCard : Claim7 := { stood := { row := formatWideRow, standIns := [], harness := (true, "27ba4e129ff8df1567da28a7ed19a22a56fd0fe627ac05cddfcf0db25d831be4"), looks := true }, kinds := [], alts := [], laidByText := true, laidKinds := [.data, .data, .data, .data, .pinned, .pinned], laidTests := true, laidLooks := .later }
def FormatWideCardSaid : Prop := Claim7.holds Tryz.pinned (.plain (OpenSpec.ofChange formatWideSpec)) formatWideCard

/-- THE TIED CARD OF 'thresherlaw05.FormatWhole'. -/
def formatWholeCard : Claim7 := { stood := { row := formatWholeRow, standIns := [], harness := (true, "27ba4e129ff8df1567da28a7ed19a22a56fd0fe627ac05cddfcf0db25d831be4"), looks := true }, kinds := [], alts := [], laidByText := true, laidKinds := [.data, .data, .data, .data, .pinned, .pinned], laidTests := true, laidLooks := .later }
def FormatWholeCardSaid : Prop := Claim7.holds Tryz.pinned (.plain (OpenSpec.ofChange formatWholeSpec)) formatWholeCard

/-- THE TIED CARD OF 'thresherlaw06.CellCompares'. -/
def cellComparesCard : Claim7 := { stood := { row := cellComparesRow, standIns := [], harness := (true, "27ba4e129ff8df1567da28a7ed19a22a56fd0fe627ac05cddfcf0db25d831be4"), looks := true }, kinds := [], alts := [], laidByText := true, laidKinds := [.data, .data, .data, .data, .pinned, .pinned], laidTests := true, laidLooks := .later }
def CellComparesCardSaid : Prop := Claim7.holds Tryz.pinned (.plain (OpenSpec.ofChange cellComparesSpec)) cellComparesCard

/-- THE TIED CARD OF 'thresherlaw07.SortsWhole'. -/
def sortsWholeCard : Claim7 := { stood := { row := sortsWholeRow, standIns := [], harness := (true, "27ba4e129ff8df1567da28a7ed19a22a56fd0fe627ac05cddfcf0db25d831be4"), looks := true }, kinds := [], alts := [], laidByText := true, laidKinds := [.data, .data, .data, .data, .pinned, .pinned], laidTests := true, laidLooks := .later }
def SortsWholeCardSaid : Prop := Claim7.holds Tryz.pinned (.plain (OpenSpec.ofChange sortsWholeSpec)) sortsWholeCard

/-- THE TIED CARD OF 'thresherlaw07.SortsTurned'. -/
def sortsTurnedCard : Claim7 := { stood := { row := sortsTurnedRow, standIns := [], harness := (true, "27ba4e129ff8df1567da28a7ed19a22a56fd0fe627ac05cddfcf0db25d831be4"), looks := true }, kinds := [], alts := [], laidByText := true, laidKinds := [.data, .data, .data, .data, .pinned, .pinned], laidTests := true, laidLooks := .later }
def SortsTurnedCardSaid : Prop := Claim7.holds Tryz.pinned (.plain (OpenSpec.ofChange sortsTurnedSpec)) sortsTurnedCard

/-- THE TIED CARD OF 'thresherlaw07.SortsKeys'. -/
def sortsKeysCard : Claim7 := { stood := { row := sortsKeysRow, standIns := [], harness := (true, "27ba4e129ff8df1567da28a7ed19a22a56fd0fe627ac05cddfcf0db25d831be4"), looks := true }, kinds := [], alts := [], laidByText := true, laidKinds := [.data, .data, .data, .data, .pinned, .pinned], laidTests := true, laidLooks := .later }
def SortsKeysCardSaid : Prop := Claim7.holds Tryz.pinned (.plain (OpenSpec.ofChange sortsKeysSpec)) sortsKeysCard

/-- THE TIED CARD OF 'thresherlaw08.AssocKeeps'. -/
def assocKeepsCard : Claim7 := { stood := { row := assocKeepsRow, standIns := [], harness := (true, "27ba4e129ff8df1567da28a7ed19a22a56fd0fe627ac05cddfcf0db25d831be4"), looks := true }, kinds := [], alts := [], laidByText := true, laidKinds := [.data, .data, .data, .data, .pinned, .pinned], laidTests := true, laidLooks := .later }
def AssocKeepsCardSaid : Prop := Claim7.holds Tryz.pinned (.plain (OpenSpec.ofChange assocKeepsSpec)) assocKeepsCard

/-- THE TIED CARD OF 'thresherlaw08.AssocNil'. -/
def assocNilCard : Claim7 := { stood := { row := assocNilRow, standIns := [], harness := (true, "27ba4e129ff8df1567da28a7ed19a22a56fd0fe627ac05cddfcf0db25d831be4"), looks := true }, kinds := [], alts := [], laidByText := true, laidKinds := [.data, .data, .data, .data, .pinned, .pinned], laidTests := true, laidLooks := .later }
def AssocNilCardSaid : Prop := Claim7.holds Tryz.pinned (.plain (OpenSpec.ofChange assocNilSpec)) assocNilCard

/-- THE TIED CARD OF 'thresherlaw08.AssocLoops'. -/
def assocLoopsCard : Claim7 := { stood := { row := assocLoopsRow, standIns := [], harness := (true, "27ba4e129ff8df1567da28a7ed19a22a56fd0fe627ac05cddfcf0db25d831be4"), looks := true }, kinds := [], alts := [], laidByText := true, laidKinds := [.data, .data, .data, .data, .pinned, .pinned], laidTests := true, laidLooks := .later }
def AssocLoopsCardSaid : Prop := Claim7.holds Tryz.pinned (.plain (OpenSpec.ofChange assocLoopsSpec)) assocLoopsCard

/-- THE SECOND FORM's CARD OF 'thresherlaw04.NumReckons'. -/
def numReckonsUptoCard : Claim7 := { stood := { row := numReckonsUptoRow, standIns := [], harness := (true, "27ba4e129ff8df1567da28a7ed19a22a56fd0fe627ac05cddfcf0db25d831be4"), looks := true }, kinds := [], alts := [], laidByText := true, laidKinds := [.data, .data, .data, .data, .pinned], laidTests := true, laidLooks := .later }
def NumReckonsUptoCardSaid : Prop := Claim7.holds Tryz.pinned (.plain (OpenSpec.upto numReckonsSpec)) numReckonsUptoCard

/-- THE SECOND FORM's CARD OF 'thresherlaw05.FormatWide'. -/
def formatWideUptoCard : Claim7 := { stood := { row := formatWideUptoRow, standIns := [], harness := (true, "27ba4e129ff8df1567da28a7ed19a22a56fd0fe627ac05cddfcf0db25d831be4"), looks := true }, kinds := [], alts := [], laidByText := true, laidKinds := [.data, .data, .data, .data, .pinned, .pinned], laidTests := true, laidLooks := .later }
def FormatWideUptoCardSaid : Prop := Claim7.holds Tryz.pinned (.plain (OpenSpec.upto formatWideSpec)) formatWideUptoCard

/-- THE SECOND FORM's CARD OF 'thresherlaw05.FormatWhole'. -/
def formatWholeUptoCard : Claim7 := { stood := { row := formatWholeUptoRow, standIns := [], harness := (true, "27ba4e129ff8df1567da28a7ed19a22a56fd0fe627ac05cddfcf0db25d831be4"), looks := true }, kinds := [], alts := [], laidByText := true, laidKinds := [.data, .data, .data, .data, .pinned, .pinned], laidTests := true, laidLooks := .later }
def FormatWholeUptoCardSaid : Prop := Claim7.holds Tryz.pinned (.plain (OpenSpec.upto formatWholeSpec)) formatWholeUptoCard

/-- THE SECOND FORM's CARD OF 'thresherlaw06.CellCompares'. -/
def cellComparesUptoCard : Claim7 := { stood := { row := cellComparesUptoRow, standIns := [], harness := (true, "27ba4e129ff8df1567da28a7ed19a22a56fd0fe627ac05cddfcf0db25d831be4"), looks := true }, kinds := [], alts := [], laidByText := true, laidKinds := [.data, .data, .data, .data, .pinned, .pinned], laidTests := true, laidLooks := .later }
def CellComparesUptoCardSaid : Prop := Claim7.holds Tryz.pinned (.plain (OpenSpec.upto cellComparesSpec)) cellComparesUptoCard

/-- THE SECOND FORM's CARD OF 'thresherlaw07.SortsWhole'. -/
def sortsWholeUptoCard : Claim7 := { stood := { row := sortsWholeUptoRow, standIns := [], harness := (true, "27ba4e129ff8df1567da28a7ed19a22a56fd0fe627ac05cddfcf0db25d831be4"), looks := true }, kinds := [], alts := [], laidByText := true, laidKinds := [.data, .data, .data, .data, .pinned, .pinned], laidTests := true, laidLooks := .later }
def SortsWholeUptoCardSaid : Prop := Claim7.holds Tryz.pinned (.plain (OpenSpec.upto sortsWholeSpec)) sortsWholeUptoCard

/-- THE SECOND FORM's CARD OF 'thresherlaw07.SortsTurned'. -/
def sortsTurnedUptoCard : Claim7 := { stood := { row := sortsTurnedUptoRow, standIns := [], harness := (true, "27ba4e129ff8df1567da28a7ed19a22a56fd0fe627ac05cddfcf0db25d831be4"), looks := true }, kinds := [], alts := [], laidByText := true, laidKinds := [.data, .data, .data, .data, .pinned, .pinned], laidTests := true, laidLooks := .later }
def SortsTurnedUptoCardSaid : Prop := Claim7.holds Tryz.pinned (.plain (OpenSpec.upto sortsTurnedSpec)) sortsTurnedUptoCard

/-- THE SECOND FORM's CARD OF 'thresherlaw07.SortsKeys'. -/
def sortsKeysUptoCard : Claim7 := { stood := { row := sortsKeysUptoRow, standIns := [], harness := (true, "27ba4e129ff8df1567da28a7ed19a22a56fd0fe627ac05cddfcf0db25d831be4"), looks := true }, kinds := [], alts := [], laidByText := true, laidKinds := [.data, .data, .data, .data, .pinned, .pinned], laidTests := true, laidLooks := .later }
def SortsKeysUptoCardSaid : Prop := Claim7.holds Tryz.pinned (.plain (OpenSpec.upto sortsKeysSpec)) sortsKeysUptoCard

/-- THE SECOND FORM's CARD OF 'thresherlaw08.AssocKeeps'. -/
def assocKeepsUptoCard : Claim7 := { stood := { row := assocKeepsUptoRow, standIns := [], harness := (true, "27ba4e129ff8df1567da28a7ed19a22a56fd0fe627ac05cddfcf0db25d831be4"), looks := true }, kinds := [], alts := [], laidByText := true, laidKinds := [.data, .data, .data, .data, .pinned, .pinned], laidTests := true, laidLooks := .later }
def AssocKeepsUptoCardSaid : Prop := Claim7.holds Tryz.pinned (.plain (OpenSpec.upto assocKeepsSpec)) assocKeepsUptoCard

/-- THE SECOND FORM's CARD OF 'thresherlaw08.AssocNil'. -/
def assocNilUptoCard : Claim7 := { stood := { row := assocNilUptoRow, standIns := [], harness := (true, "27ba4e129ff8df1567da28a7ed19a22a56fd0fe627ac05cddfcf0db25d831be4"), looks := true }, kinds := [], alts := [], laidByText := true, laidKinds := [.data, .data, .data, .data, .pinned, .pinned], laidTests := true, laidLooks := .later }
def AssocNilUptoCardSaid : Prop := Claim7.holds Tryz.pinned (.plain (OpenSpec.upto assocNilSpec)) assocNilUptoCard

/-- THE SECOND FORM's CARD OF 'thresherlaw08.AssocLoops'. -/
def assocLoopsUptoCard : Claim7 := { stood := { row := assocLoopsUptoRow, standIns := [], harness := (true, "27ba4e129ff8df1567da28a7ed19a22a56fd0fe627ac05cddfcf0db25d831be4"), looks := true }, kinds := [], alts := [], laidByText := true, laidKinds := [.data, .data, .data, .data, .pinned, .pinned], laidTests := true, laidLooks := .later }
def AssocLoopsUptoCardSaid : Prop := Claim7.holds Tryz.pinned (.plain (OpenSpec.upto assocLoopsSpec)) assocLoopsUptoCard
end Rows
end Go.Proofs.YtbbbdcohkfijoaaGreatDoor
