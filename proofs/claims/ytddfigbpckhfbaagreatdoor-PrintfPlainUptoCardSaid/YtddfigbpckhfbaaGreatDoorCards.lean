/-
  DERIVED. GIVEN WITH THE SEED: THE CARDS: each row of YtddfigbpckhfbaaGreatDoorRows.lean that lists a variable, with what it lists TIED to the program's text (the seventh form; the later family's looks); each row that meets fmt, with fmt's text TOLD by the authors' own Lean function (tested against real Go, not proved from fmt's source: count such statements apart). THE CARD IS WHAT COUNTS. Prove the row's statement (the work); the ties are given (YtddfigbpckhfbaaGreatDoorTie.lean); close each card by the builder's one call (the guide's Derived/Test/ToyasCard.lean, 'card_holds'). Laid BY PROGRAM, IN A SANDBOX (cutbox-door.mjs). By AI agents, Wed Nov 11 2026. No macro, syntax, notation, axiom, sorry.
-/
import Derived.Test.YtddfigbpckhfbaaGreatDoorRows
import GoSem.ClaimSeven
namespace Go.Proofs.YtddfigbpckhfbaaGreatDoor
namespace Rows

/-- THE TIED CARD OF 'thresherlaw04.NumReckons'. -/
def numReckonsCard : Claim7 := { stood := { row := numReckonsRow, standIns := [], harness := (true, "0d99c376e82390b288125e729c044b3596ab73b8095bfc479e8c48f645aa5a2f"), looks := false }, kinds := [], alts := [], laidByText := true, laidKinds := [.data, .data, .data, .data, .pinned], laidTests := true, laidLooks := .later }
def NumReckonsCardSaid : Prop := Claim7.holds Tryz.pinned (.plain (OpenSpec.ofChange numReckonsSpec)) numReckonsCard

/-- THE TIED CARD OF 'thresherlaw06.CellCompares'. -/
def cellComparesCard : Claim7 := { stood := { row := cellComparesRow, standIns := [], harness := (true, "0d99c376e82390b288125e729c044b3596ab73b8095bfc479e8c48f645aa5a2f"), looks := false }, kinds := [], alts := [], laidByText := true, laidKinds := [.data, .data, .data, .data, .pinned, .pinned], laidTests := true, laidLooks := .later }
def CellComparesCardSaid : Prop := Claim7.holds Tryz.pinned (.plain (OpenSpec.ofChange cellComparesSpec)) cellComparesCard

/-- THE TIED CARD OF 'thresherlaw11.PrintfWrites'. -/
def printfWritesCard : Claim7 := { stood := { row := printfWritesRow, standIns := [], harness := (true, "0d99c376e82390b288125e729c044b3596ab73b8095bfc479e8c48f645aa5a2f"), looks := false }, kinds := [], alts := [], laidByText := true, laidKinds := [.data, .data, .data, .data, .pinned, .pinned], laidTests := true, laidLooks := .later }
def PrintfWritesCardSaid : Prop := Claim7.holds Tryz.pinned (.plain (OpenSpec.ofChange printfWritesSpec)) printfWritesCard

/-- THE TIED CARD OF 'thresherlaw11.PrintfJoins'. -/
def printfJoinsCard : Claim7 := { stood := { row := printfJoinsRow, standIns := [], harness := (true, "0d99c376e82390b288125e729c044b3596ab73b8095bfc479e8c48f645aa5a2f"), looks := false }, kinds := [], alts := [], laidByText := true, laidKinds := [.data, .data, .data, .data, .pinned, .pinned], laidTests := true, laidLooks := .later }
def PrintfJoinsCardSaid : Prop := Claim7.holds Tryz.pinned (.plain (OpenSpec.ofChange printfJoinsSpec)) printfJoinsCard

/-- THE TIED CARD OF 'thresherlaw11.PrintfPlain'. -/
def printfPlainCard : Claim7 := { stood := { row := printfPlainRow, standIns := [], harness := (true, "0d99c376e82390b288125e729c044b3596ab73b8095bfc479e8c48f645aa5a2f"), looks := false }, kinds := [], alts := [], laidByText := true, laidKinds := [.data, .data, .data, .data, .pinned, .pinned], laidTests := true, laidLooks := .later }
def PrintfPlainCardSaid : Prop := Claim7.holds Tryz.pinned (.plain (OpenSpec.ofChange printfPlainSpec)) printfPlainCard

/-- THE TIED CARD OF 'thresherlaw11.PrintfTexts'. -/
def printfTextsCard : Claim7 := { stood := { row := printfTextsRow, standIns := [], harness := (true, "0d99c376e82390b288125e729c044b3596ab73b8095bfc479e8c48f645aa5a2f"), looks := false }, kinds := [], alts := [], laidByText := true, laidKinds := [.data, .data, .data, .data, .pinned, .pinned], laidTests := true, laidLooks := .later }
def PrintfTextsCardSaid : Prop := Claim7.holds Tryz.pinned (.plain (OpenSpec.ofChange printfTextsSpec)) printfTextsCard

/-- THE SECOND FORM's CARD OF 'thresherlaw04.NumReckons'. -/
def numReckonsUptoCard : Claim7 := { stood := { row := numReckonsUptoRow, standIns := [], harness := (true, "0d99c376e82390b288125e729c044b3596ab73b8095bfc479e8c48f645aa5a2f"), looks := false }, kinds := [], alts := [], laidByText := true, laidKinds := [.data, .data, .data, .data, .pinned], laidTests := true, laidLooks := .later }
def NumReckonsUptoCardSaid : Prop := Claim7.holds Tryz.pinned (.plain (OpenSpec.upto numReckonsSpec)) numReckonsUptoCard

/-- THE SECOND FORM's CARD OF 'thresherlaw06.CellCompares'. -/
def cellComparesUptoCard : Claim7 := { stood := { row := cellComparesUptoRow, standIns := [], harness := (true, "0d99c376e82390b288125e729c044b3596ab73b8095bfc479e8c48f645aa5a2f"), looks := false }, kinds := [], alts := [], laidByText := true, laidKinds := [.data, .data, .data, .data, .pinned, .pinned], laidTests := true, laidLooks := .later }
def CellComparesUptoCardSaid : Prop := Claim7.holds Tryz.pinned (.plain (OpenSpec.upto cellComparesSpec)) cellComparesUptoCard

/-- THE SECOND FORM's CARD OF 'thresherlaw11.PrintfWrites'. -/
def printfWritesUptoCard : Claim7 := { stood := { row := printfWritesUptoRow, standIns := [], harness := (true, "0d99c376e82390b288125e729c044b3596ab73b8095bfc479e8c48f645aa5a2f"), looks := false }, kinds := [], alts := [], laidByText := true, laidKinds := [.data, .data, .data, .data, .pinned, .pinned], laidTests := true, laidLooks := .later }
def PrintfWritesUptoCardSaid : Prop := Claim7.holds Tryz.pinned (.plain (OpenSpec.upto printfWritesSpec)) printfWritesUptoCard

/-- THE SECOND FORM's CARD OF 'thresherlaw11.PrintfJoins'. -/
def printfJoinsUptoCard : Claim7 := { stood := { row := printfJoinsUptoRow, standIns := [], harness := (true, "0d99c376e82390b288125e729c044b3596ab73b8095bfc479e8c48f645aa5a2f"), looks := false }, kinds := [], alts := [], laidByText := true, laidKinds := [.data, .data, .data, .data, .pinned, .pinned], laidTests := true, laidLooks := .later }
def PrintfJoinsUptoCardSaid : Prop := Claim7.holds Tryz.pinned (.plain (OpenSpec.upto printfJoinsSpec)) printfJoinsUptoCard

/-- THE SECOND FORM's CARD OF 'thresherlaw11.PrintfPlain'. -/
def printfPlainUptoCard : Claim7 := { stood := { row := printfPlainUptoRow, standIns := [], harness := (true, "0d99c376e82390b288125e729c044b3596ab73b8095bfc479e8c48f645aa5a2f"), looks := false }, kinds := [], alts := [], laidByText := true, laidKinds := [.data, .data, .data, .data, .pinned, .pinned], laidTests := true, laidLooks := .later }
def PrintfPlainUptoCardSaid : Prop := Claim7.holds Tryz.pinned (.plain (OpenSpec.upto printfPlainSpec)) printfPlainUptoCard

/-- THE SECOND FORM's CARD OF 'thresherlaw11.PrintfTexts'. -/
def printfTextsUptoCard : Claim7 := { stood := { row := printfTextsUptoRow, standIns := [], harness := (true, "0d99c376e82390b288125e729c044b3596ab73b8095bfc479e8c48f645aa5a2f"), looks := false }, kinds := [], alts := [], laidByText := true, laidKinds := [.data, .data, .data, .data, .pinned, .pinned], laidTests := true, laidLooks := .later }
def PrintfTextsUptoCardSaid : Prop := Claim7.holds Tryz.pinned (.plain (OpenSpec.upto printfTextsSpec)) printfTextsUptoCard
end Rows
end Go.Proofs.YtddfigbpckhfbaaGreatDoor
