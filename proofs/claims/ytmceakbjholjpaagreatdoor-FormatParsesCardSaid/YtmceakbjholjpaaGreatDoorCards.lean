/-
  DERIVED. GIVEN WITH THE SEED: THE CARDS: each row of YtmceakbjholjpaaGreatDoorRows.lean that lists a variable, with what it lists TIED to the program's text (the seventh form; the later family's looks); each row that meets fmt, with fmt's text TOLD by the authors' own Lean function (tested against real Go, not proved from fmt's source: count such statements apart). THE CARD IS WHAT COUNTS. Prove the row's statement (the work); the ties are given (YtmceakbjholjpaaGreatDoorTie.lean); close each card by the builder's one call (the guide's Derived/Test/ToyasCard.lean, 'card_holds'). Laid BY PROGRAM, IN A SANDBOX (cutbox-door.mjs). By AI agents, Wed Nov 11 2026. No macro, syntax, notation, axiom, sorry.
-/
import Derived.Test.YtmceakbjholjpaaGreatDoorRows
import GoSem.ClaimSeven
namespace Go.Proofs.YtmceakbjholjpaaGreatDoor
namespace Rows

/-- THE TIED CARD OF 'thresherlaw05.FormatParses'. -/
def formatParsesCard : Claim7 := { stood := { row := formatParsesRow, standIns := [], harness := (true, "bebffa6c8b82cf143670f619cf2aa39c322c6c41a767c8853bebf42040e96e2f"), looks := true }, kinds := [], alts := [], laidByText := true, laidKinds := [.data, .data, .data, .data, .pinned, .pinned], laidTests := true, laidLooks := .later }
def FormatParsesCardSaid : Prop := Claim7.holds Tryz.pinned (.plain (OpenSpec.ofChange formatParsesSpec)) formatParsesCard

/-- THE TIED CARD OF 'thresherlaw05.FormatTexts'. -/
def formatTextsCard : Claim7 := { stood := { row := formatTextsRow, standIns := [], harness := (true, "bebffa6c8b82cf143670f619cf2aa39c322c6c41a767c8853bebf42040e96e2f"), looks := true }, kinds := [], alts := [], laidByText := true, laidKinds := [.data, .data, .data, .data, .pinned, .pinned], laidTests := true, laidLooks := .later }
def FormatTextsCardSaid : Prop := Claim7.holds Tryz.pinned (.plain (OpenSpec.ofChange formatTextsSpec)) formatTextsCard

/-- THE TIED CARD OF 'thresherlaw05.FormatBack'. -/
def formatBackCard : Claim7 := { stood := { row := formatBackRow, standIns := [], harness := (true, "bebffa6c8b82cf143670f619cf2aa39c322c6c41a767c8853bebf42040e96e2f"), looks := true }, kinds := [], alts := [], laidByText := true, laidKinds := [.data, .data, .data, .data, .pinned, .pinned], laidTests := true, laidLooks := .later }
def FormatBackCardSaid : Prop := Claim7.holds Tryz.pinned (.plain (OpenSpec.ofChange formatBackSpec)) formatBackCard

/-- THE TIED CARD OF 'thresherlaw05.FormatWhole'. -/
def formatWholeCard : Claim7 := { stood := { row := formatWholeRow, standIns := [], harness := (true, "bebffa6c8b82cf143670f619cf2aa39c322c6c41a767c8853bebf42040e96e2f"), looks := true }, kinds := [], alts := [], laidByText := true, laidKinds := [.data, .data, .data, .data, .pinned, .pinned], laidTests := true, laidLooks := .later }
def FormatWholeCardSaid : Prop := Claim7.holds Tryz.pinned (.plain (OpenSpec.ofChange formatWholeSpec)) formatWholeCard

/-- THE TIED CARD OF 'thresherlaw06.CellOrders'. -/
def cellOrdersCard : Claim7 := { stood := { row := cellOrdersRow, standIns := [], harness := (true, "bebffa6c8b82cf143670f619cf2aa39c322c6c41a767c8853bebf42040e96e2f"), looks := true }, kinds := [], alts := [], laidByText := true, laidKinds := [.data, .data, .data, .data, .pinned, .pinned], laidTests := true, laidLooks := .later }
def CellOrdersCardSaid : Prop := Claim7.holds Tryz.pinned (.plain (OpenSpec.ofChange cellOrdersSpec)) cellOrdersCard

/-- THE TIED CARD OF 'thresherlaw06.CellInput'. -/
def cellInputCard : Claim7 := { stood := { row := cellInputRow, standIns := [], harness := (true, "bebffa6c8b82cf143670f619cf2aa39c322c6c41a767c8853bebf42040e96e2f"), looks := true }, kinds := [], alts := [], laidByText := true, laidKinds := [.data, .data, .data, .data, .pinned, .pinned], laidTests := true, laidLooks := .later }
def CellInputCardSaid : Prop := Claim7.holds Tryz.pinned (.plain (OpenSpec.ofChange cellInputSpec)) cellInputCard

/-- THE TIED CARD OF 'thresherlaw07.SortsWhole'. -/
def sortsWholeCard : Claim7 := { stood := { row := sortsWholeRow, standIns := [], harness := (true, "bebffa6c8b82cf143670f619cf2aa39c322c6c41a767c8853bebf42040e96e2f"), looks := true }, kinds := [], alts := [], laidByText := true, laidKinds := [.data, .data, .data, .data, .pinned, .pinned], laidTests := true, laidLooks := .later }
def SortsWholeCardSaid : Prop := Claim7.holds Tryz.pinned (.plain (OpenSpec.ofChange sortsWholeSpec)) sortsWholeCard

/-- THE TIED CARD OF 'thresherlaw07.SortsTurned'. -/
def sortsTurnedCard : Claim7 := { stood := { row := sortsTurnedRow, standIns := [], harness := (true, "bebffa6c8b82cf143670f619cf2aa39c322c6c41a767c8853bebf42040e96e2f"), looks := true }, kinds := [], alts := [], laidByText := true, laidKinds := [.data, .data, .data, .data, .pinned, .pinned], laidTests := true, laidLooks := .later }
def SortsTurnedCardSaid : Prop := Claim7.holds Tryz.pinned (.plain (OpenSpec.ofChange sortsTurnedSpec)) sortsTurnedCard

/-- THE TIED CARD OF 'thresherlaw07.SortsKeys'. -/
def sortsKeysCard : Claim7 := { stood := { row := sortsKeysRow, standIns := [], harness := (true, "bebffa6c8b82cf143670f619cf2aa39c322c6c41a767c8853bebf42040e96e2f"), looks := true }, kinds := [], alts := [], laidByText := true, laidKinds := [.data, .data, .data, .data, .pinned, .pinned], laidTests := true, laidLooks := .later }
def SortsKeysCardSaid : Prop := Claim7.holds Tryz.pinned (.plain (OpenSpec.ofChange sortsKeysSpec)) sortsKeysCard

/-- THE TIED CARD OF 'threshertop.TopNumbers'. -/
def topNumbersCard : Claim7 := { stood := { row := topNumbersRow, standIns := [], harness := (true, "bebffa6c8b82cf143670f619cf2aa39c322c6c41a767c8853bebf42040e96e2f"), looks := true }, kinds := [], alts := [], laidByText := true, laidKinds := [.data, .data, .data, .data, .pinned, .pinned], laidTests := true, laidLooks := .later }
def TopNumbersCardSaid : Prop := Claim7.holds Tryz.pinned (.plain (OpenSpec.ofChange topNumbersSpec)) topNumbersCard

/-- THE SECOND FORM's CARD OF 'thresherlaw05.FormatParses'. -/
def formatParsesUptoCard : Claim7 := { stood := { row := formatParsesUptoRow, standIns := [], harness := (true, "bebffa6c8b82cf143670f619cf2aa39c322c6c41a767c8853bebf42040e96e2f"), looks := true }, kinds := [], alts := [], laidByText := true, laidKinds := [.data, .data, .data, .data, .pinned, .pinned], laidTests := true, laidLooks := .later }
def FormatParsesUptoCardSaid : Prop := Claim7.holds Tryz.pinned (.plain (OpenSpec.upto formatParsesSpec)) formatParsesUptoCard

/-- THE SECOND FORM's CARD OF 'thresherlaw05.FormatTexts'. -/
def formatTextsUptoCard : Claim7 := { stood := { row := formatTextsUptoRow, standIns := [], harness := (true, "bebffa6c8b82cf143670f619cf2aa39c322c6c41a767c8853bebf42040e96e2f"), looks := true }, kinds := [], alts := [], laidByText := true, laidKinds := [.data, .data, .data, .data, .pinned, .pinned], laidTests := true, laidLooks := .later }
def FormatTextsUptoCardSaid : Prop := Claim7.holds Tryz.pinned (.plain (OpenSpec.upto formatTextsSpec)) formatTextsUptoCard

/-- THE SECOND FORM's CARD OF 'thresherlaw05.FormatBack'. -/
def formatBackUptoCard : Claim7 := { stood := { row := formatBackUptoRow, standIns := [], harness := (true, "bebffa6c8b82cf143670f619cf2aa39c322c6c41a767c8853bebf42040e96e2f"), looks := true }, kinds := [], alts := [], laidByText := true, laidKinds := [.data, .data, .data, .data, .pinned, .pinned], laidTests := true, laidLooks := .later }
def FormatBackUptoCardSaid : Prop := Claim7.holds Tryz.pinned (.plain (OpenSpec.upto formatBackSpec)) formatBackUptoCard

/-- THE SECOND FORM's CARD OF 'thresherlaw05.FormatWhole'. -/
def formatWholeUptoCard : Claim7 := { stood := { row := formatWholeUptoRow, standIns := [], harness := (true, "bebffa6c8b82cf143670f619cf2aa39c322c6c41a767c8853bebf42040e96e2f"), looks := true }, kinds := [], alts := [], laidByText := true, laidKinds := [.data, .data, .data, .data, .pinned, .pinned], laidTests := true, laidLooks := .later }
def FormatWholeUptoCardSaid : Prop := Claim7.holds Tryz.pinned (.plain (OpenSpec.upto formatWholeSpec)) formatWholeUptoCard

/-- THE SECOND FORM's CARD OF 'thresherlaw06.CellOrders'. -/
def cellOrdersUptoCard : Claim7 := { stood := { row := cellOrdersUptoRow, standIns := [], harness := (true, "bebffa6c8b82cf143670f619cf2aa39c322c6c41a767c8853bebf42040e96e2f"), looks := true }, kinds := [], alts := [], laidByText := true, laidKinds := [.data, .data, .data, .data, .pinned, .pinned], laidTests := true, laidLooks := .later }
def CellOrdersUptoCardSaid : Prop := Claim7.holds Tryz.pinned (.plain (OpenSpec.upto cellOrdersSpec)) cellOrdersUptoCard

/-- THE SECOND FORM's CARD OF 'thresherlaw06.CellInput'. -/
def cellInputUptoCard : Claim7 := { stood := { row := cellInputUptoRow, standIns := [], harness := (true, "bebffa6c8b82cf143670f619cf2aa39c322c6c41a767c8853bebf42040e96e2f"), looks := true }, kinds := [], alts := [], laidByText := true, laidKinds := [.data, .data, .data, .data, .pinned, .pinned], laidTests := true, laidLooks := .later }
def CellInputUptoCardSaid : Prop := Claim7.holds Tryz.pinned (.plain (OpenSpec.upto cellInputSpec)) cellInputUptoCard

/-- THE SECOND FORM's CARD OF 'thresherlaw07.SortsWhole'. -/
def sortsWholeUptoCard : Claim7 := { stood := { row := sortsWholeUptoRow, standIns := [], harness := (true, "bebffa6c8b82cf143670f619cf2aa39c322c6c41a767c8853bebf42040e96e2f"), looks := true }, kinds := [], alts := [], laidByText := true, laidKinds := [.data, .data, .data, .data, .pinned, .pinned], laidTests := true, laidLooks := .later }
def SortsWholeUptoCardSaid : Prop := Claim7.holds Tryz.pinned (.plain (OpenSpec.upto sortsWholeSpec)) sortsWholeUptoCard

/-- THE SECOND FORM's CARD OF 'thresherlaw07.SortsTurned'. -/
def sortsTurnedUptoCard : Claim7 := { stood := { row := sortsTurnedUptoRow, standIns := [], harness := (true, "bebffa6c8b82cf143670f619cf2aa39c322c6c41a767c8853bebf42040e96e2f"), looks := true }, kinds := [], alts := [], laidByText := true, laidKinds := [.data, .data, .data, .data, .pinned, .pinned], laidTests := true, laidLooks := .later }
def SortsTurnedUptoCardSaid : Prop := Claim7.holds Tryz.pinned (.plain (OpenSpec.upto sortsTurnedSpec)) sortsTurnedUptoCard

/-- THE SECOND FORM's CARD OF 'thresherlaw07.SortsKeys'. -/
def sortsKeysUptoCard : Claim7 := { stood := { row := sortsKeysUptoRow, standIns := [], harness := (true, "bebffa6c8b82cf143670f619cf2aa39c322c6c41a767c8853bebf42040e96e2f"), looks := true }, kinds := [], alts := [], laidByText := true, laidKinds := [.data, .data, .data, .data, .pinned, .pinned], laidTests := true, laidLooks := .later }
def SortsKeysUptoCardSaid : Prop := Claim7.holds Tryz.pinned (.plain (OpenSpec.upto sortsKeysSpec)) sortsKeysUptoCard

/-- THE SECOND FORM's CARD OF 'threshertop.TopNumbers'. -/
def topNumbersUptoCard : Claim7 := { stood := { row := topNumbersUptoRow, standIns := [], harness := (true, "bebffa6c8b82cf143670f619cf2aa39c322c6c41a767c8853bebf42040e96e2f"), looks := true }, kinds := [], alts := [], laidByText := true, laidKinds := [.data, .data, .data, .data, .pinned, .pinned], laidTests := true, laidLooks := .later }
def TopNumbersUptoCardSaid : Prop := Claim7.holds Tryz.pinned (.plain (OpenSpec.upto topNumbersSpec)) topNumbersUptoCard
end Rows
end Go.Proofs.YtmceakbjholjpaaGreatDoor
