/-
  DERIVED. GIVEN WITH THE SEED: THE CARDS: each row of YtelhbkfhalpniaaDoorRows.lean that lists a variable, with what it lists TIED to the program's text (the seventh form; the later family's looks); each row that meets fmt, with fmt's text TOLD by the authors' own Lean function (tested against real Go, not proved from fmt's source: count such statements apart). THE CARD IS WHAT COUNTS. Prove the row's statement (the work); the ties are given (YtelhbkfhalpniaaDoorTie.lean); close each card by the builder's one call (the guide's Derived/Test/ToyasCard.lean, 'card_holds'). Laid BY PROGRAM, IN A SANDBOX (cutbox-door.mjs). By AI agents, Wed Nov 11 2026. No macro, syntax, notation, axiom, sorry.
-/
import Derived.Test.YtelhbkfhalpniaaDoorRows
import GoSem.ClaimSeven
namespace Go.Proofs.YtelhbkfhalpniaaDoor
namespace Rows

/-- THE TIED CARD OF 'thresherlaw13.CalTexts'. -/
def calTextsCard : Claim7 := { stood := { row := calTextsRow, standIns := [], harness := (true, "e3b731476e6d998ecee727b443eea1dae7746f0ccdaffa0992b1f3a2568318c9"), looks := true }, kinds := [], alts := [], laidByText := true, laidKinds := [.data, .data, .data, .data, .sentinel, .sentinel, .data, .data, .data, .pinned], laidTests := true, laidLooks := .later }
def CalTextsCardSaid : Prop := Claim7.holds Tryd.pinned (.plain (OpenSpec.ofChange calTextsSpec)) calTextsCard

/-- THE TIED CARD OF 'thresherlaw13.CalParses'. -/
def calParsesCard : Claim7 := { stood := { row := calParsesRow, standIns := [], harness := (true, "e3b731476e6d998ecee727b443eea1dae7746f0ccdaffa0992b1f3a2568318c9"), looks := true }, kinds := [], alts := [], laidByText := true, laidKinds := [.data, .data, .data, .data, .sentinel, .sentinel, .data, .data, .data, .pinned], laidTests := true, laidLooks := .later }
def CalParsesCardSaid : Prop := Claim7.holds Tryd.pinned (.plain (OpenSpec.ofChange calParsesSpec)) calParsesCard

/-- THE SECOND FORM's CARD OF 'thresherlaw13.CalTexts'. -/
def calTextsUptoCard : Claim7 := { stood := { row := calTextsUptoRow, standIns := [], harness := (true, "e3b731476e6d998ecee727b443eea1dae7746f0ccdaffa0992b1f3a2568318c9"), looks := true }, kinds := [], alts := [], laidByText := true, laidKinds := [.data, .data, .data, .data, .sentinel, .sentinel, .data, .data, .data, .pinned], laidTests := true, laidLooks := .later }
def CalTextsUptoCardSaid : Prop := Claim7.holds Tryd.pinned (.plain (OpenSpec.upto calTextsSpec)) calTextsUptoCard

/-- THE SECOND FORM's CARD OF 'thresherlaw13.CalParses'. -/
def calParsesUptoCard : Claim7 := { stood := { row := calParsesUptoRow, standIns := [], harness := (true, "e3b731476e6d998ecee727b443eea1dae7746f0ccdaffa0992b1f3a2568318c9"), looks := true }, kinds := [], alts := [], laidByText := true, laidKinds := [.data, .data, .data, .data, .sentinel, .sentinel, .data, .data, .data, .pinned], laidTests := true, laidLooks := .later }
def CalParsesUptoCardSaid : Prop := Claim7.holds Tryd.pinned (.plain (OpenSpec.upto calParsesSpec)) calParsesUptoCard
end Rows
end Go.Proofs.YtelhbkfhalpniaaDoor
