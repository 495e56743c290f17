/-
  DERIVED. GIVEN WITH THE SEED: THE CARDS: each row of YtmfcofiihopbfaaDoorRows.lean that lists a variable, with what it lists TIED to the program's text (the seventh form; the later family's looks); each row that meets fmt, with fmt's text TOLD by the authors' own Lean function (tested against real Go, not proved from fmt's source: count such statements apart). THE CARD IS WHAT COUNTS. Prove the row's statement (the work); the ties are given (YtmfcofiihopbfaaDoorTie.lean); close each card by the builder's one call (the guide's Derived/Test/ToyasCard.lean, 'card_holds'). Laid BY PROGRAM, IN A SANDBOX (cutbox-door.mjs). By AI agents, Wed Nov 11 2026. No macro, syntax, notation, axiom, sorry.
-/
import Derived.Test.YtmfcofiihopbfaaDoorRows
import GoSem.ClaimSeven
namespace Go.Proofs.YtmfcofiihopbfaaDoor
namespace Rows

/-- THE TIED CARD OF 'thresherlaw09.RxNames'. -/
def rxNamesCard : Claim7 := { stood := { row := rxNamesRow, standIns := [], harness := (true, "bd94981464bff2b1d3d3b805528f90a2f8dc1a79ef197959f364b6575348ac9a"), looks := true }, kinds := [], alts := [], laidByText := true, laidKinds := [.data, .pinned], laidTests := true, laidLooks := .later }
def RxNamesCardSaid : Prop := Claim7.holds Tryd.pinned (.plain (OpenSpec.ofChange rxNamesSpec)) rxNamesCard

/-- THE TIED CARD OF 'thresherlaw09.RxJoins'. -/
def rxJoinsCard : Claim7 := { stood := { row := rxJoinsRow, standIns := [], harness := (true, "bd94981464bff2b1d3d3b805528f90a2f8dc1a79ef197959f364b6575348ac9a"), looks := true }, kinds := [], alts := [], laidByText := true, laidKinds := [.data, .pinned], laidTests := true, laidLooks := .later }
def RxJoinsCardSaid : Prop := Claim7.holds Tryd.pinned (.plain (OpenSpec.ofChange rxJoinsSpec)) rxJoinsCard

/-- THE TIED CARD OF 'thresherlaw09.RxLiteral'. -/
def rxLiteralCard : Claim7 := { stood := { row := rxLiteralRow, standIns := [], harness := (true, "bd94981464bff2b1d3d3b805528f90a2f8dc1a79ef197959f364b6575348ac9a"), looks := true }, kinds := [], alts := [], laidByText := true, laidKinds := [.data, .pinned], laidTests := true, laidLooks := .later }
def RxLiteralCardSaid : Prop := Claim7.holds Tryd.pinned (.plain (OpenSpec.ofChange rxLiteralSpec)) rxLiteralCard

/-- THE TIED CARD OF 'thresherlaw09.RxRepeats'. -/
def rxRepeatsCard : Claim7 := { stood := { row := rxRepeatsRow, standIns := [], harness := (true, "bd94981464bff2b1d3d3b805528f90a2f8dc1a79ef197959f364b6575348ac9a"), looks := true }, kinds := [], alts := [], laidByText := true, laidKinds := [.data, .pinned], laidTests := true, laidLooks := .later }
def RxRepeatsCardSaid : Prop := Claim7.holds Tryd.pinned (.plain (OpenSpec.ofChange rxRepeatsSpec)) rxRepeatsCard

/-- THE SECOND FORM's CARD OF 'thresherlaw09.RxNames'. -/
def rxNamesUptoCard : Claim7 := { stood := { row := rxNamesUptoRow, standIns := [], harness := (true, "bd94981464bff2b1d3d3b805528f90a2f8dc1a79ef197959f364b6575348ac9a"), looks := true }, kinds := [], alts := [], laidByText := true, laidKinds := [.data, .pinned], laidTests := true, laidLooks := .later }
def RxNamesUptoCardSaid : Prop := Claim7.holds Tryd.pinned (.plain (OpenSpec.upto rxNamesSpec)) rxNamesUptoCard

/-- THE SECOND FORM's CARD OF 'thresherlaw09.RxJoins'. -/
def rxJoinsUptoCard : Claim7 := { stood := { row := rxJoinsUptoRow, standIns := [], harness := (true, "bd94981464bff2b1d3d3b805528f90a2f8dc1a79ef197959f364b6575348ac9a"), looks := true }, kinds := [], alts := [], laidByText := true, laidKinds := [.data, .pinned], laidTests := true, laidLooks := .later }
def RxJoinsUptoCardSaid : Prop := Claim7.holds Tryd.pinned (.plain (OpenSpec.upto rxJoinsSpec)) rxJoinsUptoCard

/-- THE SECOND FORM's CARD OF 'thresherlaw09.RxLiteral'. -/
def rxLiteralUptoCard : Claim7 := { stood := { row := rxLiteralUptoRow, standIns := [], harness := (true, "bd94981464bff2b1d3d3b805528f90a2f8dc1a79ef197959f364b6575348ac9a"), looks := true }, kinds := [], alts := [], laidByText := true, laidKinds := [.data, .pinned], laidTests := true, laidLooks := .later }
def RxLiteralUptoCardSaid : Prop := Claim7.holds Tryd.pinned (.plain (OpenSpec.upto rxLiteralSpec)) rxLiteralUptoCard

/-- THE SECOND FORM's CARD OF 'thresherlaw09.RxRepeats'. -/
def rxRepeatsUptoCard : Claim7 := { stood := { row := rxRepeatsUptoRow, standIns := [], harness := (true, "bd94981464bff2b1d3d3b805528f90a2f8dc1a79ef197959f364b6575348ac9a"), looks := true }, kinds := [], alts := [], laidByText := true, laidKinds := [.data, .pinned], laidTests := true, laidLooks := .later }
def RxRepeatsUptoCardSaid : Prop := Claim7.holds Tryd.pinned (.plain (OpenSpec.upto rxRepeatsSpec)) rxRepeatsUptoCard
end Rows
end Go.Proofs.YtmfcofiihopbfaaDoor
