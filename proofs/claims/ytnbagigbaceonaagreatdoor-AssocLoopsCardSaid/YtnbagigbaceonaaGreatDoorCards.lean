/-
  DERIVED. GIVEN WITH THE SEED: THE CARDS: each row of YtnbagigbaceonaaGreatDoorRows.lean that lists a variable, with what it lists TIED to the program's text (the seventh form; the later family's looks); each row that meets fmt, with fmt's text TOLD by the authors' own Lean function (tested against real Go, not proved from fmt's source: count such statements apart). THE CARD IS WHAT COUNTS. Prove the row's statement (the work); the ties are given (YtnbagigbaceonaaGreatDoorTie.lean); close each card by the builder's one call (the guide's Derived/Test/ToyasCard.lean, 'card_holds'). Laid BY PROGRAM, IN A SANDBOX (cutbox-door.mjs). By AI agents, Wed Nov 11 2026. No macro, syntax, notation, axiom, sorry.
-/
import Derived.Test.YtnbagigbaceonaaGreatDoorRows
import GoSem.ClaimSeven
namespace Go.Proofs.YtnbagigbaceonaaGreatDoor
namespace Rows

/-- THE TIED CARD OF 'thresherlaw08.AssocKeeps'. -/
def assocKeepsCard : Claim7 := { stood := { row := assocKeepsRow, standIns := [], harness := (true, "119ee0b8d0c82b2eca15c128d7e2621d4b9f718fd7d080bb897cfd7d6ff994c3"), looks := true }, kinds := [], alts := [], laidByText := true, laidKinds := [.data, .data, .data, .data, .pinned, .pinned], laidTests := true, laidLooks := .later }
def AssocKeepsCardSaid : Prop := Claim7.holds Tryz.pinned (.plain (OpenSpec.ofChange assocKeepsSpec)) assocKeepsCard

/-- THE TIED CARD OF 'thresherlaw08.AssocLoops'. -/
def assocLoopsCard : Claim7 := { stood := { row := assocLoopsRow, standIns := [], harness := (true, "119ee0b8d0c82b2eca15c128d7e2621d4b9f718fd7d080bb897cfd7d6ff994c3"), looks := true }, kinds := [], alts := [], laidByText := true, laidKinds := [.data, .data, .data, .data, .pinned, .pinned], laidTests := true, laidLooks := .later }
def AssocLoopsCardSaid : Prop := Claim7.holds Tryz.pinned (.plain (OpenSpec.ofChange assocLoopsSpec)) assocLoopsCard

/-- THE SECOND FORM's CARD OF 'thresherlaw08.AssocKeeps'. -/
def assocKeepsUptoCard : Claim7 := { stood := { row := assocKeepsUptoRow, standIns := [], harness := (true, "119ee0b8d0c82b2eca15c128d7e2621d4b9f718fd7d080bb897cfd7d6ff994c3"), looks := true }, kinds := [], alts := [], laidByText := true, laidKinds := [.data, .data, .data, .data, .pinned, .pinned], laidTests := true, laidLooks := .later }
def AssocKeepsUptoCardSaid : Prop := Claim7.holds Tryz.pinned (.plain (OpenSpec.upto assocKeepsSpec)) assocKeepsUptoCard

/-- THE SECOND FORM's CARD OF 'thresherlaw08.AssocLoops'. -/
def assocLoopsUptoCard : Claim7 := { stood := { row := assocLoopsUptoRow, standIns := [], harness := (true, "119ee0b8d0c82b2eca15c128d7e2621d4b9f718fd7d080bb897cfd7d6ff994c3"), looks := true }, kinds := [], alts := [], laidByText := true, laidKinds := [.data, .data, .data, .data, .pinned, .pinned], laidTests := true, laidLooks := .later }
def AssocLoopsUptoCardSaid : Prop := Claim7.holds Tryz.pinned (.plain (OpenSpec.upto assocLoopsSpec)) assocLoopsUptoCard
end Rows
end Go.Proofs.YtnbagigbaceonaaGreatDoor
