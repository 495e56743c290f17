/-
  DERIVED. GIVEN WITH THE SEED: THE CARDS: each row of YtkjdmjglpbnmoaaDoorRows.lean that lists a variable, with what it lists TIED to the program's text (the seventh form; the later family's looks); each row that meets fmt, with fmt's text TOLD by the authors' own Lean function (tested against real Go, not proved from fmt's source: count such statements apart). THE CARD IS WHAT COUNTS. Prove the row's statement (the work); the ties are given (YtkjdmjglpbnmoaaDoorTie.lean); close each card by the builder's one call (the guide's Derived/Test/ToyasCard.lean, 'card_holds'). Laid BY PROGRAM, IN A SANDBOX (cutbox-door.mjs). By AI agents, Wed Nov 11 2026. No macro, syntax, notation, axiom, sorry.
-/
import Derived.Test.YtkjdmjglpbnmoaaDoorRows
import GoSem.ClaimSeven
namespace Go.Proofs.YtkjdmjglpbnmoaaDoor
namespace Rows

/-- THE TIED CARD OF 'thresherlaw03.DecBack'. -/
def decBackCard : Claim7 := { stood := { row := decBackRow, standIns := [], harness := (true, "93500f2f56b4d843d0083275c7754afdf36f0f5f772319aee19bf7eaeda2101a"), looks := false }, kinds := [], alts := [], laidByText := true, laidKinds := [.data, .pinned], laidTests := true, laidLooks := .later }
def DecBackCardSaid : Prop := Claim7.holds Tryd.pinned (.plain (OpenSpec.ofChange decBackSpec)) decBackCard

/-- THE TIED CARD OF 'thresherlaw03.DecRises'. -/
def decRisesCard : Claim7 := { stood := { row := decRisesRow, standIns := [], harness := (true, "93500f2f56b4d843d0083275c7754afdf36f0f5f772319aee19bf7eaeda2101a"), looks := false }, kinds := [], alts := [], laidByText := true, laidKinds := [.data, .pinned], laidTests := true, laidLooks := .later }
def DecRisesCardSaid : Prop := Claim7.holds Tryd.pinned (.plain (OpenSpec.ofChange decRisesSpec)) decRisesCard

/-- THE TIED CARD OF 'thresherlaw03.DecShort'. -/
def decShortCard : Claim7 := { stood := { row := decShortRow, standIns := [], harness := (true, "93500f2f56b4d843d0083275c7754afdf36f0f5f772319aee19bf7eaeda2101a"), looks := false }, kinds := [], alts := [], laidByText := true, laidKinds := [.data, .pinned], laidTests := true, laidLooks := .later }
def DecShortCardSaid : Prop := Claim7.holds Tryd.pinned (.plain (OpenSpec.ofChange decShortSpec)) decShortCard

/-- THE TIED CARD OF 'thresherlaw03.DecWhole'. -/
def decWholeCard : Claim7 := { stood := { row := decWholeRow, standIns := [], harness := (true, "93500f2f56b4d843d0083275c7754afdf36f0f5f772319aee19bf7eaeda2101a"), looks := false }, kinds := [], alts := [], laidByText := true, laidKinds := [.data, .pinned], laidTests := true, laidLooks := .later }
def DecWholeCardSaid : Prop := Claim7.holds Tryd.pinned (.plain (OpenSpec.ofChange decWholeSpec)) decWholeCard

/-- THE SECOND FORM's CARD OF 'thresherlaw03.DecBack'. -/
def decBackUptoCard : Claim7 := { stood := { row := decBackUptoRow, standIns := [], harness := (true, "93500f2f56b4d843d0083275c7754afdf36f0f5f772319aee19bf7eaeda2101a"), looks := false }, kinds := [], alts := [], laidByText := true, laidKinds := [.data, .pinned], laidTests := true, laidLooks := .later }
def DecBackUptoCardSaid : Prop := Claim7.holds Tryd.pinned (.plain (OpenSpec.upto decBackSpec)) decBackUptoCard

/-- THE SECOND FORM's CARD OF 'thresherlaw03.DecRises'. -/
def decRisesUptoCard : Claim7 := { stood := { row := decRisesUptoRow, standIns := [], harness := (true, "93500f2f56b4d843d0083275c7754afdf36f0f5f772319aee19bf7eaeda2101a"), looks := false }, kinds := [], alts := [], laidByText := true, laidKinds := [.data, .pinned], laidTests := true, laidLooks := .later }
def DecRisesUptoCardSaid : Prop := Claim7.holds Tryd.pinned (.plain (OpenSpec.upto decRisesSpec)) decRisesUptoCard

/-- THE SECOND FORM's CARD OF 'thresherlaw03.DecShort'. -/
def decShortUptoCard : Claim7 := { stood := { row := decShortUptoRow, standIns := [], harness := (true, "93500f2f56b4d843d0083275c7754afdf36f0f5f772319aee19bf7eaeda2101a"), looks := false }, kinds := [], alts := [], laidByText := true, laidKinds := [.data, .pinned], laidTests := true, laidLooks := .later }
def DecShortUptoCardSaid : Prop := Claim7.holds Tryd.pinned (.plain (OpenSpec.upto decShortSpec)) decShortUptoCard

/-- THE SECOND FORM's CARD OF 'thresherlaw03.DecWhole'. -/
def decWholeUptoCard : Claim7 := { stood := { row := decWholeUptoRow, standIns := [], harness := (true, "93500f2f56b4d843d0083275c7754afdf36f0f5f772319aee19bf7eaeda2101a"), looks := false }, kinds := [], alts := [], laidByText := true, laidKinds := [.data, .pinned], laidTests := true, laidLooks := .later }
def DecWholeUptoCardSaid : Prop := Claim7.holds Tryd.pinned (.plain (OpenSpec.upto decWholeSpec)) decWholeUptoCard
end Rows
end Go.Proofs.YtkjdmjglpbnmoaaDoor
