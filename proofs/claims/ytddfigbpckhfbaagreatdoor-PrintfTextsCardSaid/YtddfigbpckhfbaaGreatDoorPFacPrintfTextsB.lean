/- Part B of what the row of the law thresherlaw11.PrintfTexts tells of the program alone. -/
import Derived.Test.YtddfigbpckhfbaaGreatDoorCards
import Derived.Test.YtddfigbpckhfbaaGreatDoorTie
import Derived.WalkKit
import Derived.ProofKit
import Derived.OpenShut
import Derived.Deep.DeepHandedRow
import Derived.Deep.DeepWitnessRowRef
import Derived.Lib.LaidIn
import Derived.Lib.LaidU8
import Derived.Lib.SmallJoins
import Derived.PinnedBridge
import Derived.ShutString
import Derived.SizedLaws
import Derived.Lay
namespace Go.Proofs.YtddfigbpckhfbaaGreatDoor.lawPrintfTexts
open Go.ChangeShapes Go.WideShapes Go.ChangeAt Go.RowKit Go.Joins
open Go.ChangeMaps (open_string shut_string)
theorem fact_3 : ((Rows.printfTextsRow).recurses == (Tryz.checked.prog).recurses 8) = true := by kernel_rfl
theorem fact_4 : ((Rows.printfTextsRow).named == (Tryz.checked.prog).varsNamed 8) = true := by kernel_rfl
end Go.Proofs.YtddfigbpckhfbaaGreatDoor.lawPrintfTexts
