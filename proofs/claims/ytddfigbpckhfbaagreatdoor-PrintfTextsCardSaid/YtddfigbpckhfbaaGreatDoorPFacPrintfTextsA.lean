/- Part A of what the row of the law thresherlaw11.PrintfTexts tells of the program alone. -/
import Derived.Test.YtddfigbpckhfbaaGreatDoorCards
import Derived.Test.YtddfigbpckhfbaaGreatDoorTie
import Derived.WalkKit
import Derived.ProofKit
import Derived.OpenShut
import Derived.Deep.DeepHandedRow
import Derived.Deep.DeepWitnessRowRef
import Derived.Lib.LaidIn
import Derived.Lib.LaidU8
import Derived.Lib.SmallJoins
import Derived.PinnedBridge
import Derived.ShutString
import Derived.SizedLaws
import Derived.Lay
namespace Go.Proofs.YtddfigbpckhfbaaGreatDoor.lawPrintfTexts
open Go.ChangeShapes Go.WideShapes Go.ChangeAt Go.RowKit Go.Joins
open Go.ChangeMaps (open_string shut_string)
theorem named_fact : Tryz.checked.prog.funcNamed Rows.printfTextsRow.func = some 8 := by kernel_rfl
theorem fact_1 : ((Rows.printfTextsRow).inPlace == (Tryz.checked.prog).inPlace 8) = true := by kernel_rfl
theorem fact_2 : ((Rows.printfTextsRow).unfollowed == (Tryz.checked.prog).unfollowed 8) = true := by kernel_rfl
end Go.Proofs.YtddfigbpckhfbaaGreatDoor.lawPrintfTexts
