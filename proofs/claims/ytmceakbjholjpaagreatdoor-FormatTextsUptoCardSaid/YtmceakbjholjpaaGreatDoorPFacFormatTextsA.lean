/- Part A of what the row of the law thresherlaw05.FormatTexts tells of the program alone. -/
import Derived.Test.YtmceakbjholjpaaGreatDoorCards
import Derived.Test.YtmceakbjholjpaaGreatDoorTie
import Derived.WalkKit
import Derived.ProofKit
import Derived.OpenShut
import Derived.Deep.DeepHandedRow
import Derived.Deep.DeepWitnessRowRef
import Derived.Lib.LaidIn
import Derived.Lib.LaidU8
import Derived.Lib.SmallJoins
import Derived.PinnedBridge
import Derived.ShutString
import Derived.SizedLaws
import Derived.Lay
namespace Go.Proofs.YtmceakbjholjpaaGreatDoor.lawFormatTexts
open Go.ChangeShapes Go.WideShapes Go.ChangeAt Go.RowKit Go.Joins
open Go.ChangeMaps (open_string shut_string)
theorem named_fact : Tryz.checked.prog.funcNamed Rows.formatTextsUptoRow.func = some 4 := by kernel_rfl
theorem fact_1 : ((Rows.formatTextsUptoRow).inPlace == (Tryz.checked.prog).inPlace 4) = true := by kernel_rfl
theorem fact_2 : ((Rows.formatTextsUptoRow).unfollowed == (Tryz.checked.prog).unfollowed 4) = true := by kernel_rfl
end Go.Proofs.YtmceakbjholjpaaGreatDoor.lawFormatTexts
