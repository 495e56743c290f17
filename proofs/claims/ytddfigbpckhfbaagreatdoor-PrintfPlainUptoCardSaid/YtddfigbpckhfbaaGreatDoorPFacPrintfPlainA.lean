/- Part A of what the row of the law thresherlaw11.PrintfPlain tells of the program alone. -/
import Derived.Test.YtddfigbpckhfbaaGreatDoorCards
import Derived.Test.YtddfigbpckhfbaaGreatDoorTie
import Derived.WalkKit
import Derived.ProofKit
import Derived.OpenShut
import Derived.Deep.DeepHandedRow
import Derived.Deep.DeepWitnessRowRef
import Derived.Lib.LaidIn
import Derived.Lib.LaidU8
import Derived.Lib.SmallJoins
import Derived.PinnedBridge
import Derived.ShutString
import Derived.SizedLaws
import Derived.Lay
import Derived.Carry
namespace Go.Proofs.YtddfigbpckhfbaaGreatDoor.lawPrintfPlain
open Go.ChangeShapes Go.WideShapes Go.ChangeAt Go.RowKit Go.Joins
open Go.ChangeMaps (open_string shut_string)
theorem named_fact : Tryz.checked.prog.funcNamed Rows.printfPlainUptoRow.func = some 7 := by kernel_rfl
theorem fact_1 : ((Rows.printfPlainUptoRow).inPlace == (Tryz.checked.prog).inPlace 7) = true := by kernel_rfl
theorem fact_2 : ((Rows.printfPlainUptoRow).unfollowed == (Tryz.checked.prog).unfollowed 7) = true := by kernel_rfl
end Go.Proofs.YtddfigbpckhfbaaGreatDoor.lawPrintfPlain
