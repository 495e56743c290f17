/- Part A of what the row of the law thresherlaw06.CellNames tells of the program alone. -/
import Derived.Test.YtohickpkkldmdaaGreatDoorCards
import Derived.Test.YtohickpkkldmdaaGreatDoorTie
import Derived.WalkKit
import Derived.ProofKit
import Derived.OpenShut
import Derived.Deep.DeepHandedRow
import Derived.Deep.DeepWitnessRowRef
import Derived.Lib.LaidIn
import Derived.Lib.LaidU8
import Derived.Lib.SmallJoins
import Derived.PinnedBridge
import Derived.ShutString
import Derived.SizedLaws
import Derived.Lay
import Derived.Test.YtohickpkkldmdaaGreatDoorPk13
namespace Go.Proofs.YtohickpkkldmdaaGreatDoor.lawCellNames
open Go.ChangeShapes Go.WideShapes Go.ChangeAt Go.RowKit Go.Joins
open Go.ChangeMaps (open_string shut_string)
theorem named_fact : Tryz.checked.prog.funcNamed Rows.cellNamesRow.func = some 9 := by kernel_rfl
theorem fact_1 : ((Rows.cellNamesRow).inPlace == (Tryz.checked.prog).inPlace 9) = true := by kernel_rfl
theorem fact_2 : ((Rows.cellNamesRow).unfollowed == (Tryz.checked.prog).unfollowed 9) = true := by kernel_rfl
end Go.Proofs.YtohickpkkldmdaaGreatDoor.lawCellNames
