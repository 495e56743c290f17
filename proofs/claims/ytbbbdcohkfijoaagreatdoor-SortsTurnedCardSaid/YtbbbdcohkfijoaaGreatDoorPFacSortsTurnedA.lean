/- Part A of what the row of the law thresherlaw07.SortsTurned tells of the program alone. -/
import Derived.Test.YtbbbdcohkfijoaaGreatDoorCards
import Derived.Test.YtbbbdcohkfijoaaGreatDoorTie
import Derived.WalkKit
import Derived.ProofKit
import Derived.OpenShut
import Derived.Deep.DeepHandedRow
import Derived.Deep.DeepWitnessRowRef
import Derived.Lib.LaidIn
import Derived.Lib.LaidU8
import Derived.Lib.SmallJoins
import Derived.PinnedBridge
import Derived.ShutString
import Derived.SizedLaws
import Derived.Lay
import Derived.Carry
namespace Go.Proofs.YtbbbdcohkfijoaaGreatDoor.lawSortsTurned
open Go.ChangeShapes Go.WideShapes Go.ChangeAt Go.RowKit Go.Joins
open Go.ChangeMaps (open_string shut_string)
theorem named_fact : Tryz.checked.prog.funcNamed Rows.sortsTurnedRow.func = some 8 := by kernel_rfl
theorem fact_1 : ((Rows.sortsTurnedRow).inPlace == (Tryz.checked.prog).inPlace 8) = true := by kernel_rfl
theorem fact_2 : ((Rows.sortsTurnedRow).unfollowed == (Tryz.checked.prog).unfollowed 8) = true := by kernel_rfl
end Go.Proofs.YtbbbdcohkfijoaaGreatDoor.lawSortsTurned
