/- Part A of what the row of the law thresherlaw08.AssocLoops tells of the program alone. -/
import Derived.Test.YtnbagigbaceonaaGreatDoorCards
import Derived.Test.YtnbagigbaceonaaGreatDoorTie
import Derived.WalkKit
import Derived.ProofKit
import Derived.OpenShut
import Derived.Deep.DeepHandedRow
import Derived.Deep.DeepWitnessRowRef
import Derived.Lib.LaidIn
import Derived.Lib.LaidU8
import Derived.Lib.SmallJoins
import Derived.PinnedBridge
import Derived.ShutString
import Derived.SizedLaws
import Derived.Lay
namespace Go.Proofs.YtnbagigbaceonaaGreatDoor.lawAssocLoops
open Go.ChangeShapes Go.WideShapes Go.ChangeAt Go.RowKit Go.Joins
open Go.ChangeMaps (open_string shut_string)
theorem named_fact : Tryz.checked.prog.funcNamed Rows.assocLoopsRow.func = some 4 := by kernel_rfl
theorem fact_1 : ((Rows.assocLoopsRow).inPlace == (Tryz.checked.prog).inPlace 4) = true := by kernel_rfl
theorem fact_2 : ((Rows.assocLoopsRow).unfollowed == (Tryz.checked.prog).unfollowed 4) = true := by kernel_rfl
end Go.Proofs.YtnbagigbaceonaaGreatDoor.lawAssocLoops
