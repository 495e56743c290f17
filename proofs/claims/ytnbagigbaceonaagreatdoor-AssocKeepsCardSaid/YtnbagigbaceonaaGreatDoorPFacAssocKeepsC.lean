/- Part C of what the row of the law thresherlaw08.AssocKeeps tells of the program alone. -/
import Derived.Test.YtnbagigbaceonaaGreatDoorCards
import Derived.Test.YtnbagigbaceonaaGreatDoorTie
import Derived.WalkKit
import Derived.ProofKit
import Derived.OpenShut
import Derived.Deep.DeepHandedRow
import Derived.Deep.DeepWitnessRowRef
import Derived.Lib.LaidIn
import Derived.Lib.LaidU8
import Derived.Lib.SmallJoins
import Derived.PinnedBridge
import Derived.ShutString
import Derived.SizedLaws
import Derived.Lay
namespace Go.Proofs.YtnbagigbaceonaaGreatDoor.lawAssocKeeps
open Go.ChangeShapes Go.WideShapes Go.ChangeAt Go.RowKit Go.Joins
open Go.ChangeMaps (open_string shut_string)
theorem fact_rest (h1 : ((Rows.assocKeepsRow).inPlace == (Tryz.checked.prog).inPlace 3) = true) (h2 : ((Rows.assocKeepsRow).unfollowed == (Tryz.checked.prog).unfollowed 3) = true) (h3 : ((Rows.assocKeepsRow).recurses == (Tryz.checked.prog).recurses 3) = true) (h4 : ((Rows.assocKeepsRow).named == (Tryz.checked.prog).varsNamed 3) = true) : joinedFacts Tryz.checked.prog 3 Tryz.f3 (OpenSpec.ofChange Rows.assocKeepsSpec).bare Rows.assocKeepsRow = true := by
  unfold joinedFacts
  rw [h1, h2, h3, h4]
  clear h1 h2 h3 h4
  kernel_rfl
end Go.Proofs.YtnbagigbaceonaaGreatDoor.lawAssocKeeps
