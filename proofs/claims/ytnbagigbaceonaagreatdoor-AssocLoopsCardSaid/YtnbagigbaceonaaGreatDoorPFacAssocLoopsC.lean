/- Part C of what the row of the law thresherlaw08.AssocLoops tells of the program alone. -/
import Derived.Test.YtnbagigbaceonaaGreatDoorCards
import Derived.Test.YtnbagigbaceonaaGreatDoorTie
import Derived.WalkKit
import Derived.ProofKit
import Derived.OpenShut
import Derived.Deep.DeepHandedRow
import Derived.Deep.DeepWitnessRowRef
import Derived.Lib.LaidIn
import Derived.Lib.LaidU8
import Derived.Lib.SmallJoins
import Derived.PinnedBridge
import Derived.ShutString
import Derived.SizedLaws
import Derived.Lay
namespace Go.Proofs.YtnbagigbaceonaaGreatDoor.lawAssocLoops
open Go.ChangeShapes Go.WideShapes Go.ChangeAt Go.RowKit Go.Joins
open Go.ChangeMaps (open_string shut_string)
theorem fact_rest (h1 : ((Rows.assocLoopsRow).inPlace == (Tryz.checked.prog).inPlace 4) = true) (h2 : ((Rows.assocLoopsRow).unfollowed == (Tryz.checked.prog).unfollowed 4) = true) (h3 : ((Rows.assocLoopsRow).recurses == (Tryz.checked.prog).recurses 4) = true) (h4 : ((Rows.assocLoopsRow).named == (Tryz.checked.prog).varsNamed 4) = true) : joinedFacts Tryz.checked.prog 4 Tryz.f4 (OpenSpec.ofChange Rows.assocLoopsSpec).bare Rows.assocLoopsRow = true := by
  unfold joinedFacts
  rw [h1, h2, h3, h4]
  clear h1 h2 h3 h4
  kernel_rfl
end Go.Proofs.YtnbagigbaceonaaGreatDoor.lawAssocLoops
