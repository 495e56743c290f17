/- Part C of what the row of the law thresherlaw07.SortsTurned tells of the program alone. -/
import Derived.Test.YtbbbdcohkfijoaaGreatDoorCards
import Derived.Test.YtbbbdcohkfijoaaGreatDoorTie
import Derived.WalkKit
import Derived.ProofKit
import Derived.OpenShut
import Derived.Deep.DeepHandedRow
import Derived.Deep.DeepWitnessRowRef
import Derived.Lib.LaidIn
import Derived.Lib.LaidU8
import Derived.Lib.SmallJoins
import Derived.PinnedBridge
import Derived.ShutString
import Derived.SizedLaws
import Derived.Lay
import Derived.Carry
namespace Go.Proofs.YtbbbdcohkfijoaaGreatDoor.lawSortsTurned
open Go.ChangeShapes Go.WideShapes Go.ChangeAt Go.RowKit Go.Joins
open Go.ChangeMaps (open_string shut_string)
theorem fact_rest (h1 : ((Rows.sortsTurnedRow).inPlace == (Tryz.checked.prog).inPlace 8) = true) (h2 : ((Rows.sortsTurnedRow).unfollowed == (Tryz.checked.prog).unfollowed 8) = true) (h3 : ((Rows.sortsTurnedRow).recurses == (Tryz.checked.prog).recurses 8) = true) (h4 : ((Rows.sortsTurnedRow).named == (Tryz.checked.prog).varsNamed 8) = true) : joinedFacts Tryz.checked.prog 8 Tryz.f8 (OpenSpec.ofChange Rows.sortsTurnedSpec).bare Rows.sortsTurnedRow = true := by
  unfold joinedFacts
  rw [h1, h2, h3, h4]
  clear h1 h2 h3 h4
  kernel_rfl
end Go.Proofs.YtbbbdcohkfijoaaGreatDoor.lawSortsTurned
