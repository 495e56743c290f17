/- Part C of what the row of the law thresherlaw07.SortsKeys tells of the program alone. -/
import Derived.Test.YtbbbdcohkfijoaaGreatDoorCards
import Derived.Test.YtbbbdcohkfijoaaGreatDoorTie
import Derived.WalkKit
import Derived.ProofKit
import Derived.OpenShut
import Derived.Deep.DeepHandedRow
import Derived.Deep.DeepWitnessRowRef
import Derived.Lib.LaidIn
import Derived.Lib.LaidU8
import Derived.Lib.SmallJoins
import Derived.PinnedBridge
import Derived.ShutString
import Derived.SizedLaws
import Derived.Lay
import Derived.Carry
namespace Go.Proofs.YtbbbdcohkfijoaaGreatDoor.lawSortsKeys
open Go.ChangeShapes Go.WideShapes Go.ChangeAt Go.RowKit Go.Joins
open Go.ChangeMaps (open_string shut_string)
theorem fact_rest (h1 : ((Rows.sortsKeysRow).inPlace == (Tryz.checked.prog).inPlace 9) = true) (h2 : ((Rows.sortsKeysRow).unfollowed == (Tryz.checked.prog).unfollowed 9) = true) (h3 : ((Rows.sortsKeysRow).recurses == (Tryz.checked.prog).recurses 9) = true) (h4 : ((Rows.sortsKeysRow).named == (Tryz.checked.prog).varsNamed 9) = true) : joinedFacts Tryz.checked.prog 9 Tryz.f9 (OpenSpec.ofChange Rows.sortsKeysSpec).bare Rows.sortsKeysRow = true := by
  unfold joinedFacts
  rw [h1, h2, h3, h4]
  clear h1 h2 h3 h4
  kernel_rfl
end Go.Proofs.YtbbbdcohkfijoaaGreatDoor.lawSortsKeys
