/- Part C of what the row of the law thresherlaw05.FormatWhole tells of the program alone. -/
import Derived.Test.YtbbbdcohkfijoaaGreatDoorCards
import Derived.Test.YtbbbdcohkfijoaaGreatDoorTie
import Derived.WalkKit
import Derived.ProofKit
import Derived.OpenShut
import Derived.Deep.DeepHandedRow
import Derived.Deep.DeepWitnessRowRef
import Derived.Lib.LaidIn
import Derived.Lib.LaidU8
import Derived.Lib.SmallJoins
import Derived.PinnedBridge
import Derived.ShutString
import Derived.SizedLaws
import Derived.Lay
namespace Go.Proofs.YtbbbdcohkfijoaaGreatDoor.lawFormatWhole
open Go.ChangeShapes Go.WideShapes Go.ChangeAt Go.RowKit Go.Joins
open Go.ChangeMaps (open_string shut_string)
theorem fact_rest (h1 : ((Rows.formatWholeRow).inPlace == (Tryz.checked.prog).inPlace 5) = true) (h2 : ((Rows.formatWholeRow).unfollowed == (Tryz.checked.prog).unfollowed 5) = true) (h3 : ((Rows.formatWholeRow).recurses == (Tryz.checked.prog).recurses 5) = true) (h4 : ((Rows.formatWholeRow).named == (Tryz.checked.prog).varsNamed 5) = true) : joinedFacts Tryz.checked.prog 5 Tryz.f5 (OpenSpec.ofChange Rows.formatWholeSpec).bare Rows.formatWholeRow = true := by
  unfold joinedFacts
  rw [h1, h2, h3, h4]
  clear h1 h2 h3 h4
  kernel_rfl
end Go.Proofs.YtbbbdcohkfijoaaGreatDoor.lawFormatWhole
