/- Part C of what the row of the law thresherlaw05.FormatWide tells of the program alone. -/
import Derived.Test.YtbbbdcohkfijoaaGreatDoorCards
import Derived.Test.YtbbbdcohkfijoaaGreatDoorTie
import Derived.WalkKit
import Derived.ProofKit
import Derived.OpenShut
import Derived.Deep.DeepHandedRow
import Derived.Deep.DeepWitnessRowRef
import Derived.Lib.LaidIn
import Derived.Lib.LaidU8
import Derived.Lib.SmallJoins
import Derived.PinnedBridge
import Derived.ShutString
import Derived.SizedLaws
import Derived.Lay
namespace Go.Proofs.YtbbbdcohkfijoaaGreatDoor.lawFormatWide
open Go.ChangeShapes Go.WideShapes Go.ChangeAt Go.RowKit Go.Joins
open Go.ChangeMaps (open_string shut_string)
theorem fact_rest (h1 : ((Rows.formatWideRow).inPlace == (Tryz.checked.prog).inPlace 4) = true) (h2 : ((Rows.formatWideRow).unfollowed == (Tryz.checked.prog).unfollowed 4) = true) (h3 : ((Rows.formatWideRow).recurses == (Tryz.checked.prog).recurses 4) = true) (h4 : ((Rows.formatWideRow).named == (Tryz.checked.prog).varsNamed 4) = true) : joinedFacts Tryz.checked.prog 4 Tryz.f4 (OpenSpec.ofChange Rows.formatWideSpec).bare Rows.formatWideRow = true := by
  unfold joinedFacts
  rw [h1, h2, h3, h4]
  clear h1 h2 h3 h4
  kernel_rfl
end Go.Proofs.YtbbbdcohkfijoaaGreatDoor.lawFormatWide
