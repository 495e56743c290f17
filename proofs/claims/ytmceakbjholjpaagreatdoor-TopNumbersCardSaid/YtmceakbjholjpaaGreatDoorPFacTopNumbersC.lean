/- Part C of what the row of the law threshertop.TopNumbers tells of the program alone. -/
import Derived.Test.YtmceakbjholjpaaGreatDoorCards
import Derived.Test.YtmceakbjholjpaaGreatDoorTie
import Derived.WalkKit
import Derived.ProofKit
import Derived.OpenShut
import Derived.Deep.DeepHandedRow
import Derived.Deep.DeepWitnessRowRef
import Derived.Lib.LaidIn
import Derived.Lib.LaidU8
import Derived.Lib.SmallJoins
import Derived.PinnedBridge
import Derived.ShutString
import Derived.SizedLaws
import Derived.Lay
namespace Go.Proofs.YtmceakbjholjpaaGreatDoor.lawTopNumbers
open Go.ChangeShapes Go.WideShapes Go.ChangeAt Go.RowKit Go.Joins
open Go.ChangeMaps (open_string shut_string)
theorem fact_rest (h1 : ((Rows.topNumbersRow).inPlace == (Tryz.checked.prog).inPlace 12) = true) (h2 : ((Rows.topNumbersRow).unfollowed == (Tryz.checked.prog).unfollowed 12) = true) (h3 : ((Rows.topNumbersRow).recurses == (Tryz.checked.prog).recurses 12) = true) (h4 : ((Rows.topNumbersRow).named == (Tryz.checked.prog).varsNamed 12) = true) : joinedFacts Tryz.checked.prog 12 Tryz.f12 (OpenSpec.ofChange Rows.topNumbersSpec).bare Rows.topNumbersRow = true := by
  unfold joinedFacts
  rw [h1, h2, h3, h4]
  clear h1 h2 h3 h4
  kernel_rfl
end Go.Proofs.YtmceakbjholjpaaGreatDoor.lawTopNumbers
