/- Part C of what the row of the law thresherlaw06.CellNames tells of the program alone. -/
import Derived.Test.YtohickpkkldmdaaGreatDoorCards
import Derived.Test.YtohickpkkldmdaaGreatDoorTie
import Derived.WalkKit
import Derived.ProofKit
import Derived.OpenShut
import Derived.Deep.DeepHandedRow
import Derived.Deep.DeepWitnessRowRef
import Derived.Lib.LaidIn
import Derived.Lib.LaidU8
import Derived.Lib.SmallJoins
import Derived.PinnedBridge
import Derived.ShutString
import Derived.SizedLaws
import Derived.Lay
import Derived.Test.YtohickpkkldmdaaGreatDoorPk13
namespace Go.Proofs.YtohickpkkldmdaaGreatDoor.lawCellNames
open Go.ChangeShapes Go.WideShapes Go.ChangeAt Go.RowKit Go.Joins
open Go.ChangeMaps (open_string shut_string)
theorem fact_rest (h1 : ((Rows.cellNamesRow).inPlace == (Tryz.checked.prog).inPlace 9) = true) (h2 : ((Rows.cellNamesRow).unfollowed == (Tryz.checked.prog).unfollowed 9) = true) (h3 : ((Rows.cellNamesRow).recurses == (Tryz.checked.prog).recurses 9) = true) (h4 : ((Rows.cellNamesRow).named == (Tryz.checked.prog).varsNamed 9) = true) : joinedFacts Tryz.checked.prog 9 Tryz.f9 (OpenSpec.ofChange Rows.cellNamesSpec).bare Rows.cellNamesRow = true := by
  unfold joinedFacts
  rw [h1, h2, h3, h4]
  clear h1 h2 h3 h4
  kernel_rfl
end Go.Proofs.YtohickpkkldmdaaGreatDoor.lawCellNames
