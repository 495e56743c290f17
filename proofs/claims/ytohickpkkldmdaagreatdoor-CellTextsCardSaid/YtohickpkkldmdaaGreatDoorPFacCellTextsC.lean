/- Part C of what the row of the law thresherlaw06.CellTexts tells of the program alone. -/
import Derived.Test.YtohickpkkldmdaaGreatDoorCards
import Derived.Test.YtohickpkkldmdaaGreatDoorTie
import Derived.WalkKit
import Derived.ProofKit
import Derived.OpenShut
import Derived.Deep.DeepHandedRow
import Derived.Deep.DeepWitnessRowRef
import Derived.Lib.LaidIn
import Derived.Lib.LaidU8
import Derived.Lib.SmallJoins
import Derived.PinnedBridge
import Derived.ShutString
import Derived.SizedLaws
import Derived.Lay
import Derived.Test.YtohickpkkldmdaaGreatDoorPk13
namespace Go.Proofs.YtohickpkkldmdaaGreatDoor.lawCellTexts
open Go.ChangeShapes Go.WideShapes Go.ChangeAt Go.RowKit Go.Joins
open Go.ChangeMaps (open_string shut_string)
theorem fact_rest (h1 : ((Rows.cellTextsRow).inPlace == (Tryz.checked.prog).inPlace 13) = true) (h2 : ((Rows.cellTextsRow).unfollowed == (Tryz.checked.prog).unfollowed 13) = true) (h3 : ((Rows.cellTextsRow).recurses == (Tryz.checked.prog).recurses 13) = true) (h4 : ((Rows.cellTextsRow).named == (Tryz.checked.prog).varsNamed 13) = true) : joinedFacts Tryz.checked.prog 13 Tryz.f13 (OpenSpec.ofChange Rows.cellTextsSpec).bare Rows.cellTextsRow = true := by
  unfold joinedFacts
  rw [h1, h2, h3, h4]
  clear h1 h2 h3 h4
  kernel_rfl
end Go.Proofs.YtohickpkkldmdaaGreatDoor.lawCellTexts
