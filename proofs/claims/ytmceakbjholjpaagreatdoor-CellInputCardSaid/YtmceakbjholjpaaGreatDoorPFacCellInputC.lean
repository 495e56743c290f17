/- Part C of what the row of the law thresherlaw06.CellInput tells of the program alone. -/
import Derived.Test.YtmceakbjholjpaaGreatDoorCards
import Derived.Test.YtmceakbjholjpaaGreatDoorTie
import Derived.WalkKit
import Derived.ProofKit
import Derived.OpenShut
import Derived.Deep.DeepHandedRow
import Derived.Deep.DeepWitnessRowRef
import Derived.Lib.LaidIn
import Derived.Lib.LaidU8
import Derived.Lib.SmallJoins
import Derived.PinnedBridge
import Derived.ShutString
import Derived.SizedLaws
import Derived.Lay
namespace Go.Proofs.YtmceakbjholjpaaGreatDoor.lawCellInput
open Go.ChangeShapes Go.WideShapes Go.ChangeAt Go.RowKit Go.Joins
open Go.ChangeMaps (open_string shut_string)
theorem fact_rest (h1 : ((Rows.cellInputRow).inPlace == (Tryz.checked.prog).inPlace 8) = true) (h2 : ((Rows.cellInputRow).unfollowed == (Tryz.checked.prog).unfollowed 8) = true) (h3 : ((Rows.cellInputRow).recurses == (Tryz.checked.prog).recurses 8) = true) (h4 : ((Rows.cellInputRow).named == (Tryz.checked.prog).varsNamed 8) = true) : joinedFacts Tryz.checked.prog 8 Tryz.f8 (OpenSpec.ofChange Rows.cellInputSpec).bare Rows.cellInputRow = true := by
  unfold joinedFacts
  rw [h1, h2, h3, h4]
  clear h1 h2 h3 h4
  kernel_rfl
end Go.Proofs.YtmceakbjholjpaaGreatDoor.lawCellInput
