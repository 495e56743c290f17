/- Part C of what the row of the law thresherlaw11.PrintfJoins tells of the program alone. -/
import Derived.Test.YtddfigbpckhfbaaGreatDoorCards
import Derived.Test.YtddfigbpckhfbaaGreatDoorTie
import Derived.WalkKit
import Derived.ProofKit
import Derived.OpenShut
import Derived.Deep.DeepHandedRow
import Derived.Deep.DeepWitnessRowRef
import Derived.Lib.LaidIn
import Derived.Lib.LaidU8
import Derived.Lib.SmallJoins
import Derived.PinnedBridge
import Derived.ShutString
import Derived.SizedLaws
import Derived.Lay
import Derived.Carry
namespace Go.Proofs.YtddfigbpckhfbaaGreatDoor.lawPrintfJoins
open Go.ChangeShapes Go.WideShapes Go.ChangeAt Go.RowKit Go.Joins
open Go.ChangeMaps (open_string shut_string)
theorem fact_rest (h1 : ((Rows.printfJoinsUptoRow).inPlace == (Tryz.checked.prog).inPlace 6) = true) (h2 : ((Rows.printfJoinsUptoRow).unfollowed == (Tryz.checked.prog).unfollowed 6) = true) (h3 : ((Rows.printfJoinsUptoRow).recurses == (Tryz.checked.prog).recurses 6) = true) (h4 : ((Rows.printfJoinsUptoRow).named == (Tryz.checked.prog).varsNamed 6) = true) : joinedFacts Tryz.checked.prog 6 Tryz.f6 (Rows.OpenSpec.upto Rows.printfJoinsSpec).bare Rows.printfJoinsUptoRow = true := by
  unfold joinedFacts
  rw [h1, h2, h3, h4]
  clear h1 h2 h3 h4
  kernel_rfl
end Go.Proofs.YtddfigbpckhfbaaGreatDoor.lawPrintfJoins
