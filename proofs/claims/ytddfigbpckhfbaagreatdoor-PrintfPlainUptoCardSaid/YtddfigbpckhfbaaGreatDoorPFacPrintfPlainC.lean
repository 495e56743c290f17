/- Part C of what the row of the law thresherlaw11.PrintfPlain tells of the program alone. -/
import Derived.Test.YtddfigbpckhfbaaGreatDoorCards
import Derived.Test.YtddfigbpckhfbaaGreatDoorTie
import Derived.WalkKit
import Derived.ProofKit
import Derived.OpenShut
import Derived.Deep.DeepHandedRow
import Derived.Deep.DeepWitnessRowRef
import Derived.Lib.LaidIn
import Derived.Lib.LaidU8
import Derived.Lib.SmallJoins
import Derived.PinnedBridge
import Derived.ShutString
import Derived.SizedLaws
import Derived.Lay
import Derived.Carry
namespace Go.Proofs.YtddfigbpckhfbaaGreatDoor.lawPrintfPlain
open Go.ChangeShapes Go.WideShapes Go.ChangeAt Go.RowKit Go.Joins
open Go.ChangeMaps (open_string shut_string)
theorem fact_rest (h1 : ((Rows.printfPlainUptoRow).inPlace == (Tryz.checked.prog).inPlace 7) = true) (h2 : ((Rows.printfPlainUptoRow).unfollowed == (Tryz.checked.prog).unfollowed 7) = true) (h3 : ((Rows.printfPlainUptoRow).recurses == (Tryz.checked.prog).recurses 7) = true) (h4 : ((Rows.printfPlainUptoRow).named == (Tryz.checked.prog).varsNamed 7) = true) : joinedFacts Tryz.checked.prog 7 Tryz.f7 (Rows.OpenSpec.upto Rows.printfPlainSpec).bare Rows.printfPlainUptoRow = true := by
  unfold joinedFacts
  rw [h1, h2, h3, h4]
  clear h1 h2 h3 h4
  kernel_rfl
end Go.Proofs.YtddfigbpckhfbaaGreatDoor.lawPrintfPlain
