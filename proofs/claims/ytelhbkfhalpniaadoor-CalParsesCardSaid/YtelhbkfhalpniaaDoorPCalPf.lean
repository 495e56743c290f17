/- The walk of the law CalParses. -/
import Derived.Test.YtelhbkfhalpniaaDoorPCalPe
import Derived.Test.YtelhbkfhalpniaaDoorPCalPg
import Derived.Test.YtelhbkfhalpniaaDoorQt1
import Derived.Test.YtelhbkfhalpniaaDoorQt2
import Derived.Test.YtelhbkfhalpniaaDoorQt3
import Derived.Test.YtelhbkfhalpniaaDoorQt4
import Derived.Test.YtelhbkfhalpniaaDoorQt5
namespace Go.Proofs.YtelhbkfhalpniaaDoor
open Go.RowKit Go.Lib Go.Joins

set_option maxRecDepth 100000 in
set_option maxHeartbeats 2000000 in
theorem calParses_any (S : ByteArray) (w : World) (hM : CalMem w) (hS : S.size ≤ 4611686018427387904) : Calls Tryd.prog 4 #[.string S] w fun e w' => e = .returned (.bool true) ∧ Below w.heap.size w w' := by
  have CF := Lib.hid (calFixed_any w hM)
  have HM := Lib.hid hM
  have C1 := Lib.hid (fun (W : World) (hW : CalMem W) => calParse_huge S W hW (by omega))
  have C2 := Lib.hid (fun (W : World) => cal_rparse_any S W (by omega))
  obtain ⟨Z, hZ⟩ : ∃ Z, parseZ S.data.toList = Z := ⟨_, rfl⟩
  rw [hZ] at C1 C2
  clear hM hZ
  go_enter Tryd.func4, Tryd.ntmps4
  go_wp2_with fail
  refine CF.out.mono ?_
  rintro e W2 ⟨rfl, h2⟩
  have HB := Lib.hid h2
  have HM2 := Lib.hid (HM.out.below h2 (Nat.le_refl _))
  clear h2
  go_wp2_with fail
  refine (C1.out _ HM2.out).mono ?_
  rintro e W3 ⟨rfl, h3⟩
  have HB := Lib.hid (first_bel HB.out h3)
  clear h3 HM2
  go_wp2_with fail
  refine (C2.out _).mono ?_
  rintro e W4 ⟨rfl, h4⟩
  have HB := Lib.hid (first_bel HB.out h4)
  clear h4
  go_wp2_with fail
  go_ret
  exact ⟨rfl, HB.out⟩
end Go.Proofs.YtelhbkfhalpniaaDoor
