/- Contracts of the definition of layer 5: Parse, where no part begins. -/
import Derived.Test.YtmceakbjholjpaaGreatDoorPFmtPb
import Derived.Test.YtmceakbjholjpaaGreatDoorQft1
import Derived.Test.YtmceakbjholjpaaGreatDoorQft2
import Derived.Test.YtmceakbjholjpaaGreatDoorQft3
import Derived.Test.YtmceakbjholjpaaGreatDoorQft4
import Derived.Test.YtmceakbjholjpaaGreatDoorQft5
import Derived.Test.YtmceakbjholjpaaGreatDoorQft6
import Derived.Test.YtmceakbjholjpaaGreatDoorQft7
import Derived.Test.YtmceakbjholjpaaGreatDoorQft8
import Derived.Test.YtmceakbjholjpaaGreatDoorQft9
namespace Go.Proofs.YtmceakbjholjpaaGreatDoor
open Go.RowKit Go.Lib

set_option maxRecDepth 100000 in
set_option maxHeartbeats 8000000 in
theorem rparse_no (S : ByteArray) (z : Int) (x : Nat) (w : World) (hx : (∀ W, Calls Tryz.prog 42 #[.string S, .int .i64 z] W fun e w' => e = .returned (.int .u8 x) ∧ W = w')) (hx2 : x ≠ 37) :
    Calls Tryz.prog 15 #[.string S, .int .i64 z] w fun e w' => e = .returned (.tuple #[pcV pc0, .int .i64 50]) ∧ Below w.heap.size w w' := by
  have CX := Lib.hid hx
  have ht : ((x : Int) != 37) = true := by rw [bne_iff_ne]; omega
  have HF := Lib.hid (Five.new w zc 26)
  clear hx hx2
  obtain ⟨⟨c0, c1, c2, c3, c4, c5, c6, c7, c8, c9, c10⟩, d0, d1, d2, d3, d4, d5, d6, d7, d8, d9, d10⟩ := HF.out.eleven
  go_enter Tryz.func15, Tryz.ntmps15
  go_wp2_with fail
  refine (CX.out _).mono ?_
  rintro e w' ⟨rfl, rfl⟩
  go_wp2_with fail
  exact bodyPost_ret (v := .tuple #[.agg #[.bool false, .bool false, .bool false, .bool false, .bool false, .int .i64 0, .int .i64 0, .int .u8 0, .bool false, .bool false, .int .i64 0], .int .i64 50]) (by simp [results, Tryz.results15, go_sem, c0, c1, c2, c3, c4, c5, c6, c7, c8, c9, c10]) rfl ⟨rfl, (Below.refl _ _).alloc (Nat.le_refl _) _⟩
end Go.Proofs.YtmceakbjholjpaaGreatDoor
