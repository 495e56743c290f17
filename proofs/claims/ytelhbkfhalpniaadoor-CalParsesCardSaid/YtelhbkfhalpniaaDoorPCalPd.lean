/- Contracts of layer 13's definition: Parse. -/
import Derived.Test.YtelhbkfhalpniaaDoorPCalPc
import Derived.Test.YtelhbkfhalpniaaDoorPCalU
import Derived.Deep.RegionHeld3
import Derived.Test.YtelhbkfhalpniaaDoorQt1
import Derived.Test.YtelhbkfhalpniaaDoorQt2
import Derived.Test.YtelhbkfhalpniaaDoorQt3
import Derived.Test.YtelhbkfhalpniaaDoorQt4
import Derived.Test.YtelhbkfhalpniaaDoorQt5
namespace Go.Proofs.YtelhbkfhalpniaaDoor
open Go.RowKit Go.Lib Go.Joins

set_option maxRecDepth 100000 in
theorem risBlank_any (c : UInt8) (w : World) : Calls Tryd.prog 18 #[.int .u8 (c.toNat : Nat)] w fun e w' => e = .returned (.bool (blkB c)) ∧ w = w' := by
  have key : ∀ n : Nat, n < 256 → (c.toNat = n ↔ c = n.toUInt8) := fun n hn => ⟨fun h => by rw [← h]; simp, fun h => by rw [h]; simp; omega⟩
  obtain ⟨z, hz⟩ : ∃ z, c.toNat = z := ⟨_, rfl⟩
  have hb : blkB c = (decide (z = 32) || decide (z = 9) || decide (z = 10)) := by
    unfold blkB
    have e : ∀ n : Nat, n < 256 → (c == n.toUInt8) = decide (z = n) := fun n hn => by
      rw [← hz]
      by_cases h : c.toNat = n
      · rw [decide_eq_true h, beq_iff_eq]; exact (key n hn).1 h
      · rw [decide_eq_false h, beq_eq_false_iff_ne]; exact fun e => h ((key n hn).2 e)
    rw [show (c == 32) = _ from e 32 (by omega), show (c == 9) = _ from e 9 (by omega), show (c == 10) = _ from e 10 (by omega)]
  rw [hb, hz]
  clear hb key hz
  rcases (by omega : z = 32 ∨ z = 9 ∨ z = 10 ∨ (z ≠ 32 ∧ z ≠ 9 ∧ z ≠ 10)) with rfl | rfl | rfl | ⟨h1, h2, h3⟩
  · go_enter Tryd.func18, Tryd.ntmps18
    go_wp2_with fail
    go_ret
    exact ⟨rfl, rfl⟩
  · go_enter Tryd.func18, Tryd.ntmps18
    go_wp2_with fail
    go_ret
    exact ⟨rfl, rfl⟩
  · go_enter Tryd.func18, Tryd.ntmps18
    go_wp2_with fail
    go_ret
    exact ⟨rfl, rfl⟩
  · rw [decide_eq_false h1, decide_eq_false h2, decide_eq_false h3]
    have e1 : ((z : Int) == 32) = false := by rw [beq_eq_false_iff_ne]; omega
    have e2 : ((z : Int) == 9) = false := by rw [beq_eq_false_iff_ne]; omega
    have e3 : ((z : Int) == 10) = false := by rw [beq_eq_false_iff_ne]; omega
    clear h1 h2 h3
    go_enter Tryd.func18, Tryd.ntmps18
    go_wp2_with fail
    go_ret
    exact ⟨rfl, rfl⟩
end Go.Proofs.YtelhbkfhalpniaaDoor
