/- The walk of the law FormatParses. -/
import Derived.Test.YtmceakbjholjpaaGreatDoorPFmtPc
import Derived.Test.YtmceakbjholjpaaGreatDoorPFmtPe
import Derived.Test.YtmceakbjholjpaaGreatDoorQft1
import Derived.Test.YtmceakbjholjpaaGreatDoorQft2
import Derived.Test.YtmceakbjholjpaaGreatDoorQft3
import Derived.Test.YtmceakbjholjpaaGreatDoorQft4
import Derived.Test.YtmceakbjholjpaaGreatDoorQft5
import Derived.Test.YtmceakbjholjpaaGreatDoorQft6
import Derived.Test.YtmceakbjholjpaaGreatDoorQft7
import Derived.Test.YtmceakbjholjpaaGreatDoorQft8
import Derived.Test.YtmceakbjholjpaaGreatDoorQft9
namespace Go.Proofs.YtmceakbjholjpaaGreatDoor
open Go.RowKit Go.Lib

theorem fmtParse_any (S : ByteArray) (z : Int) (w : World) (hS : S.size ≤ 4611686018427387904) :
    Calls Tryz.prog 15 #[.string S, .int .i64 z] w fun e w' => e = .returned (.tuple #[pcV ((parseF S z).getD pc0), .int .i64 (pErr (parseF S z))]) ∧ Below w.heap.size w w' := by
  by_cases h : 0 ≤ z ∧ z < (S.size : Int)
  · obtain ⟨k, rfl⟩ : ∃ k : Nat, z = (k : Int) := ⟨z.toNat, by omega⟩
    have hp : parseF S (k : Int) = partF S k := by unfold parseF; rw [if_pos h, Int.toNat_natCast]
    rw [hp]
    by_cases h37 : atB S k = 37
    · exact rparse_in S k w (by omega) hS h37 _ rfl
    · have hn : partF S k = none := by unfold partF; rw [if_neg h37]
      rw [hn]
      exact rparse_no S (k : Int) (atB S k) w (fun W => rat_nat S k W hS) h37
  · have hp : parseF S z = none := by unfold parseF; rw [if_neg h]
    rw [hp]
    by_cases h0 : z < 0
    · exact rparse_no S z 0 w (fun W => rat_neg S z W h0) (by decide)
    · obtain ⟨k, rfl⟩ : ∃ k : Nat, z = (k : Int) := ⟨z.toNat, by omega⟩
      have ha : atB S k = 0 := by unfold atB; rw [dif_neg (by omega)]
      exact rparse_no S (k : Int) (atB S k) w (fun W => rat_nat S k W hS) (by rw [ha]; decide)
set_option maxRecDepth 100000 in
set_option maxHeartbeats 8000000 in
theorem formatParses_any (S : ByteArray) (z : Int) (w : World) (hS : S.size ≤ 4611686018427387904) (hT : PowTab w) (hU : Utf8Tabs 4 5 w) :
    Calls Tryz.prog 3 #[.string S, .int .i64 z] w fun e w' => e = .returned (.bool true) ∧ Below w.heap.size w w' := by
  have cX := fun W => fparse_any S z W hS
  have cY := fun W => fmtParse_any S z W hS
  obtain ⟨E, hE⟩ : ∃ E, pErr (parseF S z) = E := ⟨_, rfl⟩
  obtain ⟨⟨m, p, b, a, q, wd, pr, c, sw, sp, nx⟩, hP⟩ : ∃ x, (parseF S z).getD pc0 = x := ⟨_, rfl⟩
  rw [hE, hP] at cX cY
  unfold pcV at cX cY
  simp only at cX cY
  have CX := Lib.hid cX
  have CY := Lib.hid cY
  have CF := Lib.hid (ffixed_any w hT hU)
  clear cX cY hE hP hT hU hS
  go_enter Tryz.func3, Tryz.ntmps3
  go_wp2_with fail
  refine CF.out.mono ?_
  rintro e W1 ⟨rfl, hB1⟩
  have HB1 := Lib.hid hB1
  clear hB1
  go_wp2_with fail
  refine (CX.out _).mono ?_
  rintro e W2 ⟨rfl, h2⟩
  have HB2 := Lib.hid (HB1.out.trans (h2.mono HB1.out.size))
  clear h2
  have FA := Lib.hid (Five.new W2 #[.bool m, .bool p, .bool b, .bool a, .bool q, .int .i64 wd, .int .i64 pr, .int .u8 (c : Int), .bool sw, .bool sp, .int .i64 (nx : Int)] 26)
  have HB3 := Lib.hid (HB2.out.alloc HB2.out.size (.cells #[.bool m, .bool p, .bool b, .bool a, .bool q, .int .i64 wd, .int .i64 pr, .int .u8 (c : Int), .bool sw, .bool sp, .int .i64 (nx : Int)] 26))
  obtain ⟨W3, hW3⟩ : ∃ W3, W2.alloc (.cells #[.bool m, .bool p, .bool b, .bool a, .bool q, .int .i64 wd, .int .i64 pr, .int .u8 (c : Int), .bool sw, .bool sp, .int .i64 (nx : Int)] 26) = W3 := ⟨_, rfl⟩
  obtain ⟨B, hB⟩ : ∃ B, W2.heap.size = B := ⟨_, rfl⟩
  rw [hW3] at FA HB3
  rw [hB] at FA
  have HW3 := Lib.hid hW3
  have HBB := Lib.hid hB
  clear hW3 hB
  go_wp2_with fail
  rw [HW3.out, HBB.out]
  refine (CY.out _).mono ?_
  rintro e W4 ⟨rfl, h4⟩
  have FA4 := Lib.hid (FA.out.below h4)
  have HB4 := Lib.hid (HB3.out.trans (h4.mono HB3.out.size))
  clear h4
  have FA5 := Lib.hid (FA4.out.alloc (.cells #[.bool m, .bool p, .bool b, .bool a, .bool q, .int .i64 wd, .int .i64 pr, .int .u8 (c : Int), .bool sw, .bool sp, .int .i64 (nx : Int)] 26))
  have FC5 := Lib.hid (Five.new W4 #[.bool m, .bool p, .bool b, .bool a, .bool q, .int .i64 wd, .int .i64 pr, .int .u8 (c : Int), .bool sw, .bool sp, .int .i64 (nx : Int)] 26)
  have hBf := HB4.out.alloc HB4.out.size (.cells #[.bool m, .bool p, .bool b, .bool a, .bool q, .int .i64 wd, .int .i64 pr, .int .u8 (c : Int), .bool sw, .bool sp, .int .i64 (nx : Int)] 26)
  obtain ⟨⟨i0, i1, i2, i3, i4, i5, i6, i7, i8, i9, i10⟩, -⟩ := FA5.out.eleven
  obtain ⟨⟨c0, c1, c2, c3, c4, c5, c6, c7, c8, c9, c10⟩, -⟩ := FC5.out.eleven
  go_wp2_with fail
  go_ret
  exact ⟨rfl, hBf⟩
end Go.Proofs.YtmceakbjholjpaaGreatDoor
