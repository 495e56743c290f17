/- Layer 1: the document's example, and the laws UstrNames and UstrNext, walked. -/
import Derived.BigQuiet
import Derived.Deep.QuietTactic
import Derived.Test.YtaemijgfngdjlaaDoorUstrJ
namespace Go.Proofs.YtaemijgfngdjlaaDoor
open Go.RowKit Go.Lib Go.Shelf

def exS : ByteArray := ⟨#[97, 195, 169, 255]⟩
theorem ex_next1 : nextZ exS 1 false = (233, 2) := by kernel_rfl
theorem ex_next3 : nextZ exS 3 false = (1114367, 1) := by kernel_rfl
theorem ex_len : cnt exS false = 3 := by kernel_rfl
theorem ex_upper : recB exS false (raiseZ · false) = ⟨#[65, 195, 137, 255]⟩ := by kernel_rfl

set_option maxRecDepth 100000 in
set_option maxHeartbeats 400000 in
theorem fixed_any (w : World) (hT : Utf8Tabs 0 1 w) :
    Calls Tryd.prog 11 #[] w fun e w' => e = .returned (.bool true) ∧ Below w.heap.size w w' := by
  have n1 := next_any exS 1 false w hT (by decide)
  rw [ex_next1] at n1
  have n2 := fun (w1 : World) h => next_any exS 3 false w1 h (by decide)
  rw [ex_next3] at n2
  have n3 := fun (w1 : World) => len_any exS false w1 (by decide)
  rw [ex_len] at n3
  have n4 := fun (w1 : World) h => upper_any exS false w1 (by decide) h
  rw [ex_upper] at n4
  unfold exS at n1 n2 n3 n4
  have N1 := Lib.hid n1; clear n1
  have N2 := Lib.hid n2; clear n2
  have N3 := Lib.hid n3; clear n3
  have N4 := Lib.hid n4; clear n4
  have HT := Lib.hid hT; clear hT
  go_enter Tryd.func11, Tryd.ntmps11
  go_wp2_with fail
  refine N1.out.mono ?_
  rintro e w1 ⟨rfl, hb1⟩
  have T1 := Lib.hid (tabs_below HT.out hb1 (Nat.le_refl _))
  go_wp2_with fail
  refine (N2.out _ T1.out).mono ?_
  rintro e w2 ⟨rfl, hb2⟩
  have hB2 := hb1.trans (hb2.mono hb1.size)
  have T2 := Lib.hid (tabs_below HT.out hB2 (Nat.le_refl _))
  clear hb1 hb2 T1
  go_wp2_with fail
  refine (N3.out _).mono ?_
  rintro e w3 ⟨rfl, hb3⟩
  have hB3 := hB2.trans (hb3.mono hB2.size)
  have T3 := Lib.hid (tabs_below HT.out hB3 (Nat.le_refl _))
  clear hB2 hb3 T2
  go_wp2_with fail
  refine (N4.out _ T3.out).mono ?_
  rintro e w4 ⟨rfl, hb4⟩
  have hB4 := hB3.trans (hb4.mono hB3.size)
  clear hB3 hb4 T3
  go_wp2
  go_ret
  exact ⟨rfl, hB4⟩

set_option maxRecDepth 100000 in
set_option maxHeartbeats 400000 in
theorem ustrNames_any (w : World) (hT : Utf8Tabs 0 1 w) :
    Calls Tryd.prog 3 #[] w fun e w' => e = .returned (.bool true) ∧ Below w.heap.size w w' := by
  have HT := Lib.hid hT; clear hT
  go_enter Tryd.func3, Tryd.ntmps3
  go_wp2_with (go_at_call 11; refine (fixed_any _ HT.out).mono ?_; rintro e w' ⟨rfl, hb⟩)
  go_ret
  exact ⟨rfl, hb⟩

set_option maxRecDepth 100000 in
set_option maxHeartbeats 400000 in
theorem ustrNext_any (s : ByteArray) (i c : Int) (b : Bool) (w : World) (hT : Utf8Tabs 0 1 w) (hs : s.size ≤ 9223372036854775807) (hc : -9223372036854775808 ≤ c ∧ c ≤ 9223372036854775807) :
    Calls Tryd.prog 4 #[.agg #[.string s, .int .i64 i, .int .i64 c, .bool b]] w fun e w' => e = .returned (.bool true) ∧ Below w.heap.size w w' := by
  have hT0 : Utf8Tabs 0 1 (w.alloc (.cells #[.string s, .int .i64 i, .int .i64 c, .bool b] 24)) := tabs_below hT ((Below.refl _ _).alloc (Nat.le_refl _) _) (Nat.le_refl _)
  have F := Lib.hid (fixed_any _ hT0); clear hT0
  have HT := Lib.hid hT; clear hT
  go_enter Tryd.func4, Tryd.ntmps4
  go_wp2_with fail
  refine F.out.mono ?_
  rintro e w1 ⟨rfl, hb1⟩
  have hB1 : Below w.heap.size w w1 := ((Below.refl w.heap.size w).alloc (Nat.le_refl _) _).trans (hb1.mono (by simp))
  have hc0 : ∀ j v, #[Value.string s, .int .i64 i, .int .i64 c, .bool b][j]? = some v → w1.cell? ⟨w.heap.size, j, none⟩ = some v := fun j v h => by
    rw [hb1.cell (p := ⟨w.heap.size, j, none⟩) (by simp), World.cell?_alloc_new]; exact h
  have c0 := hc0 0 _ rfl
  have c1 := hc0 1 _ rfl
  have c2 := hc0 2 _ rfl
  have c3 := hc0 3 _ rfl
  clear hb1 hc0 F
  go_wp2
  go_quiet (fail)
  have hB2 : Below w.heap.size w (w1.drewN nq) := below_drewN hB1 _
  have T2 := Lib.hid (tabs_below HT.out hB2 (Nat.le_refl _))
  clear c0 c1 c2 c3 hB1
  obtain ⟨q, hq⟩ : ∃ q, nextZ s i b = q := ⟨_, rfl⟩
  have n1 := fun (w1 : World) h => next_any s i b w1 h hs
  have n2 := fun (w1 : World) => refNext_any s i b w1 hs
  rw [hq] at n1 n2
  clear hq
  obtain ⟨C, N⟩ := q
  have N1 := Lib.hid n1; clear n1
  have N2 := Lib.hid n2; clear n2
  go_wp2_with fail
  refine (N1.out _ T2.out).mono ?_
  rintro e w3 ⟨rfl, hb3⟩
  have hB3 := hB2.trans (hb3.mono hB2.size)
  clear hb3 hB2 T2
  go_wp2_with fail
  refine (N2.out _).mono ?_
  rintro e w' ⟨rfl, rfl⟩
  go_wp2_with fail
  refine (text_any _ _ hc).mono ?_
  rintro e w4 ⟨rfl, hb4⟩
  have hB4 := hB3.trans (hb4.mono hB3.size)
  clear hb4 hB3
  go_wp2_with fail
  refine (refText_any _ _).mono ?_
  rintro e w5 ⟨rfl, hb5⟩
  have hB5 := hB4.trans (hb5.mono hB4.size)
  clear hb5 hB4
  go_wp2
  go_ret
  exact ⟨rfl, hB5⟩
end Go.Proofs.YtaemijgfngdjlaaDoor
