/- Layer 1: the law UstrCase, walked. -/
import Derived.Test.YthlhlaolanemfaaDoorUstrX
namespace Go.Proofs.YthlhlaolanemfaaDoor
open Go.RowKit Go.Lib

set_option maxRecDepth 100000 in
set_option maxHeartbeats 1000000 in
theorem ustrCase_any (s : ByteArray) (c : Int) (b : Bool) (w : World) (hT : Utf8Tabs 0 1 w) (hs : s.size ≤ 1048576) :
    Calls Tryd.prog 7 #[.string s, .int .i64 c, .bool b] w fun e w' => e = .returned (.bool true) ∧ Below w.heap.size w w' := by
  have c0 := fixed_any w hT
  have c1 := fun (W : World) h => lower_any s b W (by omega) h
  have c2 := fun (W : World) => mapped_any s b false W hs
  have c3 := fun (W : World) h => upper_any s b W (by omega) h
  have c4 := fun (W : World) => mapped_any s b true W hs
  rw [show recB s b (mapZ false b) = recB s b (foldZ · b) from rfl] at c2
  rw [show recB s b (mapZ true b) = recB s b (raiseZ · b) from rfl] at c4
  have c5 := fun (W : World) => fold_any c b W
  have c6 := fun (W : World) => refFold_any c b W
  obtain ⟨L, hL⟩ : ∃ L, recB s b (foldZ · b) = L := ⟨_, rfl⟩
  obtain ⟨U, hU⟩ : ∃ U, recB s b (raiseZ · b) = U := ⟨_, rfl⟩
  obtain ⟨F, hF⟩ : ∃ F, foldZ c b = F := ⟨_, rfl⟩
  rw [hL] at c1 c2
  rw [hU] at c3 c4
  rw [hF] at c5 c6
  clear hL hU hF hs
  have C0 := Lib.hid c0; clear c0
  have C1 := Lib.hid c1; clear c1
  have C2 := Lib.hid c2; clear c2
  have C3 := Lib.hid c3; clear c3
  have C4 := Lib.hid c4; clear c4
  have C5 := Lib.hid c5; clear c5
  have C6 := Lib.hid c6; clear c6
  have HT := Lib.hid hT; clear hT
  go_enter Tryd.func7, Tryd.ntmps7
  go_wp2_with fail
  refine C0.out.mono ?_
  rintro e w1 ⟨rfl, hB1⟩
  have T1 := Lib.hid (tabs_below HT.out hB1 (Nat.le_refl _))
  go_wp2_with fail
  refine (C1.out _ T1.out).mono ?_
  rintro e w2 ⟨rfl, hb2⟩
  have hB2 := hB1.trans (hb2.mono hB1.size)
  clear hB1 hb2 T1
  go_wp2_with fail
  refine (C2.out _).mono ?_
  rintro e w3 ⟨rfl, hb3⟩
  have hB3 := hB2.trans (hb3.mono hB2.size)
  clear hB2 hb3
  have T3 := Lib.hid (tabs_below HT.out hB3 (Nat.le_refl _))
  go_wp2_with fail
  refine (C3.out _ T3.out).mono ?_
  rintro e w4 ⟨rfl, hb4⟩
  have hB4 := hB3.trans (hb4.mono hB3.size)
  clear hB3 hb4 T3
  go_wp2_with fail
  refine (C4.out _).mono ?_
  rintro e w5 ⟨rfl, hb5⟩
  have hB5 := hB4.trans (hb5.mono hB4.size)
  clear hB4 hb5
  go_wp2_with fail
  refine (C5.out _).mono ?_
  rintro e w' ⟨rfl, rfl⟩
  go_wp2_with fail
  refine (C6.out _).mono ?_
  rintro e w' ⟨rfl, rfl⟩
  go_wp2
  go_ret
  exact ⟨rfl, hB5⟩
end Go.Proofs.YthlhlaolanemfaaDoor
