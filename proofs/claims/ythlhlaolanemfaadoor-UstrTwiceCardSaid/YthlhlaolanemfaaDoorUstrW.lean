/- Layer 1: the law UstrTwice, walked. -/
import Derived.Test.YthlhlaolanemfaaDoorUstrV
import Derived.Test.YthlhlaolanemfaaDoorUstrK
namespace Go.Proofs.YthlhlaolanemfaaDoor
open Go.RowKit Go.Lib

set_option maxRecDepth 100000 in
set_option maxHeartbeats 1000000 in
theorem ustrTwice_any (s : ByteArray) (b : Bool) (w : World) (hT : Utf8Tabs 0 1 w) (hs : s.size ≤ 140737488355328) :
    Calls Tryd.prog 9 #[.string s, .bool b] w fun e w' => e = .returned (.bool true) ∧ Below w.heap.size w w' := by
  have hl : (recB s b (foldZ · b)).size = s.size := recB_size s b _ (keeps_fold s b)
  have hu : (recB s b (raiseZ · b)).size = s.size := recB_size s b _ (keeps_raise s b)
  have c0 := fixed_any w hT
  have c1 := fun (W : World) h => lower_any s b W hs h
  have c2 := fun (W : World) h => upper_any s b W hs h
  have c3 := fun (W : World) h => lower_any (recB s b (raiseZ · b)) b W (by omega) h
  have c4 := fun (W : World) h => lower_any (recB s b (foldZ · b)) b W (by omega) h
  have c5 := fun (W : World) h => upper_any (recB s b (foldZ · b)) b W (by omega) h
  have c6 := fun (W : World) h => upper_any (recB s b (raiseZ · b)) b W (by omega) h
  have c7 := fun (W : World) => len_any (recB s b (foldZ · b)) b W (by omega)
  have c8 := fun (W : World) => len_any s b W (by omega)
  rw [low_up, low_low] at c3
  rw [low_low] at c4
  rw [up_low] at c5
  rw [rec_cnt s b _ (let_fold b)] at c7
  obtain ⟨L, hL⟩ : ∃ L, recB s b (foldZ · b) = L := ⟨_, rfl⟩
  obtain ⟨U, hU⟩ : ∃ U, recB s b (raiseZ · b) = U := ⟨_, rfl⟩
  rw [hL] at hl c1 c3 c4 c5 c7
  rw [hU] at hu c2 c3 c5 c6
  obtain ⟨V, hV⟩ : ∃ V, recB U b (raiseZ · b) = V := ⟨_, rfl⟩
  rw [hV] at c5 c6
  obtain ⟨n, hn⟩ : ∃ n, cnt s b = n := ⟨_, rfl⟩
  rw [hn] at c7 c8
  clear hL hU hV hn hs
  have C0 := Lib.hid c0; clear c0
  have L1 := Lib.hid c1; clear c1
  have U0 := Lib.hid c2; clear c2
  have LU := Lib.hid c3; clear c3
  have LL := Lib.hid c4; clear c4
  have UL := Lib.hid c5; clear c5
  have UU := Lib.hid c6; clear c6
  have CL := Lib.hid c7; clear c7
  have CS := Lib.hid c8; clear c8
  have HT := Lib.hid hT; clear hT
  go_enter Tryd.func9, Tryd.ntmps9
  go_wp2_with fail
  refine C0.out.mono ?_
  rintro e w1 ⟨rfl, hB1⟩
  have T1 := Lib.hid (tabs_below HT.out hB1 (Nat.le_refl _))
  go_wp2_with fail
  refine (L1.out _ T1.out).mono ?_
  rintro e w2 ⟨rfl, hb2⟩
  have hB2 := hB1.trans (hb2.mono hB1.size)
  have T2 := Lib.hid (tabs_below HT.out hB2 (Nat.le_refl _))
  clear hb2 hB1 T1
  go_wp2_with fail
  refine (U0.out _ T2.out).mono ?_
  rintro e w3 ⟨rfl, hb3⟩
  have hB3 := hB2.trans (hb3.mono hB2.size)
  have T3 := Lib.hid (tabs_below HT.out hB3 (Nat.le_refl _))
  clear hb3 hB2 T2
  go_wp2_with fail
  refine (LU.out _ T3.out).mono ?_
  rintro e w4 ⟨rfl, hb4⟩
  have hB4 := hB3.trans (hb4.mono hB3.size)
  have T4 := Lib.hid (tabs_below HT.out hB4 (Nat.le_refl _))
  clear hb4 hB3 T3
  go_wp2_with fail
  refine (LL.out _ T4.out).mono ?_
  rintro e w5 ⟨rfl, hb5⟩
  have hB5 := hB4.trans (hb5.mono hB4.size)
  have T5 := Lib.hid (tabs_below HT.out hB5 (Nat.le_refl _))
  clear hb5 hB4 T4
  go_wp2_with fail
  refine (UL.out _ T5.out).mono ?_
  rintro e w6 ⟨rfl, hb6⟩
  have hB6 := hB5.trans (hb6.mono hB5.size)
  have T6 := Lib.hid (tabs_below HT.out hB6 (Nat.le_refl _))
  clear hb6 hB5 T5
  go_wp2_with fail
  refine (UU.out _ T6.out).mono ?_
  rintro e w7 ⟨rfl, hb7⟩
  have hB7 := hB6.trans (hb7.mono hB6.size)
  have T7 := Lib.hid (tabs_below HT.out hB7 (Nat.le_refl _))
  clear hb7 hB6 T6
  go_wp2_with fail
  refine (LL.out _ T7.out).mono ?_
  rintro e w8 ⟨rfl, hb8⟩
  have hB8 := hB7.trans (hb8.mono hB7.size)
  have T8 := Lib.hid (tabs_below HT.out hB8 (Nat.le_refl _))
  clear hb8 hB7 T7
  go_wp2_with fail
  refine (CL.out _).mono ?_
  rintro e w9 ⟨rfl, hb9⟩
  have hB9 := hB8.trans (hb9.mono hB8.size)
  have T9 := Lib.hid (tabs_below HT.out hB9 (Nat.le_refl _))
  clear hb9 hB8 T8
  go_wp2_with fail
  refine (CS.out _).mono ?_
  rintro e w10 ⟨rfl, hb10⟩
  have hB10 := hB9.trans (hb10.mono hB9.size)
  have T10 := Lib.hid (tabs_below HT.out hB10 (Nat.le_refl _))
  clear hb10 hB9 T9
  go_wp2
  go_ret
  exact ⟨rfl, hB10⟩
end Go.Proofs.YthlhlaolanemfaaDoor
