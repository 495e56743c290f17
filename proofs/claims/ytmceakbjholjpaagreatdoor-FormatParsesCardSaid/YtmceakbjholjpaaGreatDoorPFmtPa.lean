/- Contracts of the definition of layer 5: at, figure. -/
import Derived.Test.YtmceakbjholjpaaGreatDoorQft1
import Derived.Test.YtmceakbjholjpaaGreatDoorQft2
import Derived.Test.YtmceakbjholjpaaGreatDoorQft3
import Derived.Test.YtmceakbjholjpaaGreatDoorQft4
import Derived.Test.YtmceakbjholjpaaGreatDoorQft5
import Derived.Test.YtmceakbjholjpaaGreatDoorQft6
import Derived.Test.YtmceakbjholjpaaGreatDoorQft7
import Derived.Test.YtmceakbjholjpaaGreatDoorQft8
import Derived.Test.YtmceakbjholjpaaGreatDoorQft9
namespace Go.Proofs.YtmceakbjholjpaaGreatDoor
open Go.RowKit Go.Lib

set_option maxRecDepth 100000 in
theorem rat_nat (S : ByteArray) (k : Nat) (w : World) (_hS : S.size ≤ 4611686018427387904) : Calls Tryz.prog 42 #[.string S, .int .i64 (k : Int)] w fun e w' => e = .returned (.int .u8 (atB S k)) ∧ w = w' := by
  by_cases h : k < S.size
  · have e : atB S k = (S[k]'h).toNat := by unfold atB; rw [dif_pos h]
    rw [e]
    go_enter Tryz.func42, Tryz.ntmps42
    go_wp2_with fail
    go_ret
    exact ⟨rfl, rfl⟩
  · have e : atB S k = 0 := by unfold atB; rw [dif_neg h]
    rw [e]
    go_enter Tryz.func42, Tryz.ntmps42
    go_wp2_with fail
    go_ret
    exact ⟨rfl, rfl⟩
set_option maxRecDepth 100000 in
theorem rat_neg (S : ByteArray) (z : Int) (w : World) (h : z < 0) : Calls Tryz.prog 42 #[.string S, .int .i64 z] w fun e w' => e = .returned (.int .u8 0) ∧ w = w' := by
  go_enter Tryz.func42, Tryz.ntmps42
  go_wp2_with fail
  go_ret
  exact ⟨rfl, rfl⟩
/-- A star, or digits, by the definition: the number, whether it is a star, where it ends; -1: too many digits. -/
def figR (S : ByteArray) (k : Nat) : Int × Bool × Int := if atB S k = 42 then (0, true, ((k + 1 : Nat) : Int)) else if 5 < runP isDg S k (S.size - k) then (0, false, -1) else ((digV S k (runP isDg S k (S.size - k)) : Nat), false, ((k + runP isDg S k (S.size - k) : Nat) : Int))
set_option maxRecDepth 100000 in
set_option maxHeartbeats 4000000 in
theorem rfig_any (S : ByteArray) (k : Nat) (w : World) (hk : k ≤ S.size) (hS : S.size ≤ 4611686018427387904) :
    Calls Tryz.prog 44 #[.string S, .int .i64 (k : Int)] w fun e w' => e = .returned (.tuple #[.int .i64 (figR S k).1, .bool (figR S k).2.1, .int .i64 (figR S k).2.2]) ∧ w = w' := by
  have CA := Lib.hid (fun (j : Nat) W => rat_nat S j W hS)
  obtain ⟨R, hR⟩ : ∃ R, figR S k = R := ⟨_, rfl⟩
  rw [hR]
  have HR := Lib.hid hR
  clear hR
  by_cases hs : atB S k = 42
  · have CK := CA.out k
    rw [hs] at CK
    have hR2 : R = (0, true, ((k + 1 : Nat) : Int)) := by rw [← HR.out]; unfold figR; rw [if_pos hs]
    subst hR2
    have CK := Lib.hid CK
    have hwr : IntKind.i64.wrap ((k : Int) + 1) = (k : Int) + 1 := by rw [IntKind.wrap_i64]; omega
    clear hs CA HR
    go_enter Tryz.func44, Tryz.ntmps44
    go_wp2_with fail
    refine (CK.out _).mono ?_
    rintro e w' ⟨rfl, rfl⟩
    go_wp2_with fail
    exact bodyPost_ret (v := .tuple #[.int .i64 0, .bool true, .int .i64 ((k : Int) + 1)]) (by simp [results, Tryz.results44, go_sem]) rfl ⟨rfl, rfl⟩
  · have CK := CA.out k
    obtain ⟨x, hx⟩ : ∃ x, atB S k = x := ⟨_, rfl⟩
    rw [hx] at CK hs
    have ht : ((x : Int) == 42) = false := by rw [beq_eq_false_iff_ne]; omega
    have CK := Lib.hid CK
    have HX := Lib.hid hx
    have HS := Lib.hid hs
    clear hs hx
    go_enter Tryz.func44, Tryz.ntmps44
    go_wp2_with fail
    refine (CK.out _).mono ?_
    rintro e w' ⟨rfl, rfl⟩
    go_wp2_with fail
    clear ht
    go_loop [7, 8] (fun n i => ∃ j : Nat, k + j ≤ S.size ∧ i = .int .i64 ((k + j : Nat) : Int) ∧ n = .int .i64 (digV S k (min j 6) : Nat) ∧ ∀ i, i < j → isDg (atB S (k + i)) = true) (fun _ i => S.size - (RowKit.intOf i).toNat)
    case atStart => exact ⟨0, by omega, rfl, rfl, fun i h => by omega⟩
    case round =>
      obtain ⟨j, hj, rfl, rfl, hall⟩ := hrel
      have hlt := digV_lt (S := S) (k := k) (n := min j 6) (fun i hi => hall i (by omega))
      have hv : digV S k (min j 6) < 1000000 := Nat.lt_of_lt_of_le hlt (Nat.pow_le_pow_right (by omega) (Nat.min_le_right j 6))
      obtain ⟨d, hd⟩ : ∃ d, digV S k (min j 6) = d := ⟨_, rfl⟩
      rw [hd] at hv ⊢
      obtain ⟨m, hm⟩ : ∃ m, k + j = m := ⟨_, rfl⟩
      have CM := CA.out m
      obtain ⟨y, hy⟩ : ∃ y, atB S m = y := ⟨_, rfl⟩
      rw [hy] at CM
      rw [hm] at hj ⊢
      have CM := Lib.hid CM
      have HALL := Lib.hid hall
      have HD := Lib.hid hd
      have HM := Lib.hid hm
      have HY := Lib.hid hy
      clear hall hd hlt hm hy
      have g0 : (0 : Int) ≤ (d : Int) := by omega
      have g1 : (d : Int) ≤ 1000000 := by omega
      by_cases hdg : isDg y = true
      · have hxb : 48 ≤ y ∧ y ≤ 57 := by unfold isDg at hdg; simp only [Bool.and_eq_true, decide_eq_true_eq] at hdg; exact hdg
        have g2 : (48 : Int) ≤ (y : Int) := by omega
        have g3 : (y : Int) ≤ 57 := by omega
        have hlt2 : m < S.size := atB_size (by rw [HY.out]; omega)
        have hyS : (S[m]'hlt2).toNat = y := by
          have := HY.out
          unfold atB at this
          rw [dif_pos hlt2] at this
          exact this
        have HDG := Lib.hid hdg
        clear hdg hxb
        by_cases hj6 : j < 6
        · have hmk : (m : Int) - (k : Int) < 6 := by have := HM.out; omega
          have hmk0 : (0 : Int) ≤ (m : Int) - (k : Int) := by have := HM.out; omega
          have hnew : digV S k (min (j + 1) 6) = d * 10 + (y - 48) := by
            have e1 : min (j + 1) 6 = j + 1 := by omega
            have e2 : min j 6 = j := by omega
            have e3 := HD.out
            rw [e2] at e3
            rw [e1, digV, e3, HM.out, HY.out]
          have HN := Lib.hid hnew
          clear hnew
          go_wp2_with fail
          refine (CM.out _).mono ?_
          rintro e w' ⟨rfl, rfl⟩
          go_wp2_with fail
          refine (CM.out _).mono ?_
          rintro e w' ⟨rfl, rfl⟩
          go_wp2_with fail
          go_round
          case rel => exact ⟨j + 1, by have := HM.out; omega, by rw [← Nat.add_assoc, HM.out]; go_num, by rw [HN.out]; congr 1; omega, fun i hi => by
            rcases Nat.lt_or_ge i j with h2 | h2
            · exact HALL.out i h2
            · obtain rfl : i = j := by omega
              rw [HM.out, HY.out]; exact HDG.out⟩
          case measure => simp [RowKit.intOf]; omega
        · have hmk : ¬ (m : Int) - (k : Int) < 6 := by have := HM.out; omega
          have hmk0 : (0 : Int) ≤ (m : Int) - (k : Int) := by have := HM.out; omega
          have hnew : digV S k (min (j + 1) 6) = d := by
            have e1 : min (j + 1) 6 = min j 6 := by omega
            rw [e1]; exact HD.out
          have HN := Lib.hid hnew
          clear hnew
          go_wp2_with fail
          refine (CM.out _).mono ?_
          rintro e w' ⟨rfl, rfl⟩
          go_wp2_with fail
          refine (CM.out _).mono ?_
          rintro e w' ⟨rfl, rfl⟩
          go_wp2_with fail
          go_round
          case rel => exact ⟨j + 1, by have := HM.out; omega, by rw [← Nat.add_assoc, HM.out]; go_num, by rw [HN.out], fun i hi => by
            rcases Nat.lt_or_ge i j with h2 | h2
            · exact HALL.out i h2
            · obtain rfl : i = j := by omega
              rw [HM.out, HY.out]; exact HDG.out⟩
          case measure => simp [RowKit.intOf]; omega
      · have hd2 : isDg y = false := by rw [Bool.not_eq_true] at hdg; exact hdg
        have hrun : runP isDg S k (S.size - k) = j := run_end rfl (by rw [HM.out]; exact hj) HALL.out (by rw [HM.out, HY.out]; exact hd2)
        have hR3 : R = if 5 < j then (0, false, -1) else ((d : Int), false, (m : Int)) := by
          rw [← HR.out]
          unfold figR
          rw [HX.out, if_neg HS.out, hrun, HM.out]
          by_cases h5 : 5 < j
          · rw [if_pos h5, if_pos h5]
          · rw [if_neg h5, if_neg h5]
            have e3 := HD.out
            rw [show min j 6 = j by omega] at e3
            rw [e3]
        have hcase : y < 48 ∨ (48 ≤ y ∧ 57 < y) := by
          unfold isDg at hdg
          simp only [Bool.and_eq_true, decide_eq_true_eq] at hdg
          omega
        have hmk0 : (0 : Int) ≤ (m : Int) - (k : Int) := by have := HM.out; omega
        clear hdg hd2 hrun
        by_cases h5 : 5 < j
        · have hmk : (5 : Int) < (m : Int) - (k : Int) := by have := HM.out; omega
          rw [if_pos h5] at hR3
          subst hR3
          clear h5
          rcases hcase with h1 | ⟨h1, h2⟩
          · go_wp2_with fail
            refine (CM.out _).mono ?_
            rintro e w' ⟨rfl, rfl⟩
            go_wp2_with fail
            go_ret3
            exact ⟨rfl, rfl⟩
          · go_wp2_with fail
            refine (CM.out _).mono ?_
            rintro e w' ⟨rfl, rfl⟩
            go_wp2_with fail
            refine (CM.out _).mono ?_
            rintro e w' ⟨rfl, rfl⟩
            go_wp2_with fail
            go_ret3
            exact ⟨rfl, rfl⟩
        · have hmk : ¬ (5 : Int) < (m : Int) - (k : Int) := by have := HM.out; omega
          rw [if_neg h5] at hR3
          subst hR3
          clear h5
          rcases hcase with h1 | ⟨h1, h2⟩
          · go_wp2_with fail
            refine (CM.out _).mono ?_
            rintro e w' ⟨rfl, rfl⟩
            go_wp2_with fail
            go_ret3
            exact ⟨rfl, rfl⟩
          · go_wp2_with fail
            refine (CM.out _).mono ?_
            rintro e w' ⟨rfl, rfl⟩
            go_wp2_with fail
            refine (CM.out _).mono ?_
            rintro e w' ⟨rfl, rfl⟩
            go_wp2_with fail
            go_ret3
            exact ⟨rfl, rfl⟩
end Go.Proofs.YtmceakbjholjpaaGreatDoor
