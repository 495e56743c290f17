/- Several texts in one (Contracts of layer 1: 'size' of the definition; Contracts of layer 1: the character at a place of a string, in the program (Next) and in the definition (size, Next); Contracts of layer 1: Next, in the program and in the definition; Plain arithmetic of layer 1: the places at which the characters of a string begin; Contracts of layer 1: All, the iterator over a string's characters; Contracts of layer 1: Len, recase, Lower, Upper; Contracts of layer 1: recase; Contracts of layer 1: Starts, Len, Place, Sub of the definition; Plain: a whole number's pieces by a verb of those; what Number answers; widths; Contracts of layer 5: digits in bases of eight and sixteen). -/
import Derived.Test.YtbbbdcohkfijoaaGreatDoorRows
import Derived.WalkKit
import Derived.WalkSpells
import Derived.WalkLawsBesides
import Derived.Lib.Hide
import Derived.Test.YtbbbdcohkfijoaaGreatDoorShelf
import Derived.Lib.RuneCountTail
import Derived.Lib.RuneCount
import Derived.RangeFuncNested
import Derived.RangeFuncBound
import Derived.RangeFuncCalls
import Derived.RangeFuncLeaves
import Derived.Shelf.Abstract
import Derived.Shelf.RegionOpen
import Derived.OwnWalkIn
import Derived.TacticsInMore
import Derived.LoopNIn
import Derived.LoopIn
import Derived.Lib.LazyBuf
import Derived.Deep.Upon
import Derived.WalkSmall
import Derived.BigQuiet
import Derived.Deep.QuietTactic
import Derived.Test.YtbbbdcohkfijoaaGreatDoorQfw3
import Derived.Test.YtbbbdcohkfijoaaGreatDoorQfw5
import Derived.Test.YtbbbdcohkfijoaaGreatDoorQfw6
import Derived.Test.YtbbbdcohkfijoaaGreatDoorQfw7
namespace Go.Proofs.YtbbbdcohkfijoaaGreatDoor
open Go.RowKit Go.Lib

set_option maxRecDepth 100000 in
set_option maxHeartbeats 1000000 in
theorem size_2 (s : ByteArray) (w : World) (hl : 2 ≤ s.size) (hs : s.size ≤ 9223372036854775807) (h1 : 194 ≤ (s.get! 0).toNat) (h2 : (s.get! 0).toNat ≤ 223) :
    Calls Tryz.prog 204 #[.string s] w fun e w' => e = .returned (.tuple #[.int .i64 (runN s 2 ((s.get! 0).toNat % 32) 128).1, .int .i64 (runN s 2 ((s.get! 0).toNat % 32) 128).2]) ∧ w = w' := by
  have g0 := get!_lt s 0 (by omega)
  have c1 : 194 ≤ (s[0].toNat : Int) := by rw [g0]; omega
  have c2 : (s[0].toNat : Int) ≤ 223 := by rw [g0]; omega
  obtain ⟨r0, hr0⟩ : ∃ r0, (s.get! 0).toNat % 32 = r0 := ⟨_, rfl⟩
  have hr1 : r0 < 32 := by omega
  rw [hr0]
  obtain ⟨R, hR⟩ : ∃ R, runN s 2 r0 128 = R := ⟨_, rfl⟩
  rw [hR]
  have G0 := Lib.hid g0; clear g0
  have B0 := Lib.hid hr0; clear hr0
  have HR := Lib.hid hR; clear hR
  go_enter Tryz.func204, Tryz.ntmps204
  go_wp2
  go_loop [6, 8, 9] (fun r i _ => ∃ k : Nat, k + 1 ≤ 2 ∧ i = .int .i64 (k + 1 : Nat) ∧ r = .int .i64 (accN s r0 k) ∧ ∀ j, j < k → contN (s.get! (j + 1)).toNat = true) (fun _ i _ => 2 - (RowKit.intOf i).toNat)
  case atStart => exact ⟨0, by omega, rfl, by rw [show accN s r0 0 = r0 from rfl, ← B0.out, ← G0.out]; go_num, fun _ h => by omega⟩
  case round =>
    obtain ⟨k, hk, rfl, rfl, hall⟩ := hrel
    have hacc := accN_bd s r0 32 k hr1 hall
    obtain ⟨A, hA⟩ : ∃ A, accN s r0 k = A := ⟨_, rfl⟩
    have hA2 : A < 2097152 := by
      rw [hA] at hacc
      have h64 := Nat.mul_le_mul_left 32 (Nat.pow_le_pow_right (n := 64) (by omega) (show k ≤ 1 by omega))
      have e64 : 32 * 64 ^ 1 ≤ 2097152 := by decide
      omega
    clear hacc
    by_cases hlt : k + 1 < 2
    · have gk := get!_lt s (k + 1) (by omega)
      have HALL := Lib.hid hall; clear hall
      have hb : (s[k + 1].toNat : Int) < 256 := by rw [gk]; have := get!_lt256 s (k + 1); omega
      by_cases hc : contN (s.get! (k + 1)).toNat = true
      · have hc1 : 128 ≤ (s[k + 1].toNat : Int) := by rw [gk]; simp [contN] at hc; omega
        have hc2 : (s[k + 1].toNat : Int) ≤ 191 := by rw [gk]; simp [contN] at hc; omega
        have HC := Lib.hid hc; clear hc
        have GK := Lib.hid gk; clear gk
        rw [hA]
        have HA := Lib.hid hA; clear hA
        go_wp2
        go_round
        case rel =>
          refine ⟨k + 1, by omega, by go_num, ?_, fun j hj => ?_⟩
          · have e2 : accN s r0 (k + 1) = 64 * A + s[k + 1].toNat - 128 := by rw [← HA.out, GK.out]; rfl
            rw [e2]
            go_num
          · by_cases hjk : j < k
            · exact HALL.out j hjk
            · obtain rfl : j = k := by omega
              exact HC.out
        case measure => simp [RowKit.intOf]; omega
      · have hc' : contN (s.get! (k + 1)).toNat = false := by simpa using hc
        clear hc
        have hR := HR.out
        rw [runN_no s 2 r0 128 k hlt hc'] at hR
        subst hR
        have HR2 := HR; clear HR
        by_cases h128 : (s[k + 1].toNat : Int) < 128
        · have HC := Lib.hid hc'; clear hc'
          have GK := Lib.hid gk; clear gk
          rw [hA]; clear hA
          go_wp2
          go_ret2
          exact ⟨rfl, rfl⟩
        · have h191 : 191 < (s[k + 1].toNat : Int) := by rw [gk] at h128 ⊢; simp [contN] at hc'; omega
          have HC := Lib.hid hc'; clear hc'
          have GK := Lib.hid gk; clear gk
          rw [hA]; clear hA
          go_wp2
          go_ret2
          exact ⟨rfl, rfl⟩
    · have hkn : k + 1 = 2 := by omega
      have hR := HR.out
      rw [runN_yes s 2 r0 128 k hkn hall, hA] at hR
      clear hall HR
      rw [hA]; clear hA
      by_cases t1 : A < 128
      · rw [outN_no _ _ _ (.inl t1)] at hR; subst hR
        have HK := Lib.hid hkn; clear hkn
        go_wp2
        go_ret2
        exact ⟨rfl, rfl⟩
      by_cases t2 : 1114111 < A
      · rw [outN_no _ _ _ (.inr (.inl t2))] at hR; subst hR
        have HK := Lib.hid hkn; clear hkn
        go_wp2
        go_ret2
        exact ⟨rfl, rfl⟩
      by_cases t3 : 55296 ≤ A
      · by_cases t4 : A ≤ 57343
        · rw [outN_no _ _ _ (.inr (.inr ⟨t3, t4⟩))] at hR; subst hR
          have HK := Lib.hid hkn; clear hkn
          go_wp2
          go_ret2
          exact ⟨rfl, rfl⟩
        · rw [outN_yes _ _ _ (by omega)] at hR; subst hR
          have HK := Lib.hid hkn; clear hkn
          go_wp2
          go_ret2
          exact ⟨rfl, rfl⟩
      · rw [outN_yes _ _ _ (by omega)] at hR; subst hR
        have HK := Lib.hid hkn; clear hkn
        go_wp2
        go_ret2
        exact ⟨rfl, rfl⟩

set_option maxRecDepth 100000 in
set_option maxHeartbeats 1000000 in
theorem size_3 (s : ByteArray) (w : World) (hl : 3 ≤ s.size) (hs : s.size ≤ 9223372036854775807) (h1 : 224 ≤ (s.get! 0).toNat) (h2 : (s.get! 0).toNat ≤ 239) :
    Calls Tryz.prog 204 #[.string s] w fun e w' => e = .returned (.tuple #[.int .i64 (runN s 3 ((s.get! 0).toNat % 16) 2048).1, .int .i64 (runN s 3 ((s.get! 0).toNat % 16) 2048).2]) ∧ w = w' := by
  have g0 := get!_lt s 0 (by omega)
  have c1 : 224 ≤ (s[0].toNat : Int) := by rw [g0]; omega
  have c2 : (s[0].toNat : Int) ≤ 239 := by rw [g0]; omega
  obtain ⟨r0, hr0⟩ : ∃ r0, (s.get! 0).toNat % 16 = r0 := ⟨_, rfl⟩
  have hr1 : r0 < 16 := by omega
  rw [hr0]
  obtain ⟨R, hR⟩ : ∃ R, runN s 3 r0 2048 = R := ⟨_, rfl⟩
  rw [hR]
  have G0 := Lib.hid g0; clear g0
  have B0 := Lib.hid hr0; clear hr0
  have HR := Lib.hid hR; clear hR
  go_enter Tryz.func204, Tryz.ntmps204
  go_wp2
  go_loop [6, 8, 9] (fun r i _ => ∃ k : Nat, k + 1 ≤ 3 ∧ i = .int .i64 (k + 1 : Nat) ∧ r = .int .i64 (accN s r0 k) ∧ ∀ j, j < k → contN (s.get! (j + 1)).toNat = true) (fun _ i _ => 3 - (RowKit.intOf i).toNat)
  case atStart => exact ⟨0, by omega, rfl, by rw [show accN s r0 0 = r0 from rfl, ← B0.out, ← G0.out]; go_num, fun _ h => by omega⟩
  case round =>
    obtain ⟨k, hk, rfl, rfl, hall⟩ := hrel
    have hacc := accN_bd s r0 16 k hr1 hall
    obtain ⟨A, hA⟩ : ∃ A, accN s r0 k = A := ⟨_, rfl⟩
    have hA2 : A < 2097152 := by
      rw [hA] at hacc
      have h64 := Nat.mul_le_mul_left 16 (Nat.pow_le_pow_right (n := 64) (by omega) (show k ≤ 2 by omega))
      have e64 : 16 * 64 ^ 2 ≤ 2097152 := by decide
      omega
    clear hacc
    by_cases hlt : k + 1 < 3
    · have gk := get!_lt s (k + 1) (by omega)
      have HALL := Lib.hid hall; clear hall
      have hb : (s[k + 1].toNat : Int) < 256 := by rw [gk]; have := get!_lt256 s (k + 1); omega
      by_cases hc : contN (s.get! (k + 1)).toNat = true
      · have hc1 : 128 ≤ (s[k + 1].toNat : Int) := by rw [gk]; simp [contN] at hc; omega
        have hc2 : (s[k + 1].toNat : Int) ≤ 191 := by rw [gk]; simp [contN] at hc; omega
        have HC := Lib.hid hc; clear hc
        have GK := Lib.hid gk; clear gk
        rw [hA]
        have HA := Lib.hid hA; clear hA
        go_wp2
        go_round
        case rel =>
          refine ⟨k + 1, by omega, by go_num, ?_, fun j hj => ?_⟩
          · have e2 : accN s r0 (k + 1) = 64 * A + s[k + 1].toNat - 128 := by rw [← HA.out, GK.out]; rfl
            rw [e2]
            go_num
          · by_cases hjk : j < k
            · exact HALL.out j hjk
            · obtain rfl : j = k := by omega
              exact HC.out
        case measure => simp [RowKit.intOf]; omega
      · have hc' : contN (s.get! (k + 1)).toNat = false := by simpa using hc
        clear hc
        have hR := HR.out
        rw [runN_no s 3 r0 2048 k hlt hc'] at hR
        subst hR
        have HR2 := HR; clear HR
        by_cases h128 : (s[k + 1].toNat : Int) < 128
        · have HC := Lib.hid hc'; clear hc'
          have GK := Lib.hid gk; clear gk
          rw [hA]; clear hA
          go_wp2
          go_ret2
          exact ⟨rfl, rfl⟩
        · have h191 : 191 < (s[k + 1].toNat : Int) := by rw [gk] at h128 ⊢; simp [contN] at hc'; omega
          have HC := Lib.hid hc'; clear hc'
          have GK := Lib.hid gk; clear gk
          rw [hA]; clear hA
          go_wp2
          go_ret2
          exact ⟨rfl, rfl⟩
    · have hkn : k + 1 = 3 := by omega
      have hR := HR.out
      rw [runN_yes s 3 r0 2048 k hkn hall, hA] at hR
      clear hall HR
      rw [hA]; clear hA
      by_cases t1 : A < 2048
      · rw [outN_no _ _ _ (.inl t1)] at hR; subst hR
        have HK := Lib.hid hkn; clear hkn
        go_wp2
        go_ret2
        exact ⟨rfl, rfl⟩
      by_cases t2 : 1114111 < A
      · rw [outN_no _ _ _ (.inr (.inl t2))] at hR; subst hR
        have HK := Lib.hid hkn; clear hkn
        go_wp2
        go_ret2
        exact ⟨rfl, rfl⟩
      by_cases t3 : 55296 ≤ A
      · by_cases t4 : A ≤ 57343
        · rw [outN_no _ _ _ (.inr (.inr ⟨t3, t4⟩))] at hR; subst hR
          have HK := Lib.hid hkn; clear hkn
          go_wp2
          go_ret2
          exact ⟨rfl, rfl⟩
        · rw [outN_yes _ _ _ (by omega)] at hR; subst hR
          have HK := Lib.hid hkn; clear hkn
          go_wp2
          go_ret2
          exact ⟨rfl, rfl⟩
      · rw [outN_yes _ _ _ (by omega)] at hR; subst hR
        have HK := Lib.hid hkn; clear hkn
        go_wp2
        go_ret2
        exact ⟨rfl, rfl⟩

set_option maxRecDepth 100000 in
set_option maxHeartbeats 1000000 in
theorem size_4 (s : ByteArray) (w : World) (hl : 4 ≤ s.size) (hs : s.size ≤ 9223372036854775807) (h1 : 240 ≤ (s.get! 0).toNat) (h2 : (s.get! 0).toNat ≤ 244) :
    Calls Tryz.prog 204 #[.string s] w fun e w' => e = .returned (.tuple #[.int .i64 (runN s 4 ((s.get! 0).toNat % 8) 65536).1, .int .i64 (runN s 4 ((s.get! 0).toNat % 8) 65536).2]) ∧ w = w' := by
  have g0 := get!_lt s 0 (by omega)
  have c1 : 240 ≤ (s[0].toNat : Int) := by rw [g0]; omega
  have c2 : (s[0].toNat : Int) ≤ 244 := by rw [g0]; omega
  obtain ⟨r0, hr0⟩ : ∃ r0, (s.get! 0).toNat % 8 = r0 := ⟨_, rfl⟩
  have hr1 : r0 < 8 := by omega
  rw [hr0]
  obtain ⟨R, hR⟩ : ∃ R, runN s 4 r0 65536 = R := ⟨_, rfl⟩
  rw [hR]
  have G0 := Lib.hid g0; clear g0
  have B0 := Lib.hid hr0; clear hr0
  have HR := Lib.hid hR; clear hR
  go_enter Tryz.func204, Tryz.ntmps204
  go_wp2
  go_loop [6, 8, 9] (fun r i _ => ∃ k : Nat, k + 1 ≤ 4 ∧ i = .int .i64 (k + 1 : Nat) ∧ r = .int .i64 (accN s r0 k) ∧ ∀ j, j < k → contN (s.get! (j + 1)).toNat = true) (fun _ i _ => 4 - (RowKit.intOf i).toNat)
  case atStart => exact ⟨0, by omega, rfl, by rw [show accN s r0 0 = r0 from rfl, ← B0.out, ← G0.out]; go_num, fun _ h => by omega⟩
  case round =>
    obtain ⟨k, hk, rfl, rfl, hall⟩ := hrel
    have hacc := accN_bd s r0 8 k hr1 hall
    obtain ⟨A, hA⟩ : ∃ A, accN s r0 k = A := ⟨_, rfl⟩
    have hA2 : A < 2097152 := by
      rw [hA] at hacc
      have h64 := Nat.mul_le_mul_left 8 (Nat.pow_le_pow_right (n := 64) (by omega) (show k ≤ 3 by omega))
      have e64 : 8 * 64 ^ 3 ≤ 2097152 := by decide
      omega
    clear hacc
    by_cases hlt : k + 1 < 4
    · have gk := get!_lt s (k + 1) (by omega)
      have HALL := Lib.hid hall; clear hall
      have hb : (s[k + 1].toNat : Int) < 256 := by rw [gk]; have := get!_lt256 s (k + 1); omega
      by_cases hc : contN (s.get! (k + 1)).toNat = true
      · have hc1 : 128 ≤ (s[k + 1].toNat : Int) := by rw [gk]; simp [contN] at hc; omega
        have hc2 : (s[k + 1].toNat : Int) ≤ 191 := by rw [gk]; simp [contN] at hc; omega
        have HC := Lib.hid hc; clear hc
        have GK := Lib.hid gk; clear gk
        rw [hA]
        have HA := Lib.hid hA; clear hA
        go_wp2
        go_round
        case rel =>
          refine ⟨k + 1, by omega, by go_num, ?_, fun j hj => ?_⟩
          · have e2 : accN s r0 (k + 1) = 64 * A + s[k + 1].toNat - 128 := by rw [← HA.out, GK.out]; rfl
            rw [e2]
            go_num
          · by_cases hjk : j < k
            · exact HALL.out j hjk
            · obtain rfl : j = k := by omega
              exact HC.out
        case measure => simp [RowKit.intOf]; omega
      · have hc' : contN (s.get! (k + 1)).toNat = false := by simpa using hc
        clear hc
        have hR := HR.out
        rw [runN_no s 4 r0 65536 k hlt hc'] at hR
        subst hR
        have HR2 := HR; clear HR
        by_cases h128 : (s[k + 1].toNat : Int) < 128
        · have HC := Lib.hid hc'; clear hc'
          have GK := Lib.hid gk; clear gk
          rw [hA]; clear hA
          go_wp2
          go_ret2
          exact ⟨rfl, rfl⟩
        · have h191 : 191 < (s[k + 1].toNat : Int) := by rw [gk] at h128 ⊢; simp [contN] at hc'; omega
          have HC := Lib.hid hc'; clear hc'
          have GK := Lib.hid gk; clear gk
          rw [hA]; clear hA
          go_wp2
          go_ret2
          exact ⟨rfl, rfl⟩
    · have hkn : k + 1 = 4 := by omega
      have hR := HR.out
      rw [runN_yes s 4 r0 65536 k hkn hall, hA] at hR
      clear hall HR
      rw [hA]; clear hA
      by_cases t1 : A < 65536
      · rw [outN_no _ _ _ (.inl t1)] at hR; subst hR
        have HK := Lib.hid hkn; clear hkn
        go_wp2
        go_ret2
        exact ⟨rfl, rfl⟩
      by_cases t2 : 1114111 < A
      · rw [outN_no _ _ _ (.inr (.inl t2))] at hR; subst hR
        have HK := Lib.hid hkn; clear hkn
        go_wp2
        go_ret2
        exact ⟨rfl, rfl⟩
      by_cases t3 : 55296 ≤ A
      · by_cases t4 : A ≤ 57343
        · exfalso; omega
        · rw [outN_yes _ _ _ (by omega)] at hR; subst hR
          have HK := Lib.hid hkn; clear hkn
          go_wp2
          go_ret2
          exact ⟨rfl, rfl⟩
      · exfalso; omega
end Go.Proofs.YtbbbdcohkfijoaaGreatDoor

namespace Go.Proofs.YtbbbdcohkfijoaaGreatDoor
open Go.RowKit Go.Lib

def sizS (s : ByteArray) : Nat × Nat := sizN s.size (s.get! 0).toNat (s.get! 1).toNat (s.get! 2).toNat (s.get! 3).toNat

set_option maxRecDepth 100000 in
set_option maxHeartbeats 1000000 in
theorem size_any (s : ByteArray) (w : World) (h0 : 0 < s.size) (hs : s.size ≤ 9223372036854775807) :
    Calls Tryz.prog 204 #[.string s] w fun e w' => e = .returned (.tuple #[.int .i64 (sizS s).1, .int .i64 (sizS s).2]) ∧ w = w' := by
  have g0 := get!_lt s 0 h0
  have b256 := get!_lt256 s 0
  obtain ⟨R, hR⟩ : ∃ R, sizS s = R := ⟨_, rfl⟩
  rw [hR]
  unfold sizS at hR
  by_cases c1 : (s.get! 0).toNat < 128
  · rw [siz_one _ _ _ _ _ c1] at hR
    subst hR
    have c1' : (s[0].toNat : Int) < 128 := by rw [g0]; omega
    have H := Lib.hid g0; clear g0
    go_enter Tryz.func204, Tryz.ntmps204
    go_wp2
    go_ret2
    exact ⟨by rw [H.out]; rfl, rfl⟩
  by_cases c2 : (s.get! 0).toNat ≤ 193
  · rw [siz_none _ _ _ _ _ (.inl ⟨by omega, c2⟩)] at hR
    subst hR
    have c1' : 128 ≤ (s[0].toNat : Int) := by rw [g0]; omega
    have c2' : (s[0].toNat : Int) ≤ 193 := by rw [g0]; omega
    have H := Lib.hid g0; clear g0
    go_enter Tryz.func204, Tryz.ntmps204
    go_wp2
    go_ret2
    exact ⟨rfl, rfl⟩
  by_cases c3 : (s.get! 0).toNat ≤ 223
  · by_cases hl : 2 ≤ s.size
    · rw [← run2_eq _ _ _ _ _ hl ⟨by omega, c3⟩, ← runN_2] at hR
      rw [← hR]
      exact size_2 s w hl hs (by omega) c3
    · rw [siz_none _ _ _ _ _ (.inr (.inr (.inl ⟨by omega, c3, by omega⟩)))] at hR
      subst hR
      have c1' : 194 ≤ (s[0].toNat : Int) := by rw [g0]; omega
      have c2' : (s[0].toNat : Int) ≤ 223 := by rw [g0]; omega
      have hl' : (s.size : Int) < 2 := by omega
      have H := Lib.hid g0; clear g0
      go_enter Tryz.func204, Tryz.ntmps204
      go_wp2
      go_ret2
      exact ⟨rfl, rfl⟩
  by_cases c4 : (s.get! 0).toNat ≤ 239
  · by_cases hl : 3 ≤ s.size
    · rw [← run3_eq _ _ _ _ _ hl ⟨by omega, c4⟩, ← runN_3] at hR
      rw [← hR]
      exact size_3 s w hl hs (by omega) c4
    · rw [siz_none _ _ _ _ _ (.inr (.inr (.inr (.inl ⟨by omega, c4, by omega⟩))))] at hR
      subst hR
      have c1' : 224 ≤ (s[0].toNat : Int) := by rw [g0]; omega
      have c2' : (s[0].toNat : Int) ≤ 239 := by rw [g0]; omega
      have hl' : (s.size : Int) < 3 := by omega
      have H := Lib.hid g0; clear g0
      go_enter Tryz.func204, Tryz.ntmps204
      go_wp2
      go_ret2
      exact ⟨rfl, rfl⟩
  by_cases c5 : (s.get! 0).toNat ≤ 244
  · by_cases hl : 4 ≤ s.size
    · rw [← run4_eq _ _ _ _ _ hl ⟨by omega, c5⟩, ← runN_4] at hR
      rw [← hR]
      exact size_4 s w hl hs (by omega) c5
    · rw [siz_none _ _ _ _ _ (.inr (.inr (.inr (.inr ⟨by omega, c5, by omega⟩))))] at hR
      subst hR
      have c1' : 240 ≤ (s[0].toNat : Int) := by rw [g0]; omega
      have c2' : (s[0].toNat : Int) ≤ 244 := by rw [g0]; omega
      have hl' : (s.size : Int) < 4 := by omega
      have H := Lib.hid g0; clear g0
      go_enter Tryz.func204, Tryz.ntmps204
      go_wp2
      go_ret2
      exact ⟨rfl, rfl⟩
  · rw [siz_none _ _ _ _ _ (.inr (.inl ⟨by omega, by omega⟩))] at hR
    subst hR
    have c1' : 245 ≤ (s[0].toNat : Int) := by rw [g0]; omega
    have c2' : (s[0].toNat : Int) < 256 := by rw [g0]; omega
    have H := Lib.hid g0; clear g0
    go_enter Tryz.func204, Tryz.ntmps204
    go_wp2
    go_ret2
    exact ⟨rfl, rfl⟩

/-- Past the ends of the string. -/
theorem nextZ_out (s : ByteArray) (i : Int) (b : Bool) (h : i < 0 ∨ (s.size : Int) ≤ i) : nextZ s i b = (0, 0) := if_pos h
theorem nextZ_in (s : ByteArray) (i : Nat) (b : Bool) (h : i < s.size) : nextZ s (i : Int) b = if b then ((s.get! i).toNat, 1) else chS s i := by
  unfold nextZ; rw [if_neg (by omega)]; rfl

/-- The string from place i on: its own first bytes. -/
theorem sizS_tail (s : ByteArray) (i : Nat) : sizS (s.extract i s.size) = sizN (s.size - i) (s.get! i).toNat (s.get! (i + 1)).toNat (s.get! (i + 2)).toNat (s.get! (i + 3)).toNat := by
  unfold sizS
  rw [tail_get!, tail_get!, tail_get!, tail_get!, ByteArray.size_extract, Nat.min_self, Nat.add_zero]
theorem decodeGo_tail (s : ByteArray) (i : Nat) (h : i < s.size) : decodeGo (s.extract i s.size) = decodeN (s.size - i) (s.get! i).toNat (s.get! (i + 1)).toNat (s.get! (i + 2)).toNat (s.get! (i + 3)).toNat := by
  unfold decodeGo
  rw [if_neg (by rw [ByteArray.size_extract]; omega), decode_at, tail_get!, tail_get!, tail_get!, tail_get!, ByteArray.size_extract, Nat.min_self, Nat.sub_zero]
  simp only [Nat.add_zero, Nat.zero_add]
end Go.Proofs.YtbbbdcohkfijoaaGreatDoor

namespace Go.Proofs.YtbbbdcohkfijoaaGreatDoor
open Go.RowKit Go.Lib

theorem decodeN_lt (n b0 b1 b2 b3 : Nat) : (decodeN n b0 b1 b2 b3).1 ≤ 1114111 ∧ 1 ≤ (decodeN n b0 b1 b2 b3).2 ∧ (decodeN n b0 b1 b2 b3).2 ≤ 4 := by
  unfold decodeN
  repeat' split
  all_goals (simp only; omega)

set_option maxRecDepth 100000 in
set_option maxHeartbeats 1000000 in
theorem next_any (s : ByteArray) (i : Int) (b : Bool) (w : World) (hT : Utf8Tabs 4 5 w) (_hs : s.size ≤ 9223372036854775807) :
    Calls Tryz.prog 322 #[.string s, .int .i64 i, .bool b] w fun e w' => e = .returned (.tuple #[.int .i64 (nextZ s i b).1, .int .i64 (nextZ s i b).2]) ∧ Below w.heap.size w w' := by
  by_cases h0 : i < 0
  · rw [nextZ_out s i b (.inl h0)]
    clear hT
    go_enter Tryz.func322, Tryz.ntmps322
    go_wp2
    go_ret2
    exact ⟨rfl, Below.refl _ _⟩
  by_cases h1 : (s.size : Int) ≤ i
  · rw [nextZ_out s i b (.inr h1)]
    clear hT
    go_enter Tryz.func322, Tryz.ntmps322
    go_wp2
    go_ret2
    exact ⟨rfl, Below.refl _ _⟩
  obtain ⟨k, rfl⟩ : ∃ k : Nat, i = k := ⟨i.toNat, by omega⟩
  have hk : k < s.size := by omega
  have gk := get!_lt s k hk
  rw [nextZ_in s k b hk]
  cases b
  · have cD := Tryz.utf8_DecodeRuneInString (s.extract k s.size) w hT
    rw [decodeGo_tail s k hk] at cD
    have hd := decodeN_lt (s.size - k) (s.get! k).toNat (s.get! (k + 1)).toNat (s.get! (k + 2)).toNat (s.get! (k + 3)).toNat
    simp only [Bool.false_eq_true, if_false]
    unfold chS chN
    obtain ⟨R, hR⟩ : ∃ R, (decodeN (s.size - k) (s.get! k).toNat (s.get! (k + 1)).toNat (s.get! (k + 2)).toNat (s.get! (k + 3)).toNat).1 = R := ⟨_, rfl⟩
    obtain ⟨K, hK⟩ : ∃ K, (decodeN (s.size - k) (s.get! k).toNat (s.get! (k + 1)).toNat (s.get! (k + 2)).toNat (s.get! (k + 3)).toNat).2 = K := ⟨_, rfl⟩
    have hRK : decodeN (s.size - k) (s.get! k).toNat (s.get! (k + 1)).toNat (s.get! (k + 2)).toNat (s.get! (k + 3)).toNat = (R, K) := by rw [← hR, ← hK]
    rw [hRK] at cD hd ⊢
    simp only at hd
    obtain ⟨hd1, hd2, hd3⟩ := hd
    clear hR hK hRK hT
    have hb := get!_lt256 s k
    rw [← gk] at hb ⊢
    have GK := Lib.hid gk; clear gk
    have CD := Lib.hid cD; clear cD
    by_cases hr : R = 65533
    · by_cases hK1 : K = 1
      · subst hr; subst hK1
        rw [if_pos rfl]
        go_enter Tryz.func322, Tryz.ntmps322
        go_wp2_with (go_at_call 225; refine CD.out.mono ?_; rintro e w' ⟨rfl, hb⟩)
        go_ret2
        exact ⟨by simp, hb⟩
      · rw [if_neg (by simp; omega)]
        subst hr
        have hK1' : ((K : Int) == 1) = false := by simp; omega
        go_enter Tryz.func322, Tryz.ntmps322
        go_wp2_with (go_at_call 225; refine CD.out.mono ?_; rintro e w' ⟨rfl, hb⟩)
        go_ret2
        exact ⟨rfl, hb⟩
    · rw [if_neg (by simp; omega)]
      have hr' : ((R : Int) == 65533) = false := by simp; omega
      go_enter Tryz.func322, Tryz.ntmps322
      go_wp2_with (go_at_call 225; refine CD.out.mono ?_; rintro e w' ⟨rfl, hb⟩)
      go_ret2
      exact ⟨rfl, hb⟩
  · simp only [if_true]
    have hb := get!_lt256 s k
    rw [← gk] at hb ⊢
    have GK := Lib.hid gk; clear gk hT
    go_enter Tryz.func322, Tryz.ntmps322
    go_wp2
    go_ret2
    exact ⟨by simp, Below.refl _ _⟩

theorem chN_siz (n b0 b1 b2 b3 : Nat) : chN n b0 b1 b2 b3 = if (sizN n b0 b1 b2 b3).1 = 0 then (1114112 + b0, 1) else ((sizN n b0 b1 b2 b3).2, (sizN n b0 b1 b2 b3).1) := by
  by_cases h : decodeN n b0 b1 b2 b3 = (65533, 1)
  · rw [if_pos ((siz_ch _ _ _ _ _).2 h), chN, if_pos h]
  · rw [if_neg (fun e => h ((siz_ch _ _ _ _ _).1 e)), chN, if_neg h, sizN, if_neg h]
theorem sizN_lt (n b0 b1 b2 b3 : Nat) : (sizN n b0 b1 b2 b3).1 ≤ 4 ∧ (sizN n b0 b1 b2 b3).2 ≤ 1114111 := by
  have := decodeN_lt n b0 b1 b2 b3
  unfold sizN
  split <;> simp only <;> omega

set_option maxRecDepth 100000 in
set_option maxHeartbeats 1000000 in
theorem refNext_any (s : ByteArray) (i : Int) (b : Bool) (w : World) (_hs : s.size ≤ 9223372036854775807) :
    Calls Tryz.prog 138 #[.string s, .int .i64 i, .bool b] w fun e w' => e = .returned (.tuple #[.int .i64 (nextZ s i b).1, .int .i64 (nextZ s i b).2]) ∧ w = w' := by
  by_cases h0 : i < 0
  · rw [nextZ_out s i b (.inl h0)]
    go_enter Tryz.func138, Tryz.ntmps138
    go_wp2
    go_ret2
    exact ⟨rfl, rfl⟩
  by_cases h1 : (s.size : Int) ≤ i
  · rw [nextZ_out s i b (.inr h1)]
    go_enter Tryz.func138, Tryz.ntmps138
    go_wp2
    go_ret2
    exact ⟨rfl, rfl⟩
  obtain ⟨k, rfl⟩ : ∃ k : Nat, i = k := ⟨i.toNat, by omega⟩
  have hk : k < s.size := by omega
  have gk := get!_lt s k hk
  rw [nextZ_in s k b hk]
  cases b
  · have cD := size_any (s.extract k s.size) w (by rw [ByteArray.size_extract]; omega) (by rw [ByteArray.size_extract]; omega)
    rw [sizS_tail s k] at cD
    simp only [Bool.false_eq_true, if_false]
    unfold chS
    rw [chN_siz]
    have hd := sizN_lt (s.size - k) (s.get! k).toNat (s.get! (k + 1)).toNat (s.get! (k + 2)).toNat (s.get! (k + 3)).toNat
    obtain ⟨q, hq⟩ : ∃ q, sizN (s.size - k) (s.get! k).toNat (s.get! (k + 1)).toNat (s.get! (k + 2)).toNat (s.get! (k + 3)).toNat = q := ⟨_, rfl⟩
    rw [hq] at cD hd ⊢
    clear hq
    obtain ⟨K, R⟩ := q
    simp only at cD hd ⊢
    obtain ⟨hd1, hd2⟩ := hd
    have hb := get!_lt256 s k
    rw [← gk] at hb ⊢
    have GK := Lib.hid gk; clear gk
    have CD := Lib.hid cD; clear cD
    by_cases hr : K = 0
    · subst hr
      rw [if_pos rfl]
      go_enter Tryz.func138, Tryz.ntmps138
      go_wp2_with (go_at_call 204; refine CD.out.mono ?_; rintro e w' ⟨rfl, rfl⟩)
      go_ret2
      exact ⟨by simp, rfl⟩
    · rw [if_neg hr]
      have hr' : ((K : Int) == 0) = false := by simp; omega
      go_enter Tryz.func138, Tryz.ntmps138
      go_wp2_with (go_at_call 204; refine CD.out.mono ?_; rintro e w' ⟨rfl, rfl⟩)
      go_ret2
      exact ⟨rfl, rfl⟩
  · simp only [if_true]
    have hb := get!_lt256 s k
    rw [← gk] at hb ⊢
    have GK := Lib.hid gk; clear gk
    go_enter Tryz.func138, Tryz.ntmps138
    go_wp2
    go_ret2
    exact ⟨by simp, rfl⟩
end Go.Proofs.YtbbbdcohkfijoaaGreatDoor

namespace Go.Proofs.YtbbbdcohkfijoaaGreatDoor
open Go.Lib

/-- How many bytes the character at a place has (0 past the end). -/
def wid (s : ByteArray) (b : Bool) (i : Nat) : Nat := (nextZ s (i : Int) b).2
def uCod (s : ByteArray) (b : Bool) (i : Nat) : Nat := (nextZ s (i : Int) b).1
/-- The place of the k-th character (from 0 on), or the length. -/
def pl (s : ByteArray) (b : Bool) : Nat → Nat
  | 0 => 0
  | k + 1 => pl s b k + wid s b (pl s b k)

theorem nextZ_eq (s : ByteArray) (b : Bool) (i : Nat) : nextZ s (i : Int) b = (uCod s b i, wid s b i) := rfl
theorem wid_out (s : ByteArray) (b : Bool) (i : Nat) (h : s.size ≤ i) : wid s b i = 0 := by
  unfold wid nextZ; rw [if_pos (by omega)]
theorem decodeN_wid (n b0 b1 b2 b3 : Nat) (hn : 1 ≤ n) : 1 ≤ (decodeN n b0 b1 b2 b3).2 ∧ (decodeN n b0 b1 b2 b3).2 ≤ n := by
  unfold decodeN
  repeat' split
  all_goals (simp only; omega)
theorem chN_wid (n b0 b1 b2 b3 : Nat) : (chN n b0 b1 b2 b3).2 = (decodeN n b0 b1 b2 b3).2 := by
  unfold chN
  split
  · rename_i h; rw [h]
  · rfl
theorem wid_byte (s : ByteArray) (i : Nat) (h : i < s.size) : wid s true i = 1 := by
  unfold wid nextZ; rw [if_neg (by omega)]; rfl
theorem wid_char (s : ByteArray) (i : Nat) (h : i < s.size) : wid s false i = (decodeN (s.size - i) (s.get! i).toNat (s.get! (i + 1)).toNat (s.get! (i + 2)).toNat (s.get! (i + 3)).toNat).2 := by
  unfold wid nextZ; rw [if_neg (by omega)]; exact chN_wid _ _ _ _ _
theorem wid_in (s : ByteArray) (b : Bool) (i : Nat) (h : i < s.size) : 1 ≤ wid s b i ∧ i + wid s b i ≤ s.size := by
  cases b
  · rw [wid_char s i h]
    have := decodeN_wid (s.size - i) (s.get! i).toNat (s.get! (i + 1)).toNat (s.get! (i + 2)).toNat (s.get! (i + 3)).toNat (by omega)
    omega
  · rw [wid_byte s i h]; omega
theorem pl_le (s : ByteArray) (b : Bool) : ∀ k, pl s b k ≤ s.size
  | 0 => Nat.zero_le _
  | k + 1 => by
    have ih := pl_le s b k
    show pl s b k + wid s b (pl s b k) ≤ s.size
    by_cases h : pl s b k < s.size
    · exact (wid_in s b _ h).2
    · rw [wid_out s b _ (by omega)]; omega
theorem pl_succ (s : ByteArray) (b : Bool) (k : Nat) : pl s b (k + 1) = pl s b k + wid s b (pl s b k) := rfl
theorem pl_end (s : ByteArray) (b : Bool) (k : Nat) (h : pl s b k = s.size) : ∀ j, k ≤ j → pl s b j = s.size := by
  intro j hj
  obtain ⟨d, rfl⟩ := Nat.exists_eq_add_of_le hj
  induction d with
  | zero => exact h
  | succ d ih => rw [← Nat.add_assoc, pl_succ, ih (by omega), wid_out s b _ (by omega)]; rfl
theorem pl_ge (s : ByteArray) (b : Bool) : ∀ k, k ≤ pl s b k ∨ pl s b k = s.size
  | 0 => .inl (Nat.zero_le _)
  | k + 1 => by
    rcases Nat.lt_or_ge (pl s b k) s.size with h | h
    · rcases pl_ge s b k with h1 | h1
      · left; rw [pl_succ]; have := (wid_in s b _ h).1; omega
      · omega
    · right; exact pl_end s b k (by have := pl_le s b k; omega) _ (by omega)
theorem pl_size (s : ByteArray) (b : Bool) : pl s b s.size = s.size := by
  rcases pl_ge s b s.size with h | h
  · have := pl_le s b s.size; omega
  · exact h
/-- How many characters. -/
def cnt (s : ByteArray) (b : Bool) : Nat := (List.range s.size).countP fun k => decide (pl s b k < s.size)
theorem countP_range (p : Nat → Bool) : ∀ N c, c ≤ N → (∀ k, k < N → (p k = true ↔ k < c)) → (List.range N).countP p = c
  | 0, c, hc, _ => by simp; omega
  | N + 1, c, hc, h => by
    rw [List.range_succ, List.countP_append]
    by_cases hN : c ≤ N
    · rw [countP_range p N c hN (fun k hk => h k (by omega))]
      have := (h N (by omega))
      have hp : p N = false := by
        cases hpn : p N
        · rfl
        · exact absurd (this.1 hpn) (by omega)
      simp [hp]
    · obtain rfl : c = N + 1 := by omega
      rw [countP_range p N N (Nat.le_refl _) (fun k hk => by rw [h k (by omega)]; omega)]
      have hp := (h N (by omega)).2 (by omega)
      simp [hp]
theorem exists_cnt (s : ByteArray) (b : Bool) : ∃ c, c ≤ s.size ∧ ∀ k, pl s b k < s.size ↔ k < c := by
  have : ∀ N, (∀ k, pl s b k < s.size → k < N) → ∃ c, c ≤ N ∧ ∀ k, pl s b k < s.size ↔ k < c := by
    intro N
    induction N with
    | zero => intro h; exact ⟨0, Nat.le_refl _, fun k => ⟨h k, fun hk => by omega⟩⟩
    | succ N ih =>
      intro h
      by_cases hN : pl s b N < s.size
      · refine ⟨N + 1, Nat.le_refl _, fun k => ⟨h k, fun hk => ?_⟩⟩
        by_cases hlt : pl s b k < s.size
        · exact hlt
        · exact absurd (pl_end s b k (by have := pl_le s b k; omega) N (by omega)) (by omega)
      · obtain ⟨c, hc, hall⟩ := ih (fun k hk => by
          have := h k hk
          by_cases e : k = N
          · subst e; exact absurd hk hN
          · omega)
        exact ⟨c, by omega, hall⟩
  refine this s.size (fun k hk => ?_)
  by_cases h : k < s.size
  · exact h
  · exact absurd (pl_end s b s.size (pl_size s b) k (by omega)) (by omega)
theorem cnt_spec (s : ByteArray) (b : Bool) (k : Nat) : pl s b k < s.size ↔ k < cnt s b := by
  obtain ⟨c, hc, hall⟩ := exists_cnt s b
  have : cnt s b = c := countP_range _ _ _ hc (fun k _ => by rw [decide_eq_true_eq]; exact hall k)
  rw [this]; exact hall k
theorem cnt_le (s : ByteArray) (b : Bool) : cnt s b ≤ s.size := by
  unfold cnt
  have := List.countP_le_length (p := fun k => decide (pl s b k < s.size)) (l := List.range s.size)
  simpa using this
theorem pl_cnt (s : ByteArray) (b : Bool) : pl s b (cnt s b) = s.size := by
  have h := (not_congr (cnt_spec s b (cnt s b))).2 (by omega)
  have := pl_le s b (cnt s b)
  omega
theorem cnt_unique (s : ByteArray) (b : Bool) (k : Nat) (h : pl s b k = s.size) (hl : ∀ j, j < k → pl s b j < s.size) : cnt s b = k := by
  have h1 := (not_congr (cnt_spec s b k)).1 (by omega)
  by_cases hk : k = 0
  · omega
  · have h2 := (cnt_spec s b (k - 1)).1 (hl (k - 1) (by omega)); omega
theorem pl_mono (s : ByteArray) (b : Bool) (j k : Nat) (h : j ≤ k) : pl s b j ≤ pl s b k := by
  obtain ⟨d, rfl⟩ := Nat.exists_eq_add_of_le h
  induction d with
  | zero => exact Nat.le_refl _
  | succ d ih => rw [← Nat.add_assoc, pl_succ]; have := ih (by omega); omega
theorem pl_byte (s : ByteArray) : ∀ k, k ≤ s.size → pl s true k = k
  | 0, _ => rfl
  | k + 1, h => by rw [pl_succ, pl_byte s k (by omega), wid_byte s k (by omega)]
theorem cnt_byte (s : ByteArray) : cnt s true = s.size :=
  cnt_unique s true s.size (pl_byte s _ (Nat.le_refl _)) (fun j hj => by rw [pl_byte s j (by omega)]; exact hj)
/-- What the library counts. -/
theorem runeCountFrom_pl (s : ByteArray) : ∀ f k, s.size ≤ pl s false k + f → runeCountFrom s f (pl s false k) = cnt s false - k
  | 0, k, h => by
    have := (not_congr (cnt_spec s false k)).1 (by omega)
    show 0 = _
    omega
  | f + 1, k, h => by
    unfold runeCountFrom
    by_cases hk : pl s false k < s.size
    · rw [if_pos hk]
      have e : pl s false k + (Utf8.decode s (pl s false k)).2 = pl s false (k + 1) := by
        rw [pl_succ, wid_char s _ hk, decode_at]
      have h1 := (wid_in s false _ hk).1
      rw [e, runeCountFrom_pl s f (k + 1) (by rw [pl_succ]; omega)]
      have := (cnt_spec s false k).1 hk
      omega
    · rw [if_neg hk]
      have := (not_congr (cnt_spec s false k)).1 hk
      omega
theorem runeCount_cnt (s : ByteArray) : runeCount s = cnt s false :=
  runeCountFrom_pl s s.size 0 (by omega)
end Go.Proofs.YtbbbdcohkfijoaaGreatDoor

namespace Go.Proofs.YtbbbdcohkfijoaaGreatDoor
open Go.RowKit Go.Lib Go.Shelf
attribute [local go_sem] Oper.semAt_some

/-- These blocks lie as they lay. -/
def KeepsAt (bs : List Nat) (W W' : World) : Prop := ∀ c ∈ bs, W'.heap[c]? = W.heap[c]?
theorem KeepsAt.refl (bs : List Nat) (W : World) : KeepsAt bs W W := fun _ _ => rfl
theorem KeepsAt.trans {bs : List Nat} {A B C : World} (h : KeepsAt bs A B) (k : KeepsAt bs B C) : KeepsAt bs A C := fun c hc => (k c hc).trans (h c hc)
theorem KeepsAt.of_below {bs : List Nat} {n : Nat} {W W' : World} (h : Below n W W') (hlt : ∀ c ∈ bs, c < n) : KeepsAt bs W W' := fun c hc => h.block c (hlt c hc)
theorem KeepsAt.of_grown {bs : List Nat} {row : Option Nat} {W W' : World} (h : W.grownBy W' row) (hlt : ∀ c ∈ bs, c < W.heap.size ∧ some c ≠ row) : KeepsAt bs W W' := fun c hc => h.block c (hlt c hc).1 (hlt c hc).2
theorem KeepsAt.putObj {bs : List Nat} (n : Nat) (hlt : ∀ c ∈ bs, c < n) (W : World) (l : Nat) (o' : Obj) (hl : n ≤ l) : KeepsAt bs W (W.putObj l o') :=
  fun c hc => World.putObj_heap_other (by have := hlt c hc; omega)
theorem KeepsAt.cell {bs : List Nat} {W W' : World} (h : KeepsAt bs W W') {c : Nat} (hc : c ∈ bs) (o : Nat) : W'.cell? ⟨c, o, none⟩ = W.cell? ⟨c, o, none⟩ := by
  simp [World.cell?, h c hc]
theorem grown_of_below {W W' : World} (h : Below W.heap.size W W') : W.grownBy W' none :=
  ⟨h.os, h.tape, h.output, h.size, fun k hk _ => h.block k hk⟩
theorem tabs_keeps {g h : Nat} {W W' : World} (hT : Utf8Tabs g h W) (hk : KeepsAt [g, h] W W') : Utf8Tabs g h W' :=
  ⟨fun c hc => (hk.cell (by simp) c).trans (hT.1 c hc), fun i hi => ⟨(hk.cell (by simp) _).trans (hT.2 i hi).1, (hk.cell (by simp) _).trans (hT.2 i hi).2⟩⟩
/-- A cell that is there lies in a block below the heap's size. -/
theorem lt_of_cell {W : World} {c o : Nat} {v : Value} (h : W.cell? ⟨c, o, none⟩ = some v) : c < W.heap.size := by
  by_cases hc : c < W.heap.size
  · exact hc
  · simp [World.cell?, Array.getElem?_eq_none (Nat.le_of_not_lt hc)] at h
theorem tabs_lt {g h : Nat} {W : World} (hT : Utf8Tabs g h W) : g < W.heap.size ∧ h < W.heap.size := ⟨lt_of_cell (hT.1 0 (by decide)), lt_of_cell (hT.2 0 (by decide)).1⟩
theorem tabs_below {g h n : Nat} {W W' : World} (hT : Utf8Tabs g h W) (hb : Below n W W') (hn : W.heap.size ≤ n) : Utf8Tabs g h W' :=
  tabs_keeps hT (KeepsAt.of_below hb (fun c hc => by have := tabs_lt hT; simp at hc; rcases hc with rfl | rfl <;> omega))

/-- What All hands over at the k-th character. -/
abbrev chEnc (s : ByteArray) (b : Bool) (k : Nat) : Array Value := #[.int .i64 (pl s b k), .int .i64 (uCod s b (pl s b k))]

set_option maxHeartbeats 1000000 in
theorem all_any (s : ByteArray) (b : Bool) (w : World) :
    Calls Tryz.prog 281 #[.string s, .bool b] w fun e w' => e = .returned (.func (.func 321) #[] #[.pointer (some ⟨w.heap.size, 0, none⟩), .pointer (some ⟨w.heap.size + 1, 0, none⟩)]) ∧
      (w.alloc (.cells #[.string s] 9)).alloc (.cells #[.bool b] 4) = w' := by
  have hmf : ∀ (fn : Fn) (first cap : Array Value) (w : World), (Instr.makeFunc fn first cap).run Tryz.prog w = .ok (.func fn first cap) w := fun _ _ _ _ => rfl
  go_enter Tryz.func281, Tryz.ntmps281
  go_wp2
  go_ret
  exact ⟨rfl, rfl⟩

set_option maxRecDepth 100000 in
set_option maxHeartbeats 1000000 in
/-- THE ITERATOR: FOR EVERY LOOP BODY THAT KEEPS THE TWO CAPTURED VARIABLES AND THE LIBRARY's TABLES. -/
theorem all_stops (n : Nat) (hn : 1 ≤ n) (s : ByteArray) (b : Bool) (B1 B2 : Nat) (w : World) (hs : s.size ≤ 9223372036854775807 - 8)
    (h1 : w.cell? ⟨B1, 0, none⟩ = some (.string s)) (h2 : w.cell? ⟨B2, 0, none⟩ = some (.bool b)) (hT : Utf8Tabs 4 5 w) :
    SeqStopsK Fence.wide n Tryz.prog 321 #[.pointer (some ⟨B1, 0, none⟩), .pointer (some ⟨B2, 0, none⟩)] (chEnc s b) (KeepsAt [4, 5, B1, B2])
      (fun xs => xs = List.range (cnt s b)) (fun pre => ∃ k, k ≤ cnt s b ∧ pre = List.range k) (cnt s b) w := fun l J Jx W hW hJ hJx hY h0 => by
  have hK0 : KeepsAt [4, 5, B1, B2] w W := KeepsAt.of_below hW (fun c hc => by
    have := tabs_lt hT; have := lt_of_cell h1; have := lt_of_cell h2
    simp at hc; rcases hc with rfl | rfl | rfl | rfl <;> omega)
  refine callsIn_of_wp Tryz.func321 rfl trivial ?_ rfl
  simp only [Tryz.ntmps321, List.size_toArray, List.length_cons, List.length_nil, Nat.reduceAdd, Nat.reduceSub, Array.replicate_succ, Array.replicate_zero, List.push_toArray, List.append_toArray, List.nil_append, List.cons_append]
  gi_wp2
  gi_loopw [4] (fun p wr => ∃ k, k ≤ cnt s b ∧ p = .int .i64 (pl s b k) ∧ KeepsAt [4, 5, B1, B2] w wr ∧ J (List.range k) wr)
    (fun p _ => s.size - (RowKit.intOf p).toNat)
  case atStart =>
    exact ⟨0, Nat.zero_le _, rfl, hK0, h0⟩
  case round =>
    obtain ⟨k, hk, rfl, hKw, hJs⟩ := hrel
    have c1 : wr.cell? ⟨B1, 0, none⟩ = some (.string s) := (hKw.cell (by simp) 0).trans h1
    have c2 : wr.cell? ⟨B2, 0, none⟩ = some (.bool b) := (hKw.cell (by simp) 0).trans h2
    have hTr : Utf8Tabs 4 5 wr := tabs_keeps hT (fun c hc => hKw c (by simp at hc ⊢; omega))
    have hple := pl_le s b k
    by_cases hlt : k < cnt s b
    · have hplt := (cnt_spec s b k).2 hlt
      have cN := next_any s (pl s b k : Nat) b wr hTr (by omega)
      rw [nextZ_eq] at cN
      have hw1 := (wid_in s b _ hplt).1
      have hw2 := (wid_in s b _ hplt).2
      obtain ⟨C, hC⟩ : ∃ C, uCod s b (pl s b k) = C := ⟨_, rfl⟩
      obtain ⟨S, hS⟩ : ∃ S, wid s b (pl s b k) = S := ⟨_, rfl⟩
      obtain ⟨p, hp⟩ : ∃ p, pl s b k = p := ⟨_, rfl⟩
      have hp1 : pl s b (k + 1) = p + S := by rw [pl_succ, hS, hp]
      have hY' := hY (List.range k) k
      dsimp only [chEnc] at hY'
      rw [hC, hp] at hY'
      rw [hC, hS] at cN
      rw [hS] at hw1 hw2
      rw [hp] at hplt hple hw2 cN
      rw [hp]
      have CN := Lib.hid cN; clear cN
      have HY := Lib.hid hY'; clear hY' hY
      have HC := Lib.hid hC; clear hC
      have HS := Lib.hid hS; clear hS
      have HP := Lib.hid hp; clear hp
      have HP1 := Lib.hid hp1; clear hp1
      have HT := Lib.hid hTr; clear hTr hT
      have HKW := Lib.hid hKw; clear hKw hK0
      gi_wp2_with fail
      refine ⟨trivial, (callsIn_wide.2 CN.out).mono ?_⟩
      rintro e W3 ⟨rfl, hb3⟩
      have c13 : W3.cell? ⟨B1, 0, none⟩ = some (.string s) := (hb3.cell (p := ⟨B1, 0, none⟩) (lt_of_cell c1)).trans c1
      have c23 : W3.cell? ⟨B2, 0, none⟩ = some (.bool b) := (hb3.cell (p := ⟨B2, 0, none⟩) (lt_of_cell c2)).trans c2
      have hJ3 : J (List.range k) W3 := hJ _ _ _ none hJs (grown_of_below hb3) (fun r e => by cases e)
      have hK3 : KeepsAt [4, 5, B1, B2] w W3 := HKW.out.trans (KeepsAt.of_below hb3 (fun c hc => by
        have := tabs_lt HT.out; have := lt_of_cell c1; have := lt_of_cell c2
        simp at hc; rcases hc with rfl | rfl | rfl | rfl <;> omega))
      obtain ⟨fn, tmps, assign, body, hy, hR⟩ := HY.out W3 hJ3 (by simp; omega)
      have HK3 := Lib.hid hK3; clear hK3
      gi_wp2
      refine hR.mono ?_
      rintro e W4 (⟨rfl, hJ4, hk4⟩ | ⟨rfl, hJx4⟩)
      · have hK4 := Lib.hid (HK3.out.trans hk4); clear hk4
        gi_wp2
        go_roundw
        case rel => exact ⟨k + 1, by omega, by rw [HP1.out]; go_num, hK4.out, by rw [List.range_succ]; exact hJ4⟩
        case measure => simp [RowKit.intOf]; omega
      · gi_wp2
        refine bodyPost_ret (results_none rfl _ _ _) rfl ?_
        exact ⟨⟨_, rfl⟩, .inr ⟨List.range (k + 1), ⟨k + 1, by omega, rfl⟩, by rw [List.range_succ]; exact hJx4⟩⟩
    · obtain rfl : k = cnt s b := by omega
      have hpe := pl_cnt s b
      rw [hpe]
      clear hpe hY hple
      gi_wp2
      go_end0
      exact ⟨⟨_, rfl⟩, .inl ⟨_, rfl, hJs⟩⟩
end Go.Proofs.YtbbbdcohkfijoaaGreatDoor

namespace Go.Proofs.YtbbbdcohkfijoaaGreatDoor
open Go.RowKit Go.Lib Go.Shelf
attribute [local go_sem] Oper.semAt_some

set_option maxHeartbeats 400000 in
theorem len_any (s : ByteArray) (b : Bool) (w : World) (hs : s.size ≤ 9223372036854775807 - 8) :
    Calls Tryz.prog 124 #[.string s, .bool b] w fun e w' => e = .returned (.int .i64 (cnt s b)) ∧ Below w.heap.size w w' := by
  cases b
  · have cR := Tryz.utf8_RuneCountInString s w (by omega)
    rw [runeCount_cnt] at cR
    have CR := Lib.hid cR; clear cR
    go_enter Tryz.func124, Tryz.ntmps124
    go_wp2_with (go_at_call 183; refine CR.out.mono ?_; rintro e w' ⟨rfl, pos, rfl⟩)
    go_ret
    exact ⟨rfl, (Below.refl _ _).alloc (Nat.le_refl _) _⟩
  · rw [cnt_byte]
    go_enter Tryz.func124, Tryz.ntmps124
    go_wp2
    go_ret
    exact ⟨rfl, Below.refl _ _⟩

/-- What stands for the k-th character when its code is changed by f. -/
def piece (s : ByteArray) (b : Bool) (f : Int → Int) (k : Nat) : List UInt8 :=
  if f (uCod s b (pl s b k)) = uCod s b (pl s b k) then (s.data.toList.drop (pl s b k)).take (wid s b (pl s b k)) else (textB (f (uCod s b (pl s b k)))).data.toList
end Go.Proofs.YtbbbdcohkfijoaaGreatDoor

namespace Go.Proofs.YtbbbdcohkfijoaaGreatDoor
open Go.RowKit Go.Lib Go.Shelf
attribute [local go_sem] Oper.semAt_some

/-- Six new blocks. -/
theorem push6 (h : Array Obj) (a b c d e f : Obj) (H : Array Obj) (hH : H = (((((h.push a).push b).push c).push d).push e).push f) :
    H.size = h.size + 6 ∧ H[h.size]? = some a ∧ H[h.size + 1]? = some b ∧ H[h.size + 1 + 1]? = some c ∧ H[h.size + 1 + 1 + 1]? = some d ∧ H[h.size + 4]? = some e ∧ H[h.size + 4 + 1]? = some f := by
  subst hH
  simp only [Array.getElem?_push, Array.size_push]
  refine ⟨trivial, ?_, ?_, ?_, ?_, ?_, ?_⟩
  all_goals
    repeat' split
  all_goals first | rfl | (exfalso; omega) | simp_all

end Go.Proofs.YtbbbdcohkfijoaaGreatDoor

namespace Go.Proofs.YtbbbdcohkfijoaaGreatDoor
open Go.RowKit Go.Lib

theorem info_int : (Tryz.prog.info? 3).map (fun i => (i.zero, i.size, i.bytes)) = some (some (.int .i64 0), 1, 8) := by kernel_rfl
/-- The places of k characters. -/
def plV (s : ByteArray) (b : Bool) (k : Nat) : List Value := (List.range k).map fun i => Value.int .i64 (pl s b i)
theorem plV_succ (s : ByteArray) (b : Bool) (k : Nat) : plV s b (k + 1) = plV s b k ++ [.int .i64 (pl s b k)] := by simp [plV, List.range_succ]

set_option maxRecDepth 100000 in
set_option maxHeartbeats 1000000 in
theorem starts_any (s : ByteArray) (b : Bool) (w : World) (hs : s.size ≤ 1048576) :
    Calls Tryz.prog 79 #[.string s, .bool b] w fun e w' => ∃ v, e = .returned v ∧ w'.ownsRow w.heap.size 3 1 v (cnt s b + 1) (plV s b (cnt s b + 1)) ∧ Below w.heap.size w w' := by
  obtain ⟨i0, hi, hz0, hz1, hz2⟩ := info_parts info_int
  have hcl := cnt_le s b
  go_enter Tryz.func79, Tryz.ntmps79
  go_wp2
  go_loopw [5, 6] (fun v p wr => ∃ k, k ≤ cnt s b ∧ p = .int .i64 (pl s b k) ∧ wr.ownsRow w.heap.size 3 1 v k (plV s b k) ∧ Below w.heap.size w wr) (fun _ p _ => s.size - (RowKit.intOf p).toNat)
  case atStart => exact ⟨0, Nat.zero_le _, rfl, World.ownsRow_nil _ _ _ _, Below.refl _ _⟩
  case round =>
    obtain ⟨k, hk, rfl, hown, hB⟩ := hrel
    have hple := pl_le s b k
    have hsz := hB.size
    by_cases hlt : k < cnt s b
    · have hplt := (cnt_spec s b k).2 hlt
      have hw1 := wid_in s b _ hplt
      have cN := fun (W : World) => refNext_any s (pl s b k : Nat) b W (by omega)
      rw [nextZ_eq] at cN
      have hp1 := pl_succ s b k
      have hv1 := plV_succ s b k
      obtain ⟨C, hC⟩ : ∃ C, uCod s b (pl s b k) = C := ⟨_, rfl⟩
      obtain ⟨S, hS⟩ : ∃ S, wid s b (pl s b k) = S := ⟨_, rfl⟩
      rw [hC, hS] at cN
      rw [hS] at hw1 hp1
      obtain ⟨p, hp⟩ : ∃ p, pl s b k = p := ⟨_, rfl⟩
      rw [hp] at cN hw1 hp1 hple hplt hv1
      rw [hp]
      obtain ⟨q1, q2⟩ := hw1
      clear hC hS
      have CN := Lib.hid cN; clear cN
      have HP1 := Lib.hid hp1; clear hp1
      have HV1 := Lib.hid hv1; clear hv1
      have HP := Lib.hid hp; clear hp
      go_wp2_with (at_builtin; refine wpList_append_own _ rfl _ _ 55 rfl w.heap.size 3 i0 (.int .i64 0) 1 8 Tryz.underlying55 hi hz0 hz1 hz2 rfl (by decide) _ _ _ rfl (hown.alloc _) ⟨wr.heap.size, 0, none⟩ 1 1 [.int .i64 p] rfl rfl (cell_one_new _ _ _) ?c2 ?c3 ?c4 ?c5 ?_)
      case c2 => simp [Value.oneCell']
      case c3 => unfold maxLen; omega
      case c4 => omega
      case c5 => first | omega | (simp; omega)
      intro v' w1 hown' hgrow _
      rw [← HV1.out] at hown'
      have hB1 : Below w.heap.size w w1 := (hB.alloc hsz _).grown hgrow (by simp; omega) (fun r e => (hown.lt r e).1)
      have HO := Lib.hid hown'; clear hown'
      clear hown hgrow
      go_wp2_with (go_at_call 138; refine (CN.out _).mono ?_; rintro e w' ⟨rfl, rfl⟩)
      go_roundw
      case rel => exact ⟨k + 1, by omega, by rw [HP1.out]; go_num, HO.out, hB1⟩
      case measure => simp [RowKit.intOf]; omega
    · obtain rfl : k = cnt s b := by omega
      have hpe := pl_cnt s b
      have hv1 := plV_succ s b (cnt s b)
      rw [hpe] at hv1 ⊢
      obtain ⟨n, hn⟩ : ∃ n, cnt s b = n := ⟨_, rfl⟩
      rw [hn] at hown hcl hv1
      rw [hn]
      have HN := Lib.hid hn
      clear hpe hlt hk hple hn
      have HV1 := Lib.hid hv1; clear hv1
      go_wp2_with (at_builtin; refine wpList_append_own _ rfl _ _ 55 rfl w.heap.size 3 i0 (.int .i64 0) 1 8 Tryz.underlying55 hi hz0 hz1 hz2 rfl (by decide) _ _ _ rfl (hown.alloc _) ⟨wr.heap.size, 0, none⟩ 1 1 [.int .i64 s.size] rfl rfl (cell_one_new _ _ _) ?c2 ?c3 ?c4 ?c5 ?_)
      case c2 => simp [Value.oneCell']
      case c3 => unfold maxLen; omega
      case c4 => omega
      case c5 => first | omega | (simp; omega)
      intro v' w1 hown' hgrow _
      rw [← HV1.out] at hown'
      have hB1 : Below w.heap.size w w1 := (hB.alloc hsz _).grown hgrow (by simp; omega) (fun r e => (hown.lt r e).1)
      have HO := Lib.hid hown'; clear hown'
      clear hown hgrow
      go_wp2
      go_ret
      exact ⟨v', rfl, by rw [HN.out]; exact HO.out, hB1⟩

/-- Starts, with its row laid open. -/
theorem starts_row (s : ByteArray) (b : Bool) (w : World) (hs : s.size ≤ 1048576) :
    Calls Tryz.prog 79 #[.string s, .bool b] w fun e w' => ∃ g cap, e = .returned (.slice (some ⟨g, 0, none⟩) (cnt s b + 1) cap) ∧ cnt s b + 1 ≤ cap ∧ w.heap.size ≤ g ∧ (∀ i : Nat, i ≤ cnt s b → w'.cell? ⟨g, i, none⟩ = some (.int .i64 (pl s b i))) ∧ Below w.heap.size w w' := by
  refine (starts_any s b w hs).mono ?_
  rintro e w' ⟨v, rfl, hown, hB⟩
  obtain ⟨g, cap, rfl⟩ := ownsRow_succ hown
  have hcap : cnt s b + 1 ≤ cap := by
    obtain ⟨_, ⟨h, _⟩ | ⟨g', cap', cur, hv, _, _, hc, _⟩⟩ := hown
    · cases h
    · cases hv; exact hc
  refine ⟨g, cap, rfl, hcap, (hown.lt g rfl).1, fun i hi => ?_, hB⟩
  have := hown.cells (g := g) rfl i (.int .i64 (pl s b i)) (by rw [plV, List.getElem?_map, List.getElem?_range (by omega)]; rfl)
  rw [Addr.add_lit, Nat.zero_add] at this
  exact this
/-- The place of a number: and is there one? -/
def placeZ (s : ByteArray) (b : Bool) (n : Int) : Int × Bool := if 1 ≤ n ∧ n ≤ cnt s b + 1 then ((pl s b (n - 1).toNat : Nat), true) else (0, false)
/-- The part between two numbers. -/
def subB (s : ByteArray) (b : Bool) (i j : Int) : ByteArray :=
  if min j (cnt s b + 1) ≤ max i 1 then ⟨#[]⟩ else s.extract (pl s b (max i 1 - 1).toNat) (pl s b (min j (cnt s b + 1) - 1).toNat)
set_option maxRecDepth 100000 in
set_option maxHeartbeats 1000000 in
theorem refSub_any (s : ByteArray) (i j : Int) (b : Bool) (w : World) (hs : s.size ≤ 1048576) :
    Calls Tryz.prog 26 #[.string s, .int .i64 i, .int .i64 j, .bool b] w fun e w' => e = .returned (.string (subB s b i j)) ∧ Below w.heap.size w w' := by
  have CS := Lib.hid (starts_row s b w hs)
  have hcl := cnt_le s b
  unfold subB
  obtain ⟨I, hI⟩ : ∃ I, max i 1 = I := ⟨_, rfl⟩
  obtain ⟨J, hJ⟩ : ∃ J, min j (cnt s b + 1) = J := ⟨_, rfl⟩
  have hI1 : 1 ≤ I := by omega
  have hJ1 : J ≤ cnt s b + 1 := by omega
  rw [hI, hJ]
  by_cases h : J ≤ I
  · rw [if_pos h]
    go_enter Tryz.func26, Tryz.ntmps26
    go_wp2_with fail
    refine CS.out.mono ?_
    rintro e w1 ⟨g, cap, rfl, _, _, hc, hB⟩
    clear hc
    go_wp2
    go_ret
    exact ⟨rfl, hB⟩
  · rw [if_neg h]
    obtain ⟨a, ha⟩ : ∃ a : Nat, I = a + 1 := ⟨(I - 1).toNat, by omega⟩
    obtain ⟨c, hc⟩ : ∃ c : Nat, J = c + 1 := ⟨(J - 1).toNat, by omega⟩
    subst ha
    subst hc
    rw [show ((a : Int) + 1 - 1).toNat = a by omega, show ((c : Int) + 1 - 1).toNat = c by omega]
    have hm := pl_mono s b a c (by omega)
    have hpm := pl_le s b c
    go_enter Tryz.func26, Tryz.ntmps26
    go_wp2_with fail
    refine CS.out.mono ?_
    rintro e w1 ⟨g, cap, rfl, hcap, _, hc, hB⟩
    have hca := hc a (by omega)
    have hcc := hc c (by omega)
    clear hc
    go_wp2
    go_quiet (fail)
    go_wp2
    go_ret
    exact ⟨rfl, below_drewN hB _⟩
end Go.Proofs.YtbbbdcohkfijoaaGreatDoor

namespace Go.Proofs.YtbbbdcohkfijoaaGreatDoor
open Go.RowKit Go.Lib

def whD0 (r c : Nat) : List UInt8 := if c = 111 then ibT (manF r) (expF r) 3 else if c = 120 ∨ c = 88 then ibT (manF r) (expF r) 4 else fixT (decs (rnd (amN r * 10 ^ 0) (amD r))) 0
def whB (r c : Nat) (a : Bool) : List UInt8 := if (c = 120 ∨ c = 88) ∧ a = true ∧ r ≠ 0 then [48, 120] else []
def whD1 (r : Nat) (a : Bool) (c : Nat) : List UInt8 := if c = 111 ∧ a = true ∧ r ≠ 0 then 48 :: whD0 r c else whD0 r c
def whD2 (r : Nat) (pr : Int) (a : Bool) (c : Nat) : List UInt8 := if ¬ (c = 111 ∧ a = true) ∧ r = 0 ∧ pr = 0 then [] else whD1 r a c
def whD (r : Nat) (pr : Int) (a : Bool) (c : Nat) : List UInt8 := List.replicate (pr - ((whD2 r pr a c).length : Int)).toNat 48 ++ whD2 r pr a c
/-- Is what stands ahead of the point below nought? -/
def lowB (x : Nat) : Bool := sbB x && decide (truncR (mag x) ≠ 0)
def wholeL (m p b a z : Bool) (wd pr : Int) (c x : Nat) : List UInt8 := laidL (signL p b c (lowB x)) (capL c (whB (truncR (mag x)) c a)) (capL c (whD (truncR (mag x)) pr a c)) wd m (z && decide (pr < 0))
/-- What Number answers. -/
noncomputable def numT (m p b a z : Bool) (wd pr : Int) (c x : Nat) : List UInt8 :=
  if chkB wd pr c = true ∧ vNum.contains c.toUInt8 = true then
    match oddL x with
    | some n => fillL n (wd - (n.length : Int)) m
    | none => if vWhole.contains c.toUInt8 = true then wholeL m p b a z wd pr c x else pointT m p b a z wd pr c x
  else []
def numE (wd pr : Int) (c : Nat) : Int := if chkB wd pr c = true ∧ vNum.contains c.toUInt8 = true then 0 else 50
theorem truncR_fin {r : Nat} (h : r < 9218868437227405312) : truncR r < 9218868437227405312 := truncR_lt h
theorem sgn_add_mag {x r : Nat} (hr : r < 9223372036854775808) : mag (sgn x + r) = r := by unfold sgn mag; omega
/-- x < 0 of what Trunc answers. -/
theorem low_is {x : Nat} (hb : x < 18446744073709551616) (h : mag x < 9218868437227405312) : (FloatKind.f64.format.order (sgn x + truncR (mag x)) 0 == some .lt) = lowB x := by
  have ht := truncR_fin h
  have hm : mag (sgn x + truncR (mag x)) = truncR (mag x) := sgn_add_mag (by omega)
  have h0 : mag 0 = 0 := by decide
  rw [show FloatKind.f64.format.order (sgn x + truncR (mag x)) 0 = _ from order_key (by omega) (by omega)]
  have k0 : keyZ 0 = 0 := by decide
  rw [k0]
  unfold lowB keyZ
  rw [hm]
  have hsb : ((sgn x + truncR (mag x)) / 9223372036854775808 % 2 == 1) = sbB x := by
    unfold sgn sbB
    by_cases hx : 9223372036854775808 ≤ x
    · rw [decide_eq_true hx, beq_iff_eq]; omega
    · rw [decide_eq_false hx, beq_eq_false_iff_ne]; omega
  rw [hsb]
  generalize truncR (mag x) = r
  cases sbB x
  · rw [if_neg (by simp), Bool.false_and]
    rcases Int.lt_trichotomy (r : Int) 0 with q | q | q
    · omega
    · rw [Int.compare_eq_eq.2 q]; rfl
    · rw [Int.compare_eq_gt.2 q]; rfl
  · rw [if_pos rfl, Bool.true_and]
    rcases Int.lt_trichotomy (-(r : Int)) 0 with q | q | q
    · rw [Int.compare_eq_lt.2 q, decide_eq_true (by omega)]; rfl
    · rw [Int.compare_eq_eq.2 q, decide_eq_false (by omega)]; rfl
    · omega
/-- x == 0, x != 0 of a finite number. -/
theorem zero_is {x : Nat} (h : mag x < 9218868437227405312) : (FloatKind.f64.format.order x 0 == some .eq) = decide (mag x = 0) := by
  rw [show FloatKind.f64.format.order x 0 = _ from order_key (by omega) (by decide)]
  have k0 : keyZ 0 = 0 := by decide
  rw [k0]
  unfold keyZ
  generalize (x / 9223372036854775808 % 2 == 1) = s
  generalize mag x = r
  cases s
  · rw [if_neg (by simp)]
    rcases Int.lt_trichotomy (r : Int) 0 with q | q | q
    · omega
    · rw [Int.compare_eq_eq.2 q, decide_eq_true (by omega)]; rfl
    · rw [Int.compare_eq_gt.2 q, decide_eq_false (by omega)]; rfl
  · rw [if_pos rfl]
    rcases Int.lt_trichotomy (-(r : Int)) 0 with q | q | q
    · rw [Int.compare_eq_lt.2 q, decide_eq_false (by omega)]; rfl
    · rw [Int.compare_eq_eq.2 q, decide_eq_true (by omega)]; rfl
    · omega
theorem nzero_is {x : Nat} (h : mag x < 9218868437227405312) : (FloatKind.f64.format.order x 0 != some .eq) = decide (mag x ≠ 0) := by
  rw [bne, zero_is h]
  by_cases q : mag x = 0 <;> simp [q]
theorem whD0_asc {r : Nat} (c : Nat) : AscL (whD0 r c) := by
  unfold whD0
  split
  · exact asc_ibT _ _ _ (by omega)
  · split
    · exact asc_ibT _ _ _ (by omega)
    · have := asc_fixP r 0 false
      unfold fixP at this
      rw [if_neg (by simp), List.append_nil] at this
      exact this
theorem expF_le {r : Nat} (h : r < 9218868437227405312) : expF r ≤ 971 := by unfold expF; split <;> omega
theorem whD0_len {r : Nat} (h : r < 9218868437227405312) (c : Nat) : (whD0 r c).length ≤ 3000 := by
  unfold whD0
  split
  · rw [ibT_len]; have := (ibN_bd (z := 3) (manF_lt (r := r)) (expF_le h) (Or.inl rfl)).2; omega
  · split
    · rw [ibT_len]; have := (ibN_bd (z := 4) (manF_lt (r := r)) (expF_le h) (Or.inr rfl)).2; omega
    · have := fixP_len (full := false) h (show 0 ≤ 200 by omega)
      unfold fixP at this
      rw [if_neg (by simp), List.append_nil] at this
      exact this
theorem whD1_len {r : Nat} (h : r < 9218868437227405312) (a : Bool) (c : Nat) : (whD1 r a c).length ≤ 3001 := by
  have := whD0_len h c
  unfold whD1
  split
  · rw [List.length_cons]; omega
  · omega
theorem whD1_asc {r : Nat} (a : Bool) (c : Nat) : AscL (whD1 r a c) := by
  unfold whD1
  split
  · exact asc_cons (by decide) (whD0_asc c)
  · exact whD0_asc c
theorem whD2_len {r : Nat} (h : r < 9218868437227405312) (pr : Int) (a : Bool) (c : Nat) : (whD2 r pr a c).length ≤ 3001 := by
  unfold whD2
  split
  · simp
  · exact whD1_len h a c
theorem whD2_asc {r : Nat} (pr : Int) (a : Bool) (c : Nat) : AscL (whD2 r pr a c) := by
  unfold whD2
  split
  · exact asc_nil
  · exact whD1_asc a c
theorem asc_rep (k : Nat) : AscL (List.replicate k 48) := fun c hc => by rw [(List.mem_replicate.1 hc).2]; decide
theorem whD_asc {r : Nat} (pr : Int) (a : Bool) (c : Nat) : AscL (whD r pr a c) := asc_app (asc_rep _) (whD2_asc pr a c)
theorem whD_len {r : Nat} (h : r < 9218868437227405312) {pr : Int} (h1 : pr ≤ 190) (a : Bool) (c : Nat) : (whD r pr a c).length ≤ 4000 := by
  have := whD2_len h pr a c
  unfold whD
  rw [List.length_append, List.length_replicate]
  omega
theorem whB_asc (r c : Nat) (a : Bool) : AscL (whB r c a) := by
  unfold whB
  split
  · exact asc_cons (by decide) (asc_cons (by decide) asc_nil)
  · exact asc_nil
theorem whB_len (r c : Nat) (a : Bool) : (whB r c a).length ≤ 2 := by unfold whB; split <;> simp
/-- A text as wide as is asked for, against the one without a width. -/
def Wide (s T : List UInt8) (wd : Int) (m z : Bool) : Prop :=
  (s.length : Int) = max (T.length : Int) wd ∧ (m = true → s = T ++ List.replicate (s.length - T.length) 32) ∧ (m = false → z = true ∨ s = List.replicate (s.length - T.length) 32 ++ T)
theorem fillL_len (l : List UInt8) (k : Int) (m : Bool) : (fillL l k m).length = l.length + k.toNat := by
  unfold fillL
  split
  · rw [List.length_append, List.length_replicate]
  · rw [List.length_append, List.length_replicate]; omega
theorem fillL_zero (l : List UInt8) (m : Bool) {k : Int} (h : k ≤ 0) : fillL l k m = l := by
  unfold fillL
  rw [show k.toNat = 0 by omega]
  split <;> simp
theorem wide_fill (l : List UInt8) (wd : Int) (m z : Bool) : Wide (fillL l (wd - (l.length : Int)) m) l wd m z := by
  refine ⟨by rw [fillL_len]; omega, ?_, ?_⟩
  · rintro rfl
    rw [fillL_len, show l.length + (wd - (l.length : Int)).toNat - l.length = (wd - (l.length : Int)).toNat by omega]
    unfold fillL
    rw [if_pos rfl]
  · rintro rfl
    right
    rw [fillL_len, show l.length + (wd - (l.length : Int)).toNat - l.length = (wd - (l.length : Int)).toNat by omega]
    unfold fillL
    rw [if_neg (by simp)]
theorem laid_bare (sg base D : List UInt8) (m no : Bool) : laidL sg base D 0 m no = sg ++ base ++ D := by
  unfold laidL
  split
  · rw [show (0 - ((sg ++ base ++ D).length : Int)).toNat = 0 by omega]
    simp
  · exact fillL_zero _ _ (by omega)
theorem wide_laid (sg base D : List UInt8) (wd : Int) (m no z : Bool) (hz : no = true → z = true) : Wide (laidL sg base D wd m no) (laidL sg base D 0 m no) wd m z := by
  rw [laid_bare]
  by_cases h : no = true ∧ m = false
  · unfold laidL
    rw [if_pos h]
    refine ⟨by simp; omega, fun e => ?_, fun _ => Or.inl (hz h.1)⟩
    rw [h.2] at e
    cases e
  · unfold laidL
    rw [if_neg h]
    exact wide_fill _ wd m z
theorem chk_wd {wd pr : Int} {c : Nat} (h : chkB wd pr c = true) : chkB 0 pr c = true := by
  unfold chkB at *
  simp only [Bool.and_eq_true, decide_eq_true_eq] at h ⊢
  exact ⟨⟨⟨Int.le_refl 0, by decide⟩, h.1.2⟩, h.2⟩
theorem wide_num {m p b a z : Bool} {wd pr : Int} {c x : Nat} (h : numE wd pr c = 0) : numE 0 pr c = 0 ∧ Wide (numT m p b a z wd pr c x) (numT m p b a z 0 pr c x) wd m z := by
  unfold numE at h
  split at h
  case isFalse => cases h
  rename_i hk
  have hk0 : chkB 0 pr c = true ∧ vNum.contains c.toUInt8 = true := ⟨chk_wd hk.1, hk.2⟩
  refine ⟨by unfold numE; rw [if_pos hk0], ?_⟩
  unfold numT
  rw [if_pos hk, if_pos hk0]
  cases oddL x with
  | some n =>
    show Wide (fillL n _ m) (fillL n _ m) wd m z
    rw [fillL_zero n m (show (0 : Int) - (n.length : Int) ≤ 0 by omega)]
    exact wide_fill n wd m z
  | none =>
    show Wide (if _ then _ else _) (if _ then _ else _) wd m z
    split
    · unfold wholeL
      exact wide_laid _ _ _ _ _ _ _ (fun e => by cases z with | true => rfl | false => simp at e)
    · unfold pointT
      exact wide_laid _ _ _ _ _ _ _ (fun e => e)
theorem num_no {m p b a z : Bool} {wd pr : Int} {c x : Nat} (h : numE wd pr c ≠ 0) : numE wd pr c = 50 ∧ numT m p b a z wd pr c x = [] := by
  unfold numE at h ⊢
  unfold numT
  split at h
  · exact absurd rfl h
  · rename_i hk
    rw [if_neg hk, if_neg hk]
    exact ⟨rfl, rfl⟩
/-- The last bytes, by numbers. -/
theorem subB_tail (s : ByteArray) (k : Nat) (hk : k ≤ s.size) : subB s true ((k : Int) + 1) ((s.size : Int) + 1) = s.extract k s.size := by
  unfold subB
  rw [cnt_byte, show max ((k : Int) + 1) 1 = (k : Int) + 1 by omega, show min ((s.size : Int) + 1) ((s.size : Int) + 1) = (s.size : Int) + 1 by omega]
  by_cases h : (s.size : Int) + 1 ≤ (k : Int) + 1
  · rw [if_pos h]
    have e : k = s.size := by omega
    subst e
    apply ByteArray.ext
    apply Array.toList_inj.1
    simp
  · rw [if_neg h, show ((k : Int) + 1 - 1).toNat = k by omega, show ((s.size : Int) + 1 - 1).toNat = s.size by omega, pl_byte s k hk, pl_byte s _ (Nat.le_refl _)]
end Go.Proofs.YtbbbdcohkfijoaaGreatDoor

namespace Go.Proofs.YtbbbdcohkfijoaaGreatDoor
open Go.RowKit Go.Lib

theorem at_madeB (w : World) (n : Nat) : At .u8 (w.alloc (.cells (madeCells #[Value.int .u8 0] n) 5)) w.heap.size 5 [] (List.replicate n 0) [] :=
  ⟨_, heap_alloc_new w _, by
    rw [toList_madeCells_one, nums, List.map_replicate]
    simp⟩
theorem and_low (z : Nat) (hz : z = 3 ∨ z = 4) (m : Nat) (h : m < 18446744073709551616) : bits .and .u64 (m : Int) (2 ^ z - 1) = ((m % 2 ^ z : Nat) : Int) := by
  have e : ((2 : Int) ^ z - 1) = ((2 ^ z - 1 : Nat) : Int) := by rcases hz with rfl | rfl <;> rfl
  have h1 := u64_and_nat m (2 ^ z - 1) h (by rcases hz with rfl | rfl <;> decide)
  rw [Nat.and_two_pow_sub_one_eq_mod] at h1
  rw [e]
  exact h1
theorem wrap_u64 (y : Nat) : IntKind.u64.wrap (y : Int) = ((y % 18446744073709551616 : Nat) : Int) := by
  rw [show IntKind.u64.wrap (y : Int) = (y : Int) % 18446744073709551616 from by simp [IntKind.wrap, IntKind.bits, IntKind.signed]]
  omega
theorem shl_dig {P t z : Nat} (hz : z = 3 ∨ z = 4) (_hP : P < 9007199254740992) : P * 2 ^ min t 64 % 18446744073709551616 % 2 ^ z = P * 2 ^ t % 2 ^ z := by
  rcases Nat.le_total t 64 with h | h
  · rw [Nat.min_eq_left h]
    exact Nat.mod_mod_of_dvd _ (by rcases hz with rfl | rfl <;> decide)
  · rw [Nat.min_eq_right h, Nat.mod_mod_of_dvd _ (by rcases hz with rfl | rfl <;> decide)]
    have e : ∀ u, z ≤ u → P * 2 ^ u % 2 ^ z = 0 := fun u hu => by
      obtain ⟨v, rfl⟩ : ∃ v, u = z + v := ⟨u - z, by omega⟩
      rw [Nat.pow_add, ← Nat.mul_assoc, Nat.mul_comm P, Nat.mul_assoc]
      exact Nat.mul_mod_right _ _
    rw [e 64 (by omega), e t (by omega)]
theorem shr_dig {P t : Nat} (hP : P < 9007199254740992) : P / 2 ^ min t 64 = P / 2 ^ t := by
  rcases Nat.le_total t 64 with h | h
  · rw [Nat.min_eq_left h]
  · rw [Nat.min_eq_right h, Nat.div_eq_of_lt (by omega), Nat.div_eq_of_lt (Nat.lt_of_lt_of_le (by omega : P < 2 ^ 64) (Nat.pow_le_pow_right (by omega) h))]
theorem dig_low {P t z : Nat} (hz : z = 3 ∨ z = 4) (hP : P < 9007199254740992) : bits BinOp.and IntKind.u64 (IntKind.u64.wrap ((P : Int) * 2 ^ min t 64)) (2 ^ z - 1) = ((P * 2 ^ t % 2 ^ z : Nat) : Int) := by
  have e : (P : Int) * 2 ^ min t 64 = ((P * 2 ^ min t 64 : Nat) : Int) := by push_cast; rfl
  rw [e, wrap_u64, and_low z hz _ (Nat.mod_lt _ (by decide)), shl_dig hz hP]
theorem dig_high {P t z : Nat} (hz : z = 3 ∨ z = 4) (hP : P < 9007199254740992) : bits BinOp.and IntKind.u64 (IntKind.u64.wrap ((P : Int) / 2 ^ min t 64)) (2 ^ z - 1) = ((P / 2 ^ t % 2 ^ z : Nat) : Int) := by
  have e : (P : Int) / 2 ^ min t 64 = ((P / 2 ^ min t 64 : Nat) : Int) := by push_cast; rfl
  have hl : P / 2 ^ min t 64 < 18446744073709551616 := Nat.lt_of_le_of_lt (Nat.div_le_self _ _) (by omega)
  rw [e, wrap_u64, Nat.mod_eq_of_lt hl, and_low z hz _ hl, shr_dig hP]
theorem nums_ibT (P : Nat) (E : Int) (z : Nat) (hz : z ≤ 4) : nums .u8 (ibL P E z) = (ibT P E z).map fun x => Value.int .u8 x.toNat := by
  unfold ibT nums ibL
  rw [List.map_map, List.map_map, List.map_map]
  apply List.map_congr_left
  intro i _
  have h := hexC_lt (ibD_lt P E z (ibN P E z) i hz)
  show Value.int .u8 ((hexC (ibD P E z (ibN P E z) i) : Nat) : Int) = Value.int .u8 ((hexC (ibD P E z (ibN P E z) i)).toUInt8.toNat : Int)
  congr 2
  simp only [Nat.toUInt8, UInt8.toNat_ofNat']
  omega
def hexStr : ByteArray := ⟨#[48, 49, 50, 51, 52, 53, 54, 55, 56, 57, 97, 98, 99, 100, 101, 102]⟩
theorem hexStr_at : ∀ d (h : d < 16), (hexStr[d]'h).toNat = hexC d := by decide
theorem ib_more {cur l : List Nat} {k N c : Nat} (hc : cur.length = N) (hl : l.length = N) (hk : k < N) (h : cur.take k = l.take k) (hx : l[k]'(by omega) = c) : (cur.set k c).take (k + 1) = l.take (k + 1) := by
  rw [List.take_succ_eq_append_getElem (by rw [List.length_set]; omega), List.take_succ_eq_append_getElem (by omega), List.getElem_set_self, List.take_set_of_le (Nat.le_refl _), h, hx]
set_option maxRecDepth 100000 in
set_option maxHeartbeats 4000000 in
theorem inBase_any (x z : Nat) (w : World) (hb : x < 18446744073709551616) (h : mag x < 9218868437227405312) (hz : z = 3 ∨ z = 4) : Calls Tryz.prog 131 #[.float .f64 x, .int .i64 (z : Int)] w fun e w' => e = .returned (.string ⟨(ibT (manF (mag x)) (expF (mag x)) z).toArray⟩) ∧ Below w.heap.size w w' := by
  have cP := parts_yes x w hb h
  have hP := manF_lt (r := mag x)
  have hE := expF_le h
  have hE0 : -1074 ≤ expF (mag x) := by unfold expF; split <;> omega
  obtain ⟨P, hPe⟩ : ∃ P, manF (mag x) = P := ⟨_, rfl⟩
  obtain ⟨E, hEe⟩ : ∃ E, expF (mag x) = E := ⟨_, rfl⟩
  rw [hPe] at cP hP ⊢
  rw [hEe] at cP hE hE0 ⊢
  have cL := Tryz.bits_Len64 (P : Int) w (by omega) (by omega)
  rw [Int.toNat_natCast] at cL
  have hL : Lib.bitLen P ≤ 64 := Lib.bitLen_le P 64 (by omega) (by omega)
  have hN := ibN_bd (P := P) (E := E) hP hE hz
  have hNe : max 1 (Int.tdiv ((Lib.bitLen P : Int) + E + (z : Int) - 1) (z : Int)) = (ibN P E z : Int) := by unfold ibN; omega
  obtain ⟨N, hNN⟩ : ∃ N, ibN P E z = N := ⟨_, rfl⟩
  obtain ⟨L, hLL⟩ : ∃ L, Lib.bitLen P = L := ⟨_, rfl⟩
  rw [hNN] at hN hNe
  rw [hLL] at cL hL hNe
  have CP := Lib.hid cP
  have CL := Lib.hid cL
  have HNN := Lib.hid hNN
  obtain ⟨i0, hi, hz0, hz1, hz2⟩ := info_parts info_u8
  have hmk : ∀ W : World, (Instr.makeSlice 95 (.int .i64 (N : Int)) (.int .i64 (N : Int))).run Tryz.prog W = .ok (.slice (some ⟨W.heap.size, 0, none⟩) N N) (W.alloc (.cells (madeCells (Value.int .u8 0).cells (N * 1)) 5)) := fun W => by
    have := run_make (P := Tryz.prog) W 95 5 i0 (.int .u8 0) Tryz.underlying95 hi hz0 .i64 .i64 (N : Int) (N : Int) (by omega) (by omega) (by rw [hz2]; omega) (by omega)
    rw [hz1, Int.toNat_natCast] at this
    exact this
  clear cP cL hPe hEe hLL hNN h hb hi hz0 hz1 hz2
  rcases hz with rfl | rfl
  · go_enter Tryz.func131, Tryz.ntmps131
    go_wp2_with fail
    refine CP.out.mono ?_
    rintro e w' ⟨rfl, rfl⟩
    go_wp2_with fail
    refine CL.out.mono ?_
    rintro e w' ⟨rfl, rfl⟩
    have hN3 : max 1 (Int.tdiv ((L : Int) + E + 3 - 1) 3) = (N : Int) := hNe
    go_wp2_with fail
    have hO0 := own_of_at (B := w'.heap.size) (cap := N) (at_madeB w' N) (Nat.le_refl _) (by simp) (by unfold maxLen; omega)
    rw [List.length_replicate] at hO0
    have hB0 := (Below.refl w'.heap.size w').alloc (Nat.le_refl _) (.cells (madeCells #[Value.int .u8 0] N) 5)
    go_loopw [33] (fun i wr => ∃ (k : Nat) (cur : List Nat), k ≤ N ∧ i = .int .i64 k ∧ cur.length = N ∧ cur.take k = (ibL P E 3).take k ∧ Own .u8 wr w'.heap.size 5 (.slice (some ⟨w'.heap.size, 0, none⟩) N N) cur ∧ Below w'.heap.size w' wr) (fun i _ => N - (RowKit.intOf i).toNat)
    case atStart => exact ⟨0, _, Nat.zero_le _, rfl, List.length_replicate, rfl, hO0, hB0⟩
    case round =>
      clear hO0 hB0
      obtain ⟨k, cur, hk, rfl, hcl, hpre, hO, hB⟩ := hrel
      by_cases hlt : k < N
      · have hd := ibD_lt P E 3 N k (by decide)
        obtain ⟨sh, hsh⟩ : ∃ sh : Int, ((N : Int) - 1 - (k : Int)) * 3 - E = sh := ⟨_, rfl⟩
        have hd2 : ibD P E 3 N k = P / 2 ^ sh.toNat * 2 ^ (-sh).toNat % 2 ^ 3 := by unfold ibD ibS; rw [← hsh]; rfl
        have hcell := hO.cell k (by omega)
        have hf : wr.frozen? ⟨w'.heap.size, k, none⟩ = false := World.ownsRow.frozenAt (hO.row hcl) k
        have HO := Lib.hid hO
        have HB := Lib.hid hB
        have HPRE := Lib.hid hpre
        clear hO hB hpre
        rcases Int.lt_or_le sh 0 with q | q
        · obtain ⟨t, rfl⟩ : ∃ t : Nat, sh = -(t : Int) := ⟨(-sh).toNat, by omega⟩
          have hm1 : max 0 (-(t : Int)) = 0 := by omega
          have hm2 : max 0 (t : Int) = (t : Int) := by omega
          have hdv : ibD P E 3 N k = P * 2 ^ t % 2 ^ 3 := by rw [hd2]; rw [show (-(t : Int)).toNat = 0 by omega, show (-(-(t : Int))).toNat = t by omega, Nat.pow_zero, Nat.div_one]
          have hdig : bits BinOp.and IntKind.u64 (IntKind.u64.wrap ((P : Int) * 2 ^ min t 64)) 7 = ((ibD P E 3 N k : Nat) : Int) := by rw [hdv]; exact dig_low (z := 3) (Or.inl rfl) hP
          obtain ⟨d, hdd⟩ : ∃ d, ibD P E 3 N k = d := ⟨_, rfl⟩
          rw [hdd] at hdig hd
          have hat2 : ((⟨#[48, 49, 50, 51, 52, 53, 54, 55, 56, 57, 97, 98, 99, 100, 101, 102]⟩ : ByteArray)[d]'hd).toNat = hexC d := hexStr_at d hd
          have HDD := Lib.hid hdd
          clear hd2 hdv hdd
          go_wp2_with fail
          go_region
          all_goals
            go_wp2_with fail
            refine ⟨⟨k + 1, cur.set k (hexC d), by omega, vint (by omega), by rw [List.length_set]; exact hcl, ib_more hcl (by rw [ibL_len]; exact HNN.out) hlt HPRE.out (by simp only [ibL, List.getElem_map, List.getElem_range]; rw [HNN.out, HDD.out]), ?_, ?_⟩, by simp [RowKit.intOf]; omega⟩
            · exact (HO.out.set hcl.symm k (hexC d)).drew
            · exact (HB.out.setCell (p := ⟨w'.heap.size, k, none⟩) (Nat.le_refl _) _).drew
        · obtain ⟨t, rfl⟩ : ∃ t : Nat, sh = (t : Int) := ⟨(sh).toNat, by omega⟩
          have hm1 : max 0 (-(t : Int)) = 0 := by omega
          have hm2 : max 0 (t : Int) = (t : Int) := by omega
          have hdv : ibD P E 3 N k = P / 2 ^ t % 2 ^ 3 := by rw [hd2]; rw [show (-(t : Int)).toNat = 0 by omega, Int.toNat_natCast, Nat.pow_zero, Nat.mul_one]
          have hdig : bits BinOp.and IntKind.u64 (IntKind.u64.wrap ((P : Int) / 2 ^ min t 64)) 7 = ((ibD P E 3 N k : Nat) : Int) := by rw [hdv]; exact dig_high (z := 3) (Or.inl rfl) hP
          obtain ⟨d, hdd⟩ : ∃ d, ibD P E 3 N k = d := ⟨_, rfl⟩
          rw [hdd] at hdig hd
          have hat2 : ((⟨#[48, 49, 50, 51, 52, 53, 54, 55, 56, 57, 97, 98, 99, 100, 101, 102]⟩ : ByteArray)[d]'hd).toNat = hexC d := hexStr_at d hd
          have HDD := Lib.hid hdd
          clear hd2 hdv hdd
          go_wp2_with fail
          go_region
          all_goals
            go_wp2_with fail
            refine ⟨⟨k + 1, cur.set k (hexC d), by omega, vint (by omega), by rw [List.length_set]; exact hcl, ib_more hcl (by rw [ibL_len]; exact HNN.out) hlt HPRE.out (by simp only [ibL, List.getElem_map, List.getElem_range]; rw [HNN.out, HDD.out]), ?_, ?_⟩, by simp [RowKit.intOf]; omega⟩
            · exact (HO.out.set hcl.symm k (hexC d)).drew
            · exact (HB.out.setCell (p := ⟨w'.heap.size, k, none⟩) (Nat.le_refl _) _).drew
      · have hkn : k = N := by omega
        subst hkn
        have hc2 : cur = ibL P E 3 := by
          have h1 : cur.take k = cur := List.take_of_length_le (by omega)
          have h2 : (ibL P E 3).take k = ibL P E 3 := List.take_of_length_le (by rw [ibL_len, HNN.out]; exact Nat.le_refl _)
          rw [← h1, hpre, h2]
        subst hc2
        have hlT : (ibT P E 3).length = k := by rw [ibT_len, HNN.out]
        have hrow : wr.ownsRow w'.heap.size 5 1 (.slice (some ⟨w'.heap.size, 0, none⟩) k k) (ibT P E 3).length ((ibT P E 3).map fun x => Value.int .u8 x.toNat) := by
          have := hO.row hcl
          rw [nums_ibT _ _ _ (by decide)] at this
          rw [hlT]
          exact this
        have hcv := conv_digits wr w'.heap.size _ _ hrow
        clear hrow hO hpre hlT
        go_wp2
        go_ret
        exact ⟨rfl, hB⟩
  · go_enter Tryz.func131, Tryz.ntmps131
    go_wp2_with fail
    refine CP.out.mono ?_
    rintro e w' ⟨rfl, rfl⟩
    go_wp2_with fail
    refine CL.out.mono ?_
    rintro e w' ⟨rfl, rfl⟩
    have hN3 : max 1 (Int.tdiv ((L : Int) + E + 4 - 1) 4) = (N : Int) := hNe
    go_wp2_with fail
    have hO0 := own_of_at (B := w'.heap.size) (cap := N) (at_madeB w' N) (Nat.le_refl _) (by simp) (by unfold maxLen; omega)
    rw [List.length_replicate] at hO0
    have hB0 := (Below.refl w'.heap.size w').alloc (Nat.le_refl _) (.cells (madeCells #[Value.int .u8 0] N) 5)
    go_loopw [33] (fun i wr => ∃ (k : Nat) (cur : List Nat), k ≤ N ∧ i = .int .i64 k ∧ cur.length = N ∧ cur.take k = (ibL P E 4).take k ∧ Own .u8 wr w'.heap.size 5 (.slice (some ⟨w'.heap.size, 0, none⟩) N N) cur ∧ Below w'.heap.size w' wr) (fun i _ => N - (RowKit.intOf i).toNat)
    case atStart => exact ⟨0, _, Nat.zero_le _, rfl, List.length_replicate, rfl, hO0, hB0⟩
    case round =>
      clear hO0 hB0
      obtain ⟨k, cur, hk, rfl, hcl, hpre, hO, hB⟩ := hrel
      by_cases hlt : k < N
      · have hd := ibD_lt P E 4 N k (by decide)
        obtain ⟨sh, hsh⟩ : ∃ sh : Int, ((N : Int) - 1 - (k : Int)) * 4 - E = sh := ⟨_, rfl⟩
        have hd2 : ibD P E 4 N k = P / 2 ^ sh.toNat * 2 ^ (-sh).toNat % 2 ^ 4 := by unfold ibD ibS; rw [← hsh]; rfl
        have hcell := hO.cell k (by omega)
        have hf : wr.frozen? ⟨w'.heap.size, k, none⟩ = false := World.ownsRow.frozenAt (hO.row hcl) k
        have HO := Lib.hid hO
        have HB := Lib.hid hB
        have HPRE := Lib.hid hpre
        clear hO hB hpre
        rcases Int.lt_or_le sh 0 with q | q
        · obtain ⟨t, rfl⟩ : ∃ t : Nat, sh = -(t : Int) := ⟨(-sh).toNat, by omega⟩
          have hm1 : max 0 (-(t : Int)) = 0 := by omega
          have hm2 : max 0 (t : Int) = (t : Int) := by omega
          have hdv : ibD P E 4 N k = P * 2 ^ t % 2 ^ 4 := by rw [hd2]; rw [show (-(t : Int)).toNat = 0 by omega, show (-(-(t : Int))).toNat = t by omega, Nat.pow_zero, Nat.div_one]
          have hdig : bits BinOp.and IntKind.u64 (IntKind.u64.wrap ((P : Int) * 2 ^ min t 64)) 15 = ((ibD P E 4 N k : Nat) : Int) := by rw [hdv]; exact dig_low (z := 4) (Or.inr rfl) hP
          obtain ⟨d, hdd⟩ : ∃ d, ibD P E 4 N k = d := ⟨_, rfl⟩
          rw [hdd] at hdig hd
          have hat2 : ((⟨#[48, 49, 50, 51, 52, 53, 54, 55, 56, 57, 97, 98, 99, 100, 101, 102]⟩ : ByteArray)[d]'hd).toNat = hexC d := hexStr_at d hd
          have HDD := Lib.hid hdd
          clear hd2 hdv hdd
          go_wp2_with fail
          go_region
          all_goals
            go_wp2_with fail
            refine ⟨⟨k + 1, cur.set k (hexC d), by omega, vint (by omega), by rw [List.length_set]; exact hcl, ib_more hcl (by rw [ibL_len]; exact HNN.out) hlt HPRE.out (by simp only [ibL, List.getElem_map, List.getElem_range]; rw [HNN.out, HDD.out]), ?_, ?_⟩, by simp [RowKit.intOf]; omega⟩
            · exact (HO.out.set hcl.symm k (hexC d)).drew
            · exact (HB.out.setCell (p := ⟨w'.heap.size, k, none⟩) (Nat.le_refl _) _).drew
        · obtain ⟨t, rfl⟩ : ∃ t : Nat, sh = (t : Int) := ⟨(sh).toNat, by omega⟩
          have hm1 : max 0 (-(t : Int)) = 0 := by omega
          have hm2 : max 0 (t : Int) = (t : Int) := by omega
          have hdv : ibD P E 4 N k = P / 2 ^ t % 2 ^ 4 := by rw [hd2]; rw [show (-(t : Int)).toNat = 0 by omega, Int.toNat_natCast, Nat.pow_zero, Nat.mul_one]
          have hdig : bits BinOp.and IntKind.u64 (IntKind.u64.wrap ((P : Int) / 2 ^ min t 64)) 15 = ((ibD P E 4 N k : Nat) : Int) := by rw [hdv]; exact dig_high (z := 4) (Or.inr rfl) hP
          obtain ⟨d, hdd⟩ : ∃ d, ibD P E 4 N k = d := ⟨_, rfl⟩
          rw [hdd] at hdig hd
          have hat2 : ((⟨#[48, 49, 50, 51, 52, 53, 54, 55, 56, 57, 97, 98, 99, 100, 101, 102]⟩ : ByteArray)[d]'hd).toNat = hexC d := hexStr_at d hd
          have HDD := Lib.hid hdd
          clear hd2 hdv hdd
          go_wp2_with fail
          go_region
          all_goals
            go_wp2_with fail
            refine ⟨⟨k + 1, cur.set k (hexC d), by omega, vint (by omega), by rw [List.length_set]; exact hcl, ib_more hcl (by rw [ibL_len]; exact HNN.out) hlt HPRE.out (by simp only [ibL, List.getElem_map, List.getElem_range]; rw [HNN.out, HDD.out]), ?_, ?_⟩, by simp [RowKit.intOf]; omega⟩
            · exact (HO.out.set hcl.symm k (hexC d)).drew
            · exact (HB.out.setCell (p := ⟨w'.heap.size, k, none⟩) (Nat.le_refl _) _).drew
      · have hkn : k = N := by omega
        subst hkn
        have hc2 : cur = ibL P E 4 := by
          have h1 : cur.take k = cur := List.take_of_length_le (by omega)
          have h2 : (ibL P E 4).take k = ibL P E 4 := List.take_of_length_le (by rw [ibL_len, HNN.out]; exact Nat.le_refl _)
          rw [← h1, hpre, h2]
        subst hc2
        have hlT : (ibT P E 4).length = k := by rw [ibT_len, HNN.out]
        have hrow : wr.ownsRow w'.heap.size 5 1 (.slice (some ⟨w'.heap.size, 0, none⟩) k k) (ibT P E 4).length ((ibT P E 4).map fun x => Value.int .u8 x.toNat) := by
          have := hO.row hcl
          rw [nums_ibT _ _ _ (by decide)] at this
          rw [hlT]
          exact this
        have hcv := conv_digits wr w'.heap.size _ _ hrow
        clear hrow hO hpre hlT
        go_wp2
        go_ret
        exact ⟨rfl, hB⟩
end Go.Proofs.YtbbbdcohkfijoaaGreatDoor
