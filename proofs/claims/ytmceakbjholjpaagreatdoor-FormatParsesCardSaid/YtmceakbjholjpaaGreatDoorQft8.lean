/- Several texts in one (Contracts of layer 1: 'size' of the definition; Contracts of layer 1: the character at a place of a string, in the program (Next) and in the definition (size, Next); Contracts of layer 1: Next, in the program and in the definition; Plain arithmetic of layer 1: the places at which the characters of a string begin; Contracts of layer 1: All, the iterator over a string's characters; Contracts of layer 1: Len, recase, Lower, Upper; Contracts of layer 1: recase; Contracts of layer 1: Starts, Len, Place, Sub of the definition; Layer 1: the law UstrAll, walked; Contracts of layer 1: Place; Contracts of layer 1: ahead; Contracts of layer 1: Sub; Contracts of layer 5: Text; the example of layer 5's laws; The example of layer 5's laws; the walk of the law FormatBack; Contracts of the definition of layer 5: in, many, Check, Text; the walk of the law FormatTexts). -/
import Derived.Test.YtmceakbjholjpaaGreatDoorRows
import Derived.WalkKit
import Derived.WalkSpells
import Derived.WalkLawsBesides
import Derived.Lib.Hide
import Derived.Test.YtmceakbjholjpaaGreatDoorShelf
import Derived.Lib.RuneCountTail
import Derived.Lib.RuneCount
import Derived.RangeFuncNested
import Derived.RangeFuncBound
import Derived.RangeFuncCalls
import Derived.RangeFuncLeaves
import Derived.Shelf.Abstract
import Derived.Shelf.RegionOpen
import Derived.OwnWalkIn
import Derived.TacticsInMore
import Derived.LoopNIn
import Derived.LoopIn
import Derived.Lib.LazyBuf
import Derived.Deep.Upon
import Derived.WalkSmall
import Derived.BigQuiet
import Derived.Deep.QuietTactic
import Derived.Test.YtmceakbjholjpaaGreatDoorQft3
import Derived.Test.YtmceakbjholjpaaGreatDoorQft5
import Derived.Test.YtmceakbjholjpaaGreatDoorQft7
namespace Go.Proofs.YtmceakbjholjpaaGreatDoor
open Go.RowKit Go.Lib

set_option maxRecDepth 100000 in
set_option maxHeartbeats 1000000 in
theorem size_2 (s : ByteArray) (w : World) (hl : 2 ≤ s.size) (hs : s.size ≤ 9223372036854775807) (h1 : 194 ≤ (s.get! 0).toNat) (h2 : (s.get! 0).toNat ≤ 223) :
    Calls Tryz.prog 168 #[.string s] w fun e w' => e = .returned (.tuple #[.int .i64 (runN s 2 ((s.get! 0).toNat % 32) 128).1, .int .i64 (runN s 2 ((s.get! 0).toNat % 32) 128).2]) ∧ w = w' := by
  have g0 := get!_lt s 0 (by omega)
  have c1 : 194 ≤ (s[0].toNat : Int) := by rw [g0]; omega
  have c2 : (s[0].toNat : Int) ≤ 223 := by rw [g0]; omega
  obtain ⟨r0, hr0⟩ : ∃ r0, (s.get! 0).toNat % 32 = r0 := ⟨_, rfl⟩
  have hr1 : r0 < 32 := by omega
  rw [hr0]
  obtain ⟨R, hR⟩ : ∃ R, runN s 2 r0 128 = R := ⟨_, rfl⟩
  rw [hR]
  have G0 := Lib.hid g0; clear g0
  have B0 := Lib.hid hr0; clear hr0
  have HR := Lib.hid hR; clear hR
  go_enter Tryz.func168, Tryz.ntmps168
  go_wp2
  go_loop [6, 8, 9] (fun r i _ => ∃ k : Nat, k + 1 ≤ 2 ∧ i = .int .i64 (k + 1 : Nat) ∧ r = .int .i64 (accN s r0 k) ∧ ∀ j, j < k → contN (s.get! (j + 1)).toNat = true) (fun _ i _ => 2 - (RowKit.intOf i).toNat)
  case atStart => exact ⟨0, by omega, rfl, by rw [show accN s r0 0 = r0 from rfl, ← B0.out, ← G0.out]; go_num, fun _ h => by omega⟩
  case round =>
    obtain ⟨k, hk, rfl, rfl, hall⟩ := hrel
    have hacc := accN_bd s r0 32 k hr1 hall
    obtain ⟨A, hA⟩ : ∃ A, accN s r0 k = A := ⟨_, rfl⟩
    have hA2 : A < 2097152 := by
      rw [hA] at hacc
      have h64 := Nat.mul_le_mul_left 32 (Nat.pow_le_pow_right (n := 64) (by omega) (show k ≤ 1 by omega))
      have e64 : 32 * 64 ^ 1 ≤ 2097152 := by decide
      omega
    clear hacc
    by_cases hlt : k + 1 < 2
    · have gk := get!_lt s (k + 1) (by omega)
      have HALL := Lib.hid hall; clear hall
      have hb : (s[k + 1].toNat : Int) < 256 := by rw [gk]; have := get!_lt256 s (k + 1); omega
      by_cases hc : contN (s.get! (k + 1)).toNat = true
      · have hc1 : 128 ≤ (s[k + 1].toNat : Int) := by rw [gk]; simp [contN] at hc; omega
        have hc2 : (s[k + 1].toNat : Int) ≤ 191 := by rw [gk]; simp [contN] at hc; omega
        have HC := Lib.hid hc; clear hc
        have GK := Lib.hid gk; clear gk
        rw [hA]
        have HA := Lib.hid hA; clear hA
        go_wp2
        go_round
        case rel =>
          refine ⟨k + 1, by omega, by go_num, ?_, fun j hj => ?_⟩
          · have e2 : accN s r0 (k + 1) = 64 * A + s[k + 1].toNat - 128 := by rw [← HA.out, GK.out]; rfl
            rw [e2]
            go_num
          · by_cases hjk : j < k
            · exact HALL.out j hjk
            · obtain rfl : j = k := by omega
              exact HC.out
        case measure => simp [RowKit.intOf]; omega
      · have hc' : contN (s.get! (k + 1)).toNat = false := by simpa using hc
        clear hc
        have hR := HR.out
        rw [runN_no s 2 r0 128 k hlt hc'] at hR
        subst hR
        have HR2 := HR; clear HR
        by_cases h128 : (s[k + 1].toNat : Int) < 128
        · have HC := Lib.hid hc'; clear hc'
          have GK := Lib.hid gk; clear gk
          rw [hA]; clear hA
          go_wp2
          go_ret2
          exact ⟨rfl, rfl⟩
        · have h191 : 191 < (s[k + 1].toNat : Int) := by rw [gk] at h128 ⊢; simp [contN] at hc'; omega
          have HC := Lib.hid hc'; clear hc'
          have GK := Lib.hid gk; clear gk
          rw [hA]; clear hA
          go_wp2
          go_ret2
          exact ⟨rfl, rfl⟩
    · have hkn : k + 1 = 2 := by omega
      have hR := HR.out
      rw [runN_yes s 2 r0 128 k hkn hall, hA] at hR
      clear hall HR
      rw [hA]; clear hA
      by_cases t1 : A < 128
      · rw [outN_no _ _ _ (.inl t1)] at hR; subst hR
        have HK := Lib.hid hkn; clear hkn
        go_wp2
        go_ret2
        exact ⟨rfl, rfl⟩
      by_cases t2 : 1114111 < A
      · rw [outN_no _ _ _ (.inr (.inl t2))] at hR; subst hR
        have HK := Lib.hid hkn; clear hkn
        go_wp2
        go_ret2
        exact ⟨rfl, rfl⟩
      by_cases t3 : 55296 ≤ A
      · by_cases t4 : A ≤ 57343
        · rw [outN_no _ _ _ (.inr (.inr ⟨t3, t4⟩))] at hR; subst hR
          have HK := Lib.hid hkn; clear hkn
          go_wp2
          go_ret2
          exact ⟨rfl, rfl⟩
        · rw [outN_yes _ _ _ (by omega)] at hR; subst hR
          have HK := Lib.hid hkn; clear hkn
          go_wp2
          go_ret2
          exact ⟨rfl, rfl⟩
      · rw [outN_yes _ _ _ (by omega)] at hR; subst hR
        have HK := Lib.hid hkn; clear hkn
        go_wp2
        go_ret2
        exact ⟨rfl, rfl⟩

set_option maxRecDepth 100000 in
set_option maxHeartbeats 1000000 in
theorem size_3 (s : ByteArray) (w : World) (hl : 3 ≤ s.size) (hs : s.size ≤ 9223372036854775807) (h1 : 224 ≤ (s.get! 0).toNat) (h2 : (s.get! 0).toNat ≤ 239) :
    Calls Tryz.prog 168 #[.string s] w fun e w' => e = .returned (.tuple #[.int .i64 (runN s 3 ((s.get! 0).toNat % 16) 2048).1, .int .i64 (runN s 3 ((s.get! 0).toNat % 16) 2048).2]) ∧ w = w' := by
  have g0 := get!_lt s 0 (by omega)
  have c1 : 224 ≤ (s[0].toNat : Int) := by rw [g0]; omega
  have c2 : (s[0].toNat : Int) ≤ 239 := by rw [g0]; omega
  obtain ⟨r0, hr0⟩ : ∃ r0, (s.get! 0).toNat % 16 = r0 := ⟨_, rfl⟩
  have hr1 : r0 < 16 := by omega
  rw [hr0]
  obtain ⟨R, hR⟩ : ∃ R, runN s 3 r0 2048 = R := ⟨_, rfl⟩
  rw [hR]
  have G0 := Lib.hid g0; clear g0
  have B0 := Lib.hid hr0; clear hr0
  have HR := Lib.hid hR; clear hR
  go_enter Tryz.func168, Tryz.ntmps168
  go_wp2
  go_loop [6, 8, 9] (fun r i _ => ∃ k : Nat, k + 1 ≤ 3 ∧ i = .int .i64 (k + 1 : Nat) ∧ r = .int .i64 (accN s r0 k) ∧ ∀ j, j < k → contN (s.get! (j + 1)).toNat = true) (fun _ i _ => 3 - (RowKit.intOf i).toNat)
  case atStart => exact ⟨0, by omega, rfl, by rw [show accN s r0 0 = r0 from rfl, ← B0.out, ← G0.out]; go_num, fun _ h => by omega⟩
  case round =>
    obtain ⟨k, hk, rfl, rfl, hall⟩ := hrel
    have hacc := accN_bd s r0 16 k hr1 hall
    obtain ⟨A, hA⟩ : ∃ A, accN s r0 k = A := ⟨_, rfl⟩
    have hA2 : A < 2097152 := by
      rw [hA] at hacc
      have h64 := Nat.mul_le_mul_left 16 (Nat.pow_le_pow_right (n := 64) (by omega) (show k ≤ 2 by omega))
      have e64 : 16 * 64 ^ 2 ≤ 2097152 := by decide
      omega
    clear hacc
    by_cases hlt : k + 1 < 3
    · have gk := get!_lt s (k + 1) (by omega)
      have HALL := Lib.hid hall; clear hall
      have hb : (s[k + 1].toNat : Int) < 256 := by rw [gk]; have := get!_lt256 s (k + 1); omega
      by_cases hc : contN (s.get! (k + 1)).toNat = true
      · have hc1 : 128 ≤ (s[k + 1].toNat : Int) := by rw [gk]; simp [contN] at hc; omega
        have hc2 : (s[k + 1].toNat : Int) ≤ 191 := by rw [gk]; simp [contN] at hc; omega
        have HC := Lib.hid hc; clear hc
        have GK := Lib.hid gk; clear gk
        rw [hA]
        have HA := Lib.hid hA; clear hA
        go_wp2
        go_round
        case rel =>
          refine ⟨k + 1, by omega, by go_num, ?_, fun j hj => ?_⟩
          · have e2 : accN s r0 (k + 1) = 64 * A + s[k + 1].toNat - 128 := by rw [← HA.out, GK.out]; rfl
            rw [e2]
            go_num
          · by_cases hjk : j < k
            · exact HALL.out j hjk
            · obtain rfl : j = k := by omega
              exact HC.out
        case measure => simp [RowKit.intOf]; omega
      · have hc' : contN (s.get! (k + 1)).toNat = false := by simpa using hc
        clear hc
        have hR := HR.out
        rw [runN_no s 3 r0 2048 k hlt hc'] at hR
        subst hR
        have HR2 := HR; clear HR
        by_cases h128 : (s[k + 1].toNat : Int) < 128
        · have HC := Lib.hid hc'; clear hc'
          have GK := Lib.hid gk; clear gk
          rw [hA]; clear hA
          go_wp2
          go_ret2
          exact ⟨rfl, rfl⟩
        · have h191 : 191 < (s[k + 1].toNat : Int) := by rw [gk] at h128 ⊢; simp [contN] at hc'; omega
          have HC := Lib.hid hc'; clear hc'
          have GK := Lib.hid gk; clear gk
          rw [hA]; clear hA
          go_wp2
          go_ret2
          exact ⟨rfl, rfl⟩
    · have hkn : k + 1 = 3 := by omega
      have hR := HR.out
      rw [runN_yes s 3 r0 2048 k hkn hall, hA] at hR
      clear hall HR
      rw [hA]; clear hA
      by_cases t1 : A < 2048
      · rw [outN_no _ _ _ (.inl t1)] at hR; subst hR
        have HK := Lib.hid hkn; clear hkn
        go_wp2
        go_ret2
        exact ⟨rfl, rfl⟩
      by_cases t2 : 1114111 < A
      · rw [outN_no _ _ _ (.inr (.inl t2))] at hR; subst hR
        have HK := Lib.hid hkn; clear hkn
        go_wp2
        go_ret2
        exact ⟨rfl, rfl⟩
      by_cases t3 : 55296 ≤ A
      · by_cases t4 : A ≤ 57343
        · rw [outN_no _ _ _ (.inr (.inr ⟨t3, t4⟩))] at hR; subst hR
          have HK := Lib.hid hkn; clear hkn
          go_wp2
          go_ret2
          exact ⟨rfl, rfl⟩
        · rw [outN_yes _ _ _ (by omega)] at hR; subst hR
          have HK := Lib.hid hkn; clear hkn
          go_wp2
          go_ret2
          exact ⟨rfl, rfl⟩
      · rw [outN_yes _ _ _ (by omega)] at hR; subst hR
        have HK := Lib.hid hkn; clear hkn
        go_wp2
        go_ret2
        exact ⟨rfl, rfl⟩

set_option maxRecDepth 100000 in
set_option maxHeartbeats 1000000 in
theorem size_4 (s : ByteArray) (w : World) (hl : 4 ≤ s.size) (hs : s.size ≤ 9223372036854775807) (h1 : 240 ≤ (s.get! 0).toNat) (h2 : (s.get! 0).toNat ≤ 244) :
    Calls Tryz.prog 168 #[.string s] w fun e w' => e = .returned (.tuple #[.int .i64 (runN s 4 ((s.get! 0).toNat % 8) 65536).1, .int .i64 (runN s 4 ((s.get! 0).toNat % 8) 65536).2]) ∧ w = w' := by
  have g0 := get!_lt s 0 (by omega)
  have c1 : 240 ≤ (s[0].toNat : Int) := by rw [g0]; omega
  have c2 : (s[0].toNat : Int) ≤ 244 := by rw [g0]; omega
  obtain ⟨r0, hr0⟩ : ∃ r0, (s.get! 0).toNat % 8 = r0 := ⟨_, rfl⟩
  have hr1 : r0 < 8 := by omega
  rw [hr0]
  obtain ⟨R, hR⟩ : ∃ R, runN s 4 r0 65536 = R := ⟨_, rfl⟩
  rw [hR]
  have G0 := Lib.hid g0; clear g0
  have B0 := Lib.hid hr0; clear hr0
  have HR := Lib.hid hR; clear hR
  go_enter Tryz.func168, Tryz.ntmps168
  go_wp2
  go_loop [6, 8, 9] (fun r i _ => ∃ k : Nat, k + 1 ≤ 4 ∧ i = .int .i64 (k + 1 : Nat) ∧ r = .int .i64 (accN s r0 k) ∧ ∀ j, j < k → contN (s.get! (j + 1)).toNat = true) (fun _ i _ => 4 - (RowKit.intOf i).toNat)
  case atStart => exact ⟨0, by omega, rfl, by rw [show accN s r0 0 = r0 from rfl, ← B0.out, ← G0.out]; go_num, fun _ h => by omega⟩
  case round =>
    obtain ⟨k, hk, rfl, rfl, hall⟩ := hrel
    have hacc := accN_bd s r0 8 k hr1 hall
    obtain ⟨A, hA⟩ : ∃ A, accN s r0 k = A := ⟨_, rfl⟩
    have hA2 : A < 2097152 := by
      rw [hA] at hacc
      have h64 := Nat.mul_le_mul_left 8 (Nat.pow_le_pow_right (n := 64) (by omega) (show k ≤ 3 by omega))
      have e64 : 8 * 64 ^ 3 ≤ 2097152 := by decide
      omega
    clear hacc
    by_cases hlt : k + 1 < 4
    · have gk := get!_lt s (k + 1) (by omega)
      have HALL := Lib.hid hall; clear hall
      have hb : (s[k + 1].toNat : Int) < 256 := by rw [gk]; have := get!_lt256 s (k + 1); omega
      by_cases hc : contN (s.get! (k + 1)).toNat = true
      · have hc1 : 128 ≤ (s[k + 1].toNat : Int) := by rw [gk]; simp [contN] at hc; omega
        have hc2 : (s[k + 1].toNat : Int) ≤ 191 := by rw [gk]; simp [contN] at hc; omega
        have HC := Lib.hid hc; clear hc
        have GK := Lib.hid gk; clear gk
        rw [hA]
        have HA := Lib.hid hA; clear hA
        go_wp2
        go_round
        case rel =>
          refine ⟨k + 1, by omega, by go_num, ?_, fun j hj => ?_⟩
          · have e2 : accN s r0 (k + 1) = 64 * A + s[k + 1].toNat - 128 := by rw [← HA.out, GK.out]; rfl
            rw [e2]
            go_num
          · by_cases hjk : j < k
            · exact HALL.out j hjk
            · obtain rfl : j = k := by omega
              exact HC.out
        case measure => simp [RowKit.intOf]; omega
      · have hc' : contN (s.get! (k + 1)).toNat = false := by simpa using hc
        clear hc
        have hR := HR.out
        rw [runN_no s 4 r0 65536 k hlt hc'] at hR
        subst hR
        have HR2 := HR; clear HR
        by_cases h128 : (s[k + 1].toNat : Int) < 128
        · have HC := Lib.hid hc'; clear hc'
          have GK := Lib.hid gk; clear gk
          rw [hA]; clear hA
          go_wp2
          go_ret2
          exact ⟨rfl, rfl⟩
        · have h191 : 191 < (s[k + 1].toNat : Int) := by rw [gk] at h128 ⊢; simp [contN] at hc'; omega
          have HC := Lib.hid hc'; clear hc'
          have GK := Lib.hid gk; clear gk
          rw [hA]; clear hA
          go_wp2
          go_ret2
          exact ⟨rfl, rfl⟩
    · have hkn : k + 1 = 4 := by omega
      have hR := HR.out
      rw [runN_yes s 4 r0 65536 k hkn hall, hA] at hR
      clear hall HR
      rw [hA]; clear hA
      by_cases t1 : A < 65536
      · rw [outN_no _ _ _ (.inl t1)] at hR; subst hR
        have HK := Lib.hid hkn; clear hkn
        go_wp2
        go_ret2
        exact ⟨rfl, rfl⟩
      by_cases t2 : 1114111 < A
      · rw [outN_no _ _ _ (.inr (.inl t2))] at hR; subst hR
        have HK := Lib.hid hkn; clear hkn
        go_wp2
        go_ret2
        exact ⟨rfl, rfl⟩
      by_cases t3 : 55296 ≤ A
      · by_cases t4 : A ≤ 57343
        · exfalso; omega
        · rw [outN_yes _ _ _ (by omega)] at hR; subst hR
          have HK := Lib.hid hkn; clear hkn
          go_wp2
          go_ret2
          exact ⟨rfl, rfl⟩
      · exfalso; omega
end Go.Proofs.YtmceakbjholjpaaGreatDoor

namespace Go.Proofs.YtmceakbjholjpaaGreatDoor
open Go.RowKit Go.Lib

def sizS (s : ByteArray) : Nat × Nat := sizN s.size (s.get! 0).toNat (s.get! 1).toNat (s.get! 2).toNat (s.get! 3).toNat

set_option maxRecDepth 100000 in
set_option maxHeartbeats 1000000 in
theorem size_any (s : ByteArray) (w : World) (h0 : 0 < s.size) (hs : s.size ≤ 9223372036854775807) :
    Calls Tryz.prog 168 #[.string s] w fun e w' => e = .returned (.tuple #[.int .i64 (sizS s).1, .int .i64 (sizS s).2]) ∧ w = w' := by
  have g0 := get!_lt s 0 h0
  have b256 := get!_lt256 s 0
  obtain ⟨R, hR⟩ : ∃ R, sizS s = R := ⟨_, rfl⟩
  rw [hR]
  unfold sizS at hR
  by_cases c1 : (s.get! 0).toNat < 128
  · rw [siz_one _ _ _ _ _ c1] at hR
    subst hR
    have c1' : (s[0].toNat : Int) < 128 := by rw [g0]; omega
    have H := Lib.hid g0; clear g0
    go_enter Tryz.func168, Tryz.ntmps168
    go_wp2
    go_ret2
    exact ⟨by rw [H.out]; rfl, rfl⟩
  by_cases c2 : (s.get! 0).toNat ≤ 193
  · rw [siz_none _ _ _ _ _ (.inl ⟨by omega, c2⟩)] at hR
    subst hR
    have c1' : 128 ≤ (s[0].toNat : Int) := by rw [g0]; omega
    have c2' : (s[0].toNat : Int) ≤ 193 := by rw [g0]; omega
    have H := Lib.hid g0; clear g0
    go_enter Tryz.func168, Tryz.ntmps168
    go_wp2
    go_ret2
    exact ⟨rfl, rfl⟩
  by_cases c3 : (s.get! 0).toNat ≤ 223
  · by_cases hl : 2 ≤ s.size
    · rw [← run2_eq _ _ _ _ _ hl ⟨by omega, c3⟩, ← runN_2] at hR
      rw [← hR]
      exact size_2 s w hl hs (by omega) c3
    · rw [siz_none _ _ _ _ _ (.inr (.inr (.inl ⟨by omega, c3, by omega⟩)))] at hR
      subst hR
      have c1' : 194 ≤ (s[0].toNat : Int) := by rw [g0]; omega
      have c2' : (s[0].toNat : Int) ≤ 223 := by rw [g0]; omega
      have hl' : (s.size : Int) < 2 := by omega
      have H := Lib.hid g0; clear g0
      go_enter Tryz.func168, Tryz.ntmps168
      go_wp2
      go_ret2
      exact ⟨rfl, rfl⟩
  by_cases c4 : (s.get! 0).toNat ≤ 239
  · by_cases hl : 3 ≤ s.size
    · rw [← run3_eq _ _ _ _ _ hl ⟨by omega, c4⟩, ← runN_3] at hR
      rw [← hR]
      exact size_3 s w hl hs (by omega) c4
    · rw [siz_none _ _ _ _ _ (.inr (.inr (.inr (.inl ⟨by omega, c4, by omega⟩))))] at hR
      subst hR
      have c1' : 224 ≤ (s[0].toNat : Int) := by rw [g0]; omega
      have c2' : (s[0].toNat : Int) ≤ 239 := by rw [g0]; omega
      have hl' : (s.size : Int) < 3 := by omega
      have H := Lib.hid g0; clear g0
      go_enter Tryz.func168, Tryz.ntmps168
      go_wp2
      go_ret2
      exact ⟨rfl, rfl⟩
  by_cases c5 : (s.get! 0).toNat ≤ 244
  · by_cases hl : 4 ≤ s.size
    · rw [← run4_eq _ _ _ _ _ hl ⟨by omega, c5⟩, ← runN_4] at hR
      rw [← hR]
      exact size_4 s w hl hs (by omega) c5
    · rw [siz_none _ _ _ _ _ (.inr (.inr (.inr (.inr ⟨by omega, c5, by omega⟩))))] at hR
      subst hR
      have c1' : 240 ≤ (s[0].toNat : Int) := by rw [g0]; omega
      have c2' : (s[0].toNat : Int) ≤ 244 := by rw [g0]; omega
      have hl' : (s.size : Int) < 4 := by omega
      have H := Lib.hid g0; clear g0
      go_enter Tryz.func168, Tryz.ntmps168
      go_wp2
      go_ret2
      exact ⟨rfl, rfl⟩
  · rw [siz_none _ _ _ _ _ (.inr (.inl ⟨by omega, by omega⟩))] at hR
    subst hR
    have c1' : 245 ≤ (s[0].toNat : Int) := by rw [g0]; omega
    have c2' : (s[0].toNat : Int) < 256 := by rw [g0]; omega
    have H := Lib.hid g0; clear g0
    go_enter Tryz.func168, Tryz.ntmps168
    go_wp2
    go_ret2
    exact ⟨rfl, rfl⟩

/-- Past the ends of the string. -/
theorem nextZ_out (s : ByteArray) (i : Int) (b : Bool) (h : i < 0 ∨ (s.size : Int) ≤ i) : nextZ s i b = (0, 0) := if_pos h
theorem nextZ_in (s : ByteArray) (i : Nat) (b : Bool) (h : i < s.size) : nextZ s (i : Int) b = if b then ((s.get! i).toNat, 1) else chS s i := by
  unfold nextZ; rw [if_neg (by omega)]; rfl

/-- The string from place i on: its own first bytes. -/
theorem sizS_tail (s : ByteArray) (i : Nat) : sizS (s.extract i s.size) = sizN (s.size - i) (s.get! i).toNat (s.get! (i + 1)).toNat (s.get! (i + 2)).toNat (s.get! (i + 3)).toNat := by
  unfold sizS
  rw [tail_get!, tail_get!, tail_get!, tail_get!, ByteArray.size_extract, Nat.min_self, Nat.add_zero]
theorem decodeGo_tail (s : ByteArray) (i : Nat) (h : i < s.size) : decodeGo (s.extract i s.size) = decodeN (s.size - i) (s.get! i).toNat (s.get! (i + 1)).toNat (s.get! (i + 2)).toNat (s.get! (i + 3)).toNat := by
  unfold decodeGo
  rw [if_neg (by rw [ByteArray.size_extract]; omega), decode_at, tail_get!, tail_get!, tail_get!, tail_get!, ByteArray.size_extract, Nat.min_self, Nat.sub_zero]
  simp only [Nat.add_zero, Nat.zero_add]
end Go.Proofs.YtmceakbjholjpaaGreatDoor

namespace Go.Proofs.YtmceakbjholjpaaGreatDoor
open Go.RowKit Go.Lib

theorem decodeN_lt (n b0 b1 b2 b3 : Nat) : (decodeN n b0 b1 b2 b3).1 ≤ 1114111 ∧ 1 ≤ (decodeN n b0 b1 b2 b3).2 ∧ (decodeN n b0 b1 b2 b3).2 ≤ 4 := by
  unfold decodeN
  repeat' split
  all_goals (simp only; omega)

set_option maxRecDepth 100000 in
set_option maxHeartbeats 1000000 in
theorem next_any (s : ByteArray) (i : Int) (b : Bool) (w : World) (hT : Utf8Tabs 4 5 w) (_hs : s.size ≤ 9223372036854775807) :
    Calls Tryz.prog 209 #[.string s, .int .i64 i, .bool b] w fun e w' => e = .returned (.tuple #[.int .i64 (nextZ s i b).1, .int .i64 (nextZ s i b).2]) ∧ Below w.heap.size w w' := by
  by_cases h0 : i < 0
  · rw [nextZ_out s i b (.inl h0)]
    clear hT
    go_enter Tryz.func209, Tryz.ntmps209
    go_wp2
    go_ret2
    exact ⟨rfl, Below.refl _ _⟩
  by_cases h1 : (s.size : Int) ≤ i
  · rw [nextZ_out s i b (.inr h1)]
    clear hT
    go_enter Tryz.func209, Tryz.ntmps209
    go_wp2
    go_ret2
    exact ⟨rfl, Below.refl _ _⟩
  obtain ⟨k, rfl⟩ : ∃ k : Nat, i = k := ⟨i.toNat, by omega⟩
  have hk : k < s.size := by omega
  have gk := get!_lt s k hk
  rw [nextZ_in s k b hk]
  cases b
  · have cD := Tryz.utf8_DecodeRuneInString (s.extract k s.size) w hT
    rw [decodeGo_tail s k hk] at cD
    have hd := decodeN_lt (s.size - k) (s.get! k).toNat (s.get! (k + 1)).toNat (s.get! (k + 2)).toNat (s.get! (k + 3)).toNat
    simp only [Bool.false_eq_true, if_false]
    unfold chS chN
    obtain ⟨R, hR⟩ : ∃ R, (decodeN (s.size - k) (s.get! k).toNat (s.get! (k + 1)).toNat (s.get! (k + 2)).toNat (s.get! (k + 3)).toNat).1 = R := ⟨_, rfl⟩
    obtain ⟨K, hK⟩ : ∃ K, (decodeN (s.size - k) (s.get! k).toNat (s.get! (k + 1)).toNat (s.get! (k + 2)).toNat (s.get! (k + 3)).toNat).2 = K := ⟨_, rfl⟩
    have hRK : decodeN (s.size - k) (s.get! k).toNat (s.get! (k + 1)).toNat (s.get! (k + 2)).toNat (s.get! (k + 3)).toNat = (R, K) := by rw [← hR, ← hK]
    rw [hRK] at cD hd ⊢
    simp only at hd
    obtain ⟨hd1, hd2, hd3⟩ := hd
    clear hR hK hRK hT
    have hb := get!_lt256 s k
    rw [← gk] at hb ⊢
    have GK := Lib.hid gk; clear gk
    have CD := Lib.hid cD; clear cD
    by_cases hr : R = 65533
    · by_cases hK1 : K = 1
      · subst hr; subst hK1
        rw [if_pos rfl]
        go_enter Tryz.func209, Tryz.ntmps209
        go_wp2_with (go_at_call 174; refine CD.out.mono ?_; rintro e w' ⟨rfl, hb⟩)
        go_ret2
        exact ⟨by simp, hb⟩
      · rw [if_neg (by simp; omega)]
        subst hr
        have hK1' : ((K : Int) == 1) = false := by simp; omega
        go_enter Tryz.func209, Tryz.ntmps209
        go_wp2_with (go_at_call 174; refine CD.out.mono ?_; rintro e w' ⟨rfl, hb⟩)
        go_ret2
        exact ⟨rfl, hb⟩
    · rw [if_neg (by simp; omega)]
      have hr' : ((R : Int) == 65533) = false := by simp; omega
      go_enter Tryz.func209, Tryz.ntmps209
      go_wp2_with (go_at_call 174; refine CD.out.mono ?_; rintro e w' ⟨rfl, hb⟩)
      go_ret2
      exact ⟨rfl, hb⟩
  · simp only [if_true]
    have hb := get!_lt256 s k
    rw [← gk] at hb ⊢
    have GK := Lib.hid gk; clear gk hT
    go_enter Tryz.func209, Tryz.ntmps209
    go_wp2
    go_ret2
    exact ⟨by simp, Below.refl _ _⟩

theorem chN_siz (n b0 b1 b2 b3 : Nat) : chN n b0 b1 b2 b3 = if (sizN n b0 b1 b2 b3).1 = 0 then (1114112 + b0, 1) else ((sizN n b0 b1 b2 b3).2, (sizN n b0 b1 b2 b3).1) := by
  by_cases h : decodeN n b0 b1 b2 b3 = (65533, 1)
  · rw [if_pos ((siz_ch _ _ _ _ _).2 h), chN, if_pos h]
  · rw [if_neg (fun e => h ((siz_ch _ _ _ _ _).1 e)), chN, if_neg h, sizN, if_neg h]
theorem sizN_lt (n b0 b1 b2 b3 : Nat) : (sizN n b0 b1 b2 b3).1 ≤ 4 ∧ (sizN n b0 b1 b2 b3).2 ≤ 1114111 := by
  have := decodeN_lt n b0 b1 b2 b3
  unfold sizN
  split <;> simp only <;> omega

set_option maxRecDepth 100000 in
set_option maxHeartbeats 1000000 in
theorem refNext_any (s : ByteArray) (i : Int) (b : Bool) (w : World) (_hs : s.size ≤ 9223372036854775807) :
    Calls Tryz.prog 124 #[.string s, .int .i64 i, .bool b] w fun e w' => e = .returned (.tuple #[.int .i64 (nextZ s i b).1, .int .i64 (nextZ s i b).2]) ∧ w = w' := by
  by_cases h0 : i < 0
  · rw [nextZ_out s i b (.inl h0)]
    go_enter Tryz.func124, Tryz.ntmps124
    go_wp2
    go_ret2
    exact ⟨rfl, rfl⟩
  by_cases h1 : (s.size : Int) ≤ i
  · rw [nextZ_out s i b (.inr h1)]
    go_enter Tryz.func124, Tryz.ntmps124
    go_wp2
    go_ret2
    exact ⟨rfl, rfl⟩
  obtain ⟨k, rfl⟩ : ∃ k : Nat, i = k := ⟨i.toNat, by omega⟩
  have hk : k < s.size := by omega
  have gk := get!_lt s k hk
  rw [nextZ_in s k b hk]
  cases b
  · have cD := size_any (s.extract k s.size) w (by rw [ByteArray.size_extract]; omega) (by rw [ByteArray.size_extract]; omega)
    rw [sizS_tail s k] at cD
    simp only [Bool.false_eq_true, if_false]
    unfold chS
    rw [chN_siz]
    have hd := sizN_lt (s.size - k) (s.get! k).toNat (s.get! (k + 1)).toNat (s.get! (k + 2)).toNat (s.get! (k + 3)).toNat
    obtain ⟨q, hq⟩ : ∃ q, sizN (s.size - k) (s.get! k).toNat (s.get! (k + 1)).toNat (s.get! (k + 2)).toNat (s.get! (k + 3)).toNat = q := ⟨_, rfl⟩
    rw [hq] at cD hd ⊢
    clear hq
    obtain ⟨K, R⟩ := q
    simp only at cD hd ⊢
    obtain ⟨hd1, hd2⟩ := hd
    have hb := get!_lt256 s k
    rw [← gk] at hb ⊢
    have GK := Lib.hid gk; clear gk
    have CD := Lib.hid cD; clear cD
    by_cases hr : K = 0
    · subst hr
      rw [if_pos rfl]
      go_enter Tryz.func124, Tryz.ntmps124
      go_wp2_with (go_at_call 168; refine CD.out.mono ?_; rintro e w' ⟨rfl, rfl⟩)
      go_ret2
      exact ⟨by simp, rfl⟩
    · rw [if_neg hr]
      have hr' : ((K : Int) == 0) = false := by simp; omega
      go_enter Tryz.func124, Tryz.ntmps124
      go_wp2_with (go_at_call 168; refine CD.out.mono ?_; rintro e w' ⟨rfl, rfl⟩)
      go_ret2
      exact ⟨rfl, rfl⟩
  · simp only [if_true]
    have hb := get!_lt256 s k
    rw [← gk] at hb ⊢
    have GK := Lib.hid gk; clear gk
    go_enter Tryz.func124, Tryz.ntmps124
    go_wp2
    go_ret2
    exact ⟨by simp, rfl⟩
end Go.Proofs.YtmceakbjholjpaaGreatDoor

namespace Go.Proofs.YtmceakbjholjpaaGreatDoor
open Go.Lib

/-- How many bytes the character at a place has (0 past the end). -/
def wid (s : ByteArray) (b : Bool) (i : Nat) : Nat := (nextZ s (i : Int) b).2
def uCod (s : ByteArray) (b : Bool) (i : Nat) : Nat := (nextZ s (i : Int) b).1
/-- The place of the k-th character (from 0 on), or the length. -/
def pl (s : ByteArray) (b : Bool) : Nat → Nat
  | 0 => 0
  | k + 1 => pl s b k + wid s b (pl s b k)

theorem nextZ_eq (s : ByteArray) (b : Bool) (i : Nat) : nextZ s (i : Int) b = (uCod s b i, wid s b i) := rfl
theorem wid_out (s : ByteArray) (b : Bool) (i : Nat) (h : s.size ≤ i) : wid s b i = 0 := by
  unfold wid nextZ; rw [if_pos (by omega)]
theorem decodeN_wid (n b0 b1 b2 b3 : Nat) (hn : 1 ≤ n) : 1 ≤ (decodeN n b0 b1 b2 b3).2 ∧ (decodeN n b0 b1 b2 b3).2 ≤ n := by
  unfold decodeN
  repeat' split
  all_goals (simp only; omega)
theorem chN_wid (n b0 b1 b2 b3 : Nat) : (chN n b0 b1 b2 b3).2 = (decodeN n b0 b1 b2 b3).2 := by
  unfold chN
  split
  · rename_i h; rw [h]
  · rfl
theorem wid_byte (s : ByteArray) (i : Nat) (h : i < s.size) : wid s true i = 1 := by
  unfold wid nextZ; rw [if_neg (by omega)]; rfl
theorem wid_char (s : ByteArray) (i : Nat) (h : i < s.size) : wid s false i = (decodeN (s.size - i) (s.get! i).toNat (s.get! (i + 1)).toNat (s.get! (i + 2)).toNat (s.get! (i + 3)).toNat).2 := by
  unfold wid nextZ; rw [if_neg (by omega)]; exact chN_wid _ _ _ _ _
theorem wid_in (s : ByteArray) (b : Bool) (i : Nat) (h : i < s.size) : 1 ≤ wid s b i ∧ i + wid s b i ≤ s.size := by
  cases b
  · rw [wid_char s i h]
    have := decodeN_wid (s.size - i) (s.get! i).toNat (s.get! (i + 1)).toNat (s.get! (i + 2)).toNat (s.get! (i + 3)).toNat (by omega)
    omega
  · rw [wid_byte s i h]; omega
theorem pl_le (s : ByteArray) (b : Bool) : ∀ k, pl s b k ≤ s.size
  | 0 => Nat.zero_le _
  | k + 1 => by
    have ih := pl_le s b k
    show pl s b k + wid s b (pl s b k) ≤ s.size
    by_cases h : pl s b k < s.size
    · exact (wid_in s b _ h).2
    · rw [wid_out s b _ (by omega)]; omega
theorem pl_succ (s : ByteArray) (b : Bool) (k : Nat) : pl s b (k + 1) = pl s b k + wid s b (pl s b k) := rfl
theorem pl_end (s : ByteArray) (b : Bool) (k : Nat) (h : pl s b k = s.size) : ∀ j, k ≤ j → pl s b j = s.size := by
  intro j hj
  obtain ⟨d, rfl⟩ := Nat.exists_eq_add_of_le hj
  induction d with
  | zero => exact h
  | succ d ih => rw [← Nat.add_assoc, pl_succ, ih (by omega), wid_out s b _ (by omega)]; rfl
theorem pl_ge (s : ByteArray) (b : Bool) : ∀ k, k ≤ pl s b k ∨ pl s b k = s.size
  | 0 => .inl (Nat.zero_le _)
  | k + 1 => by
    rcases Nat.lt_or_ge (pl s b k) s.size with h | h
    · rcases pl_ge s b k with h1 | h1
      · left; rw [pl_succ]; have := (wid_in s b _ h).1; omega
      · omega
    · right; exact pl_end s b k (by have := pl_le s b k; omega) _ (by omega)
theorem pl_size (s : ByteArray) (b : Bool) : pl s b s.size = s.size := by
  rcases pl_ge s b s.size with h | h
  · have := pl_le s b s.size; omega
  · exact h
/-- How many characters. -/
def cnt (s : ByteArray) (b : Bool) : Nat := (List.range s.size).countP fun k => decide (pl s b k < s.size)
theorem countP_range (p : Nat → Bool) : ∀ N c, c ≤ N → (∀ k, k < N → (p k = true ↔ k < c)) → (List.range N).countP p = c
  | 0, c, hc, _ => by simp; omega
  | N + 1, c, hc, h => by
    rw [List.range_succ, List.countP_append]
    by_cases hN : c ≤ N
    · rw [countP_range p N c hN (fun k hk => h k (by omega))]
      have := (h N (by omega))
      have hp : p N = false := by
        cases hpn : p N
        · rfl
        · exact absurd (this.1 hpn) (by omega)
      simp [hp]
    · obtain rfl : c = N + 1 := by omega
      rw [countP_range p N N (Nat.le_refl _) (fun k hk => by rw [h k (by omega)]; omega)]
      have hp := (h N (by omega)).2 (by omega)
      simp [hp]
theorem exists_cnt (s : ByteArray) (b : Bool) : ∃ c, c ≤ s.size ∧ ∀ k, pl s b k < s.size ↔ k < c := by
  have : ∀ N, (∀ k, pl s b k < s.size → k < N) → ∃ c, c ≤ N ∧ ∀ k, pl s b k < s.size ↔ k < c := by
    intro N
    induction N with
    | zero => intro h; exact ⟨0, Nat.le_refl _, fun k => ⟨h k, fun hk => by omega⟩⟩
    | succ N ih =>
      intro h
      by_cases hN : pl s b N < s.size
      · refine ⟨N + 1, Nat.le_refl _, fun k => ⟨h k, fun hk => ?_⟩⟩
        by_cases hlt : pl s b k < s.size
        · exact hlt
        · exact absurd (pl_end s b k (by have := pl_le s b k; omega) N (by omega)) (by omega)
      · obtain ⟨c, hc, hall⟩ := ih (fun k hk => by
          have := h k hk
          by_cases e : k = N
          · subst e; exact absurd hk hN
          · omega)
        exact ⟨c, by omega, hall⟩
  refine this s.size (fun k hk => ?_)
  by_cases h : k < s.size
  · exact h
  · exact absurd (pl_end s b s.size (pl_size s b) k (by omega)) (by omega)
theorem cnt_spec (s : ByteArray) (b : Bool) (k : Nat) : pl s b k < s.size ↔ k < cnt s b := by
  obtain ⟨c, hc, hall⟩ := exists_cnt s b
  have : cnt s b = c := countP_range _ _ _ hc (fun k _ => by rw [decide_eq_true_eq]; exact hall k)
  rw [this]; exact hall k
theorem cnt_le (s : ByteArray) (b : Bool) : cnt s b ≤ s.size := by
  unfold cnt
  have := List.countP_le_length (p := fun k => decide (pl s b k < s.size)) (l := List.range s.size)
  simpa using this
theorem pl_cnt (s : ByteArray) (b : Bool) : pl s b (cnt s b) = s.size := by
  have h := (not_congr (cnt_spec s b (cnt s b))).2 (by omega)
  have := pl_le s b (cnt s b)
  omega
theorem cnt_unique (s : ByteArray) (b : Bool) (k : Nat) (h : pl s b k = s.size) (hl : ∀ j, j < k → pl s b j < s.size) : cnt s b = k := by
  have h1 := (not_congr (cnt_spec s b k)).1 (by omega)
  by_cases hk : k = 0
  · omega
  · have h2 := (cnt_spec s b (k - 1)).1 (hl (k - 1) (by omega)); omega
theorem pl_mono (s : ByteArray) (b : Bool) (j k : Nat) (h : j ≤ k) : pl s b j ≤ pl s b k := by
  obtain ⟨d, rfl⟩ := Nat.exists_eq_add_of_le h
  induction d with
  | zero => exact Nat.le_refl _
  | succ d ih => rw [← Nat.add_assoc, pl_succ]; have := ih (by omega); omega
theorem pl_byte (s : ByteArray) : ∀ k, k ≤ s.size → pl s true k = k
  | 0, _ => rfl
  | k + 1, h => by rw [pl_succ, pl_byte s k (by omega), wid_byte s k (by omega)]
theorem cnt_byte (s : ByteArray) : cnt s true = s.size :=
  cnt_unique s true s.size (pl_byte s _ (Nat.le_refl _)) (fun j hj => by rw [pl_byte s j (by omega)]; exact hj)
/-- What the library counts. -/
theorem runeCountFrom_pl (s : ByteArray) : ∀ f k, s.size ≤ pl s false k + f → runeCountFrom s f (pl s false k) = cnt s false - k
  | 0, k, h => by
    have := (not_congr (cnt_spec s false k)).1 (by omega)
    show 0 = _
    omega
  | f + 1, k, h => by
    unfold runeCountFrom
    by_cases hk : pl s false k < s.size
    · rw [if_pos hk]
      have e : pl s false k + (Utf8.decode s (pl s false k)).2 = pl s false (k + 1) := by
        rw [pl_succ, wid_char s _ hk, decode_at]
      have h1 := (wid_in s false _ hk).1
      rw [e, runeCountFrom_pl s f (k + 1) (by rw [pl_succ]; omega)]
      have := (cnt_spec s false k).1 hk
      omega
    · rw [if_neg hk]
      have := (not_congr (cnt_spec s false k)).1 hk
      omega
theorem runeCount_cnt (s : ByteArray) : runeCount s = cnt s false :=
  runeCountFrom_pl s s.size 0 (by omega)
end Go.Proofs.YtmceakbjholjpaaGreatDoor

namespace Go.Proofs.YtmceakbjholjpaaGreatDoor
open Go.RowKit Go.Lib Go.Shelf
attribute [local go_sem] Oper.semAt_some

/-- These blocks lie as they lay. -/
def KeepsAt (bs : List Nat) (W W' : World) : Prop := ∀ c ∈ bs, W'.heap[c]? = W.heap[c]?
theorem KeepsAt.refl (bs : List Nat) (W : World) : KeepsAt bs W W := fun _ _ => rfl
theorem KeepsAt.trans {bs : List Nat} {A B C : World} (h : KeepsAt bs A B) (k : KeepsAt bs B C) : KeepsAt bs A C := fun c hc => (k c hc).trans (h c hc)
theorem KeepsAt.of_below {bs : List Nat} {n : Nat} {W W' : World} (h : Below n W W') (hlt : ∀ c ∈ bs, c < n) : KeepsAt bs W W' := fun c hc => h.block c (hlt c hc)
theorem KeepsAt.of_grown {bs : List Nat} {row : Option Nat} {W W' : World} (h : W.grownBy W' row) (hlt : ∀ c ∈ bs, c < W.heap.size ∧ some c ≠ row) : KeepsAt bs W W' := fun c hc => h.block c (hlt c hc).1 (hlt c hc).2
theorem KeepsAt.putObj {bs : List Nat} (n : Nat) (hlt : ∀ c ∈ bs, c < n) (W : World) (l : Nat) (o' : Obj) (hl : n ≤ l) : KeepsAt bs W (W.putObj l o') :=
  fun c hc => World.putObj_heap_other (by have := hlt c hc; omega)
theorem KeepsAt.cell {bs : List Nat} {W W' : World} (h : KeepsAt bs W W') {c : Nat} (hc : c ∈ bs) (o : Nat) : W'.cell? ⟨c, o, none⟩ = W.cell? ⟨c, o, none⟩ := by
  simp [World.cell?, h c hc]
theorem grown_of_below {W W' : World} (h : Below W.heap.size W W') : W.grownBy W' none :=
  ⟨h.os, h.tape, h.output, h.size, fun k hk _ => h.block k hk⟩
theorem tabs_keeps {g h : Nat} {W W' : World} (hT : Utf8Tabs g h W) (hk : KeepsAt [g, h] W W') : Utf8Tabs g h W' :=
  ⟨fun c hc => (hk.cell (by simp) c).trans (hT.1 c hc), fun i hi => ⟨(hk.cell (by simp) _).trans (hT.2 i hi).1, (hk.cell (by simp) _).trans (hT.2 i hi).2⟩⟩
/-- A cell that is there lies in a block below the heap's size. -/
theorem lt_of_cell {W : World} {c o : Nat} {v : Value} (h : W.cell? ⟨c, o, none⟩ = some v) : c < W.heap.size := by
  by_cases hc : c < W.heap.size
  · exact hc
  · simp [World.cell?, Array.getElem?_eq_none (Nat.le_of_not_lt hc)] at h
theorem tabs_lt {g h : Nat} {W : World} (hT : Utf8Tabs g h W) : g < W.heap.size ∧ h < W.heap.size := ⟨lt_of_cell (hT.1 0 (by decide)), lt_of_cell (hT.2 0 (by decide)).1⟩
theorem tabs_below {g h n : Nat} {W W' : World} (hT : Utf8Tabs g h W) (hb : Below n W W') (hn : W.heap.size ≤ n) : Utf8Tabs g h W' :=
  tabs_keeps hT (KeepsAt.of_below hb (fun c hc => by have := tabs_lt hT; simp at hc; rcases hc with rfl | rfl <;> omega))

/-- What All hands over at the k-th character. -/
abbrev chEnc (s : ByteArray) (b : Bool) (k : Nat) : Array Value := #[.int .i64 (pl s b k), .int .i64 (uCod s b (pl s b k))]

set_option maxHeartbeats 1000000 in
theorem all_any (s : ByteArray) (b : Bool) (w : World) :
    Calls Tryz.prog 164 #[.string s, .bool b] w fun e w' => e = .returned (.func (.func 208) #[] #[.pointer (some ⟨w.heap.size, 0, none⟩), .pointer (some ⟨w.heap.size + 1, 0, none⟩)]) ∧
      (w.alloc (.cells #[.string s] 9)).alloc (.cells #[.bool b] 4) = w' := by
  have hmf : ∀ (fn : Fn) (first cap : Array Value) (w : World), (Instr.makeFunc fn first cap).run Tryz.prog w = .ok (.func fn first cap) w := fun _ _ _ _ => rfl
  go_enter Tryz.func164, Tryz.ntmps164
  go_wp2
  go_ret
  exact ⟨rfl, rfl⟩

set_option maxRecDepth 100000 in
set_option maxHeartbeats 1000000 in
/-- THE ITERATOR: FOR EVERY LOOP BODY THAT KEEPS THE TWO CAPTURED VARIABLES AND THE LIBRARY's TABLES. -/
theorem all_stops (n : Nat) (hn : 1 ≤ n) (s : ByteArray) (b : Bool) (B1 B2 : Nat) (w : World) (hs : s.size ≤ 9223372036854775807 - 8)
    (h1 : w.cell? ⟨B1, 0, none⟩ = some (.string s)) (h2 : w.cell? ⟨B2, 0, none⟩ = some (.bool b)) (hT : Utf8Tabs 4 5 w) :
    SeqStopsK Fence.wide n Tryz.prog 208 #[.pointer (some ⟨B1, 0, none⟩), .pointer (some ⟨B2, 0, none⟩)] (chEnc s b) (KeepsAt [4, 5, B1, B2])
      (fun xs => xs = List.range (cnt s b)) (fun pre => ∃ k, k ≤ cnt s b ∧ pre = List.range k) (cnt s b) w := fun l J Jx W hW hJ hJx hY h0 => by
  have hK0 : KeepsAt [4, 5, B1, B2] w W := KeepsAt.of_below hW (fun c hc => by
    have := tabs_lt hT; have := lt_of_cell h1; have := lt_of_cell h2
    simp at hc; rcases hc with rfl | rfl | rfl | rfl <;> omega)
  refine callsIn_of_wp Tryz.func208 rfl trivial ?_ rfl
  simp only [Tryz.ntmps208, List.size_toArray, List.length_cons, List.length_nil, Nat.reduceAdd, Nat.reduceSub, Array.replicate_succ, Array.replicate_zero, List.push_toArray, List.append_toArray, List.nil_append, List.cons_append]
  gi_wp2
  gi_loopw [4] (fun p wr => ∃ k, k ≤ cnt s b ∧ p = .int .i64 (pl s b k) ∧ KeepsAt [4, 5, B1, B2] w wr ∧ J (List.range k) wr)
    (fun p _ => s.size - (RowKit.intOf p).toNat)
  case atStart =>
    exact ⟨0, Nat.zero_le _, rfl, hK0, h0⟩
  case round =>
    obtain ⟨k, hk, rfl, hKw, hJs⟩ := hrel
    have c1 : wr.cell? ⟨B1, 0, none⟩ = some (.string s) := (hKw.cell (by simp) 0).trans h1
    have c2 : wr.cell? ⟨B2, 0, none⟩ = some (.bool b) := (hKw.cell (by simp) 0).trans h2
    have hTr : Utf8Tabs 4 5 wr := tabs_keeps hT (fun c hc => hKw c (by simp at hc ⊢; omega))
    have hple := pl_le s b k
    by_cases hlt : k < cnt s b
    · have hplt := (cnt_spec s b k).2 hlt
      have cN := next_any s (pl s b k : Nat) b wr hTr (by omega)
      rw [nextZ_eq] at cN
      have hw1 := (wid_in s b _ hplt).1
      have hw2 := (wid_in s b _ hplt).2
      obtain ⟨C, hC⟩ : ∃ C, uCod s b (pl s b k) = C := ⟨_, rfl⟩
      obtain ⟨S, hS⟩ : ∃ S, wid s b (pl s b k) = S := ⟨_, rfl⟩
      obtain ⟨p, hp⟩ : ∃ p, pl s b k = p := ⟨_, rfl⟩
      have hp1 : pl s b (k + 1) = p + S := by rw [pl_succ, hS, hp]
      have hY' := hY (List.range k) k
      dsimp only [chEnc] at hY'
      rw [hC, hp] at hY'
      rw [hC, hS] at cN
      rw [hS] at hw1 hw2
      rw [hp] at hplt hple hw2 cN
      rw [hp]
      have CN := Lib.hid cN; clear cN
      have HY := Lib.hid hY'; clear hY' hY
      have HC := Lib.hid hC; clear hC
      have HS := Lib.hid hS; clear hS
      have HP := Lib.hid hp; clear hp
      have HP1 := Lib.hid hp1; clear hp1
      have HT := Lib.hid hTr; clear hTr hT
      have HKW := Lib.hid hKw; clear hKw hK0
      gi_wp2_with fail
      refine ⟨trivial, (callsIn_wide.2 CN.out).mono ?_⟩
      rintro e W3 ⟨rfl, hb3⟩
      have c13 : W3.cell? ⟨B1, 0, none⟩ = some (.string s) := (hb3.cell (p := ⟨B1, 0, none⟩) (lt_of_cell c1)).trans c1
      have c23 : W3.cell? ⟨B2, 0, none⟩ = some (.bool b) := (hb3.cell (p := ⟨B2, 0, none⟩) (lt_of_cell c2)).trans c2
      have hJ3 : J (List.range k) W3 := hJ _ _ _ none hJs (grown_of_below hb3) (fun r e => by cases e)
      have hK3 : KeepsAt [4, 5, B1, B2] w W3 := HKW.out.trans (KeepsAt.of_below hb3 (fun c hc => by
        have := tabs_lt HT.out; have := lt_of_cell c1; have := lt_of_cell c2
        simp at hc; rcases hc with rfl | rfl | rfl | rfl <;> omega))
      obtain ⟨fn, tmps, assign, body, hy, hR⟩ := HY.out W3 hJ3 (by simp; omega)
      have HK3 := Lib.hid hK3; clear hK3
      gi_wp2
      refine hR.mono ?_
      rintro e W4 (⟨rfl, hJ4, hk4⟩ | ⟨rfl, hJx4⟩)
      · have hK4 := Lib.hid (HK3.out.trans hk4); clear hk4
        gi_wp2
        go_roundw
        case rel => exact ⟨k + 1, by omega, by rw [HP1.out]; go_num, hK4.out, by rw [List.range_succ]; exact hJ4⟩
        case measure => simp [RowKit.intOf]; omega
      · gi_wp2
        refine bodyPost_ret (results_none rfl _ _ _) rfl ?_
        exact ⟨⟨_, rfl⟩, .inr ⟨List.range (k + 1), ⟨k + 1, by omega, rfl⟩, by rw [List.range_succ]; exact hJx4⟩⟩
    · obtain rfl : k = cnt s b := by omega
      have hpe := pl_cnt s b
      rw [hpe]
      clear hpe hY hple
      gi_wp2
      go_end0
      exact ⟨⟨_, rfl⟩, .inl ⟨_, rfl, hJs⟩⟩
end Go.Proofs.YtmceakbjholjpaaGreatDoor

namespace Go.Proofs.YtmceakbjholjpaaGreatDoor
open Go.RowKit Go.Lib Go.Shelf
attribute [local go_sem] Oper.semAt_some

set_option maxHeartbeats 400000 in
theorem len_any (s : ByteArray) (b : Bool) (w : World) (hs : s.size ≤ 9223372036854775807 - 8) :
    Calls Tryz.prog 50 #[.string s, .bool b] w fun e w' => e = .returned (.int .i64 (cnt s b)) ∧ Below w.heap.size w w' := by
  cases b
  · have cR := Tryz.utf8_RuneCountInString s w (by omega)
    rw [runeCount_cnt] at cR
    have CR := Lib.hid cR; clear cR
    go_enter Tryz.func50, Tryz.ntmps50
    go_wp2_with (go_at_call 86; refine CR.out.mono ?_; rintro e w' ⟨rfl, pos, rfl⟩)
    go_ret
    exact ⟨rfl, (Below.refl _ _).alloc (Nat.le_refl _) _⟩
  · rw [cnt_byte]
    go_enter Tryz.func50, Tryz.ntmps50
    go_wp2
    go_ret
    exact ⟨rfl, Below.refl _ _⟩

/-- What stands for the k-th character when its code is changed by f. -/
def piece (s : ByteArray) (b : Bool) (f : Int → Int) (k : Nat) : List UInt8 :=
  if f (uCod s b (pl s b k)) = uCod s b (pl s b k) then (s.data.toList.drop (pl s b k)).take (wid s b (pl s b k)) else (textB (f (uCod s b (pl s b k)))).data.toList
end Go.Proofs.YtmceakbjholjpaaGreatDoor

namespace Go.Proofs.YtmceakbjholjpaaGreatDoor
open Go.RowKit Go.Lib Go.Shelf
attribute [local go_sem] Oper.semAt_some

/-- Six new blocks. -/
theorem push6 (h : Array Obj) (a b c d e f : Obj) (H : Array Obj) (hH : H = (((((h.push a).push b).push c).push d).push e).push f) :
    H.size = h.size + 6 ∧ H[h.size]? = some a ∧ H[h.size + 1]? = some b ∧ H[h.size + 1 + 1]? = some c ∧ H[h.size + 1 + 1 + 1]? = some d ∧ H[h.size + 4]? = some e ∧ H[h.size + 4 + 1]? = some f := by
  subst hH
  simp only [Array.getElem?_push, Array.size_push]
  refine ⟨trivial, ?_, ?_, ?_, ?_, ?_, ?_⟩
  all_goals
    repeat' split
  all_goals first | rfl | (exfalso; omega) | simp_all

end Go.Proofs.YtmceakbjholjpaaGreatDoor

namespace Go.Proofs.YtmceakbjholjpaaGreatDoor
open Go.RowKit Go.Lib

theorem info_int : (Tryz.prog.info? 3).map (fun i => (i.zero, i.size, i.bytes)) = some (some (.int .i64 0), 1, 8) := by kernel_rfl
/-- The places of k characters. -/
def plV (s : ByteArray) (b : Bool) (k : Nat) : List Value := (List.range k).map fun i => Value.int .i64 (pl s b i)
theorem plV_succ (s : ByteArray) (b : Bool) (k : Nat) : plV s b (k + 1) = plV s b k ++ [.int .i64 (pl s b k)] := by simp [plV, List.range_succ]

set_option maxRecDepth 100000 in
set_option maxHeartbeats 1000000 in
theorem starts_any (s : ByteArray) (b : Bool) (w : World) (hs : s.size ≤ 1048576) :
    Calls Tryz.prog 87 #[.string s, .bool b] w fun e w' => ∃ v, e = .returned v ∧ w'.ownsRow w.heap.size 3 1 v (cnt s b + 1) (plV s b (cnt s b + 1)) ∧ Below w.heap.size w w' := by
  obtain ⟨i0, hi, hz0, hz1, hz2⟩ := info_parts info_int
  have hcl := cnt_le s b
  go_enter Tryz.func87, Tryz.ntmps87
  go_wp2
  go_loopw [5, 6] (fun v p wr => ∃ k, k ≤ cnt s b ∧ p = .int .i64 (pl s b k) ∧ wr.ownsRow w.heap.size 3 1 v k (plV s b k) ∧ Below w.heap.size w wr) (fun _ p _ => s.size - (RowKit.intOf p).toNat)
  case atStart => exact ⟨0, Nat.zero_le _, rfl, World.ownsRow_nil _ _ _ _, Below.refl _ _⟩
  case round =>
    obtain ⟨k, hk, rfl, hown, hB⟩ := hrel
    have hple := pl_le s b k
    have hsz := hB.size
    by_cases hlt : k < cnt s b
    · have hplt := (cnt_spec s b k).2 hlt
      have hw1 := wid_in s b _ hplt
      have cN := fun (W : World) => refNext_any s (pl s b k : Nat) b W (by omega)
      rw [nextZ_eq] at cN
      have hp1 := pl_succ s b k
      have hv1 := plV_succ s b k
      obtain ⟨C, hC⟩ : ∃ C, uCod s b (pl s b k) = C := ⟨_, rfl⟩
      obtain ⟨S, hS⟩ : ∃ S, wid s b (pl s b k) = S := ⟨_, rfl⟩
      rw [hC, hS] at cN
      rw [hS] at hw1 hp1
      obtain ⟨p, hp⟩ : ∃ p, pl s b k = p := ⟨_, rfl⟩
      rw [hp] at cN hw1 hp1 hple hplt hv1
      rw [hp]
      obtain ⟨q1, q2⟩ := hw1
      clear hC hS
      have CN := Lib.hid cN; clear cN
      have HP1 := Lib.hid hp1; clear hp1
      have HV1 := Lib.hid hv1; clear hv1
      have HP := Lib.hid hp; clear hp
      go_wp2_with (at_builtin; refine wpList_append_own _ rfl _ _ 65 rfl w.heap.size 3 i0 (.int .i64 0) 1 8 Tryz.underlying65 hi hz0 hz1 hz2 rfl (by decide) _ _ _ rfl (hown.alloc _) ⟨wr.heap.size, 0, none⟩ 1 1 [.int .i64 p] rfl rfl (cell_one_new _ _ _) ?c2 ?c3 ?c4 ?c5 ?_)
      case c2 => simp [Value.oneCell']
      case c3 => unfold maxLen; omega
      case c4 => omega
      case c5 => first | omega | (simp; omega)
      intro v' w1 hown' hgrow _
      rw [← HV1.out] at hown'
      have hB1 : Below w.heap.size w w1 := (hB.alloc hsz _).grown hgrow (by simp; omega) (fun r e => (hown.lt r e).1)
      have HO := Lib.hid hown'; clear hown'
      clear hown hgrow
      go_wp2_with (go_at_call 124; refine (CN.out _).mono ?_; rintro e w' ⟨rfl, rfl⟩)
      go_roundw
      case rel => exact ⟨k + 1, by omega, by rw [HP1.out]; go_num, HO.out, hB1⟩
      case measure => simp [RowKit.intOf]; omega
    · obtain rfl : k = cnt s b := by omega
      have hpe := pl_cnt s b
      have hv1 := plV_succ s b (cnt s b)
      rw [hpe] at hv1 ⊢
      obtain ⟨n, hn⟩ : ∃ n, cnt s b = n := ⟨_, rfl⟩
      rw [hn] at hown hcl hv1
      rw [hn]
      have HN := Lib.hid hn
      clear hpe hlt hk hple hn
      have HV1 := Lib.hid hv1; clear hv1
      go_wp2_with (at_builtin; refine wpList_append_own _ rfl _ _ 65 rfl w.heap.size 3 i0 (.int .i64 0) 1 8 Tryz.underlying65 hi hz0 hz1 hz2 rfl (by decide) _ _ _ rfl (hown.alloc _) ⟨wr.heap.size, 0, none⟩ 1 1 [.int .i64 s.size] rfl rfl (cell_one_new _ _ _) ?c2 ?c3 ?c4 ?c5 ?_)
      case c2 => simp [Value.oneCell']
      case c3 => unfold maxLen; omega
      case c4 => omega
      case c5 => first | omega | (simp; omega)
      intro v' w1 hown' hgrow _
      rw [← HV1.out] at hown'
      have hB1 : Below w.heap.size w w1 := (hB.alloc hsz _).grown hgrow (by simp; omega) (fun r e => (hown.lt r e).1)
      have HO := Lib.hid hown'; clear hown'
      clear hown hgrow
      go_wp2
      go_ret
      exact ⟨v', rfl, by rw [HN.out]; exact HO.out, hB1⟩

/-- Starts, with its row laid open. -/
theorem starts_row (s : ByteArray) (b : Bool) (w : World) (hs : s.size ≤ 1048576) :
    Calls Tryz.prog 87 #[.string s, .bool b] w fun e w' => ∃ g cap, e = .returned (.slice (some ⟨g, 0, none⟩) (cnt s b + 1) cap) ∧ cnt s b + 1 ≤ cap ∧ w.heap.size ≤ g ∧ (∀ i : Nat, i ≤ cnt s b → w'.cell? ⟨g, i, none⟩ = some (.int .i64 (pl s b i))) ∧ Below w.heap.size w w' := by
  refine (starts_any s b w hs).mono ?_
  rintro e w' ⟨v, rfl, hown, hB⟩
  obtain ⟨g, cap, rfl⟩ := ownsRow_succ hown
  have hcap : cnt s b + 1 ≤ cap := by
    obtain ⟨_, ⟨h, _⟩ | ⟨g', cap', cur, hv, _, _, hc, _⟩⟩ := hown
    · cases h
    · cases hv; exact hc
  refine ⟨g, cap, rfl, hcap, (hown.lt g rfl).1, fun i hi => ?_, hB⟩
  have := hown.cells (g := g) rfl i (.int .i64 (pl s b i)) (by rw [plV, List.getElem?_map, List.getElem?_range (by omega)]; rfl)
  rw [Addr.add_lit, Nat.zero_add] at this
  exact this
set_option maxHeartbeats 400000 in
theorem refLen_any (s : ByteArray) (b : Bool) (w : World) (hs : s.size ≤ 1048576) :
    Calls Tryz.prog 54 #[.string s, .bool b] w fun e w' => e = .returned (.int .i64 (cnt s b)) ∧ Below w.heap.size w w' := by
  have cS := starts_row s b w hs
  have hcl := cnt_le s b
  obtain ⟨n, hn⟩ : ∃ n, cnt s b = n := ⟨_, rfl⟩
  rw [hn] at cS hcl ⊢
  clear hn
  have CS := Lib.hid cS; clear cS
  go_enter Tryz.func54, Tryz.ntmps54
  go_wp2_with fail
  refine CS.out.mono ?_
  rintro e w1 ⟨g, cap, rfl, _, _, hc, hB⟩
  clear hc
  go_wp2
  go_ret
  exact ⟨by simp, hB⟩
/-- The place of a number: and is there one? -/
def placeZ (s : ByteArray) (b : Bool) (n : Int) : Int × Bool := if 1 ≤ n ∧ n ≤ cnt s b + 1 then ((pl s b (n - 1).toNat : Nat), true) else (0, false)
/-- The part between two numbers. -/
def subB (s : ByteArray) (b : Bool) (i j : Int) : ByteArray :=
  if min j (cnt s b + 1) ≤ max i 1 then ⟨#[]⟩ else s.extract (pl s b (max i 1 - 1).toNat) (pl s b (min j (cnt s b + 1) - 1).toNat)
set_option maxRecDepth 100000 in
set_option maxHeartbeats 1000000 in
theorem refSub_any (s : ByteArray) (i j : Int) (b : Bool) (w : World) (hs : s.size ≤ 1048576) :
    Calls Tryz.prog 52 #[.string s, .int .i64 i, .int .i64 j, .bool b] w fun e w' => e = .returned (.string (subB s b i j)) ∧ Below w.heap.size w w' := by
  have CS := Lib.hid (starts_row s b w hs)
  have hcl := cnt_le s b
  unfold subB
  obtain ⟨I, hI⟩ : ∃ I, max i 1 = I := ⟨_, rfl⟩
  obtain ⟨J, hJ⟩ : ∃ J, min j (cnt s b + 1) = J := ⟨_, rfl⟩
  have hI1 : 1 ≤ I := by omega
  have hJ1 : J ≤ cnt s b + 1 := by omega
  rw [hI, hJ]
  by_cases h : J ≤ I
  · rw [if_pos h]
    go_enter Tryz.func52, Tryz.ntmps52
    go_wp2_with fail
    refine CS.out.mono ?_
    rintro e w1 ⟨g, cap, rfl, _, _, hc, hB⟩
    clear hc
    go_wp2
    go_ret
    exact ⟨rfl, hB⟩
  · rw [if_neg h]
    obtain ⟨a, ha⟩ : ∃ a : Nat, I = a + 1 := ⟨(I - 1).toNat, by omega⟩
    obtain ⟨c, hc⟩ : ∃ c : Nat, J = c + 1 := ⟨(J - 1).toNat, by omega⟩
    subst ha
    subst hc
    rw [show ((a : Int) + 1 - 1).toNat = a by omega, show ((c : Int) + 1 - 1).toNat = c by omega]
    have hm := pl_mono s b a c (by omega)
    have hpm := pl_le s b c
    go_enter Tryz.func52, Tryz.ntmps52
    go_wp2_with fail
    refine CS.out.mono ?_
    rintro e w1 ⟨g, cap, rfl, hcap, _, hc, hB⟩
    have hca := hc a (by omega)
    have hcc := hc c (by omega)
    clear hc
    go_wp2
    go_quiet (fail)
    go_wp2
    go_ret
    exact ⟨rfl, below_drewN hB _⟩
end Go.Proofs.YtmceakbjholjpaaGreatDoor

namespace Go.Proofs.YtmceakbjholjpaaGreatDoor
open Go.RowKit Go.Lib Go.Shelf
attribute [local go_sem] Oper.semAt_some

theorem Boxed.below {W W' : World} {B n : Nat} {t : TypeId} {v : Value} (h : Boxed W B t v) (hb : Below n W W') (hn : B < n) : Boxed W' B t v := (hb.block B hn).trans h

end Go.Proofs.YtmceakbjholjpaaGreatDoor

namespace Go.Proofs.YtmceakbjholjpaaGreatDoor
open Go.RowKit Go.Lib Go.Shelf
attribute [local go_sem] Oper.semAt_some

set_option maxRecDepth 100000 in
set_option maxHeartbeats 2000000 in
theorem place_in (s : ByteArray) (n : Int) (b : Bool) (w : World) (hs : s.size ≤ 1048576) (hT : Utf8Tabs 4 5 w) :
    CallsIn Fence.wide 10 Tryz.prog 122 #[.string s, .int .i64 n, .bool b] w fun e w' => e = .returned (.tuple #[.int .i64 (placeZ s b n).1, .bool (placeZ s b n).2]) ∧ Below w.heap.size w w' := by
  have hcl := cnt_le s b
  refine callsIn_of_wp_marks Tryz.func122 rfl trivial ?_ rfl
  simp only [Tryz.ntmps122, List.size_toArray, List.length_cons, List.length_nil, Nat.reduceAdd, Nat.reduceSub, Array.replicate_succ, Array.replicate_zero, List.push_toArray, List.append_toArray, List.nil_append, List.cons_append]
  by_cases h1 : n < 1
  · rw [placeZ, if_neg (by omega)]
    clear hT
    gi_wp2
    exact ⟨.tuple #[.int .i64 0, .bool false], by simp [results, Tryz.results122, go_sem], rfl, ((((Below.refl w.heap.size w).alloc (Nat.le_refl _) _).alloc (by simp) _).alloc (by simp; omega) _)⟩
  by_cases h2 : (s.size : Int) + 1 < n
  · rw [placeZ, if_neg (by omega)]
    clear hT
    gi_wp2
    exact ⟨.tuple #[.int .i64 0, .bool false], by simp [results, Tryz.results122, go_sem], rfl, ((((Below.refl w.heap.size w).alloc (Nat.le_refl _) _).alloc (by simp) _).alloc (by simp; omega) _)⟩
  cases b
  · gi_wp2_with fail
    refine ⟨trivial, (callsIn_wide.2 (all_any _ _ _)).mono ?_⟩
    rintro e W0 ⟨rfl, hW⟩
    simp only [World.size_alloc]
    obtain ⟨hsz, x4, x6, x7, x8, xa, xb⟩ := push6 w.heap (.cells #[.int .i64 n] 3) (.cells #[.int .i64 0] 3) (.cells #[.bool false] 4) (.cells #[.int .i64 1] 3) (.cells #[.string s] 9) (.cells #[.bool false] 4) W0.heap (by rw [← hW]; rfl)
    have hb0 : Below w.heap.size w W0 := by
      rw [← hW]
      exact ((((((Below.refl _ _).alloc (Nat.le_refl _) _).alloc (by simp) _).alloc (by simp; omega) _).alloc (by simp; omega) _).alloc (by simp; omega) _).alloc (by simp; omega) _
    have hTW : Utf8Tabs 4 5 W0 := tabs_below hT hb0 (Nat.le_refl _)
    clear hW
    gi_wp2
    refine wpIn_rangeFunc_ownF rfl (by omega) (gf := 208) (lb := #[.pointer (some ⟨w.heap.size + 4, 0, none⟩), .pointer (some ⟨w.heap.size + 4 + 1, 0, none⟩)]) rfl trivial (enters_of Tryz.func208 (by kernel_rfl) rfl)
      (all_stops 9 (by omega) s false (w.heap.size + 4) (w.heap.size + 4 + 1) W0 (by omega) (Boxed.cell xa) (Boxed.cell xb) hTW) KeepsAt.trans
      (fun W l o o' hl _ _ _ => KeepsAt.putObj W0.heap.size (fun c hc => by have := tabs_lt hTW; simp at hc; omega) W l o' hl) (Below.refl _ _) (fun _ => rfl)
      (fun pre W => (Boxed W w.heap.size 3 (.int .i64 n) ∧ Boxed W (w.heap.size + 1) 3 (.int .i64 0) ∧ Boxed W (w.heap.size + 1 + 1) 4 (.bool false) ∧ Boxed W (w.heap.size + 1 + 1 + 1) 3 (.int .i64 ((pre.length : Int) + 1))) ∧ (((pre.length : Int) < n ∧ w.heap.size + 6 ≤ W.heap.size) ∧ Below w.heap.size w W))
      (fun c pre W => c = .ret ∧ (∃ v : Nat, (Boxed W (w.heap.size + 1) 3 (.int .i64 v) ∧ Boxed W (w.heap.size + 1 + 1) 4 (.bool true)) ∧ (pre = List.range pre.length → (pre.length : Int) = n ∧ v = pl s false (pre.length - 1))) ∧ Below w.heap.size w W) ?hI ?hIx ⟨⟨x4, x6, x7, x8⟩, ⟨by simp; omega, by omega⟩, hb0⟩
      (fun k => { tmps := #[.string s, .int .i64 n, .bool false, undef, .pointer (some ⟨w.heap.size, 0, none⟩), undef, .pointer (some ⟨w.heap.size + 1, 0, none⟩), .pointer (some ⟨w.heap.size + 1 + 1, 0, none⟩), .pointer (some ⟨w.heap.size + 1 + 1 + 1, 0, none⟩), .int .i64 (pl s false k), .int .i64 n, .bool false, .bool false, .int .i64 n, .string s, .int .i64 s.size, .int .i64 (s.size + 1), .bool false, .bool false, .bool false, undef, undef, .string s, .func (.func 208) #[] #[.pointer (some ⟨w.heap.size + 1 + 1 + 1 + 1, 0, none⟩), .pointer (some ⟨w.heap.size + 1 + 1 + 1 + 1 + 1, 0, none⟩)], .int .i64 (pl s false k), .int .i64 (uCod s false (pl s false k)), undef, undef, undef, undef, undef, undef, undef, undef, undef, undef, undef], defers := [] }) ?assign ?body ?done ?stop
    case hI =>
      refine OwnFrom.and (OwnFrom.and (Own.from (boxed_own _ _ _) _) (OwnFrom.and (Own.from (boxed_own _ _ _) _) (OwnFrom.and (Own.from (boxed_own _ _ _) _) (Own.from (boxed_own _ _ (fun pre : List Nat => .int .i64 ((pre.length : Int) + 1))) _)))) (OwnFrom.and (fun _ A B row hs hg _ => ⟨hs.1, by have := hg.size; omega⟩) (ownFrom_below (Nat.le_refl _) (by omega)))
    case hIx =>
      rintro c pre A B row ⟨h1, ⟨v, ⟨h2, h3⟩, h4⟩, h5⟩ hg hr
      exact ⟨h1, ⟨v, ⟨boxed_own (β := Unit) (w.heap.size + 1) 3 (fun _ => .int .i64 v) () A B row h2 hg (fun r e => (hr r e).2), boxed_own (β := Unit) (w.heap.size + 1 + 1) 4 (fun _ => .bool true) () A B row h3 hg (fun r e => (hr r e).2)⟩, h4⟩, ownFrom_below (β := Unit) (Nat.le_refl _) (by omega) () A B row h5 hg hr⟩
    case assign =>
      intro l k W K hK
      gi_wp2
      exact hK
    case body =>
      rintro l pre k W ⟨⟨y4, y6, y7, y8⟩, ⟨hpn, hz⟩, hB⟩ hlen
      have c4 := y4.cell
      have c6 := y6.cell
      have f6 := y6.frozen
      have c7 := y7.cell
      have f7 := y7.frozen
      have c8 := y8.cell
      have f8 := y8.frozen
      have hl1 : (((pre ++ [k]).length : Nat) : Int) = (pre.length : Int) + 1 := by simp
      have hkn : pre ++ [k] = List.range (pre ++ [k]).length → k = pre.length := by
        intro he
        rw [List.length_append, List.length_cons, List.length_nil, Nat.zero_add] at he
        rw [List.range_succ] at he
        obtain ⟨_, h2⟩ := List.append_inj' he rfl
        simpa using h2
      have hl2 : (pre ++ [k]).length - 1 = pre.length := by simp
      obtain ⟨m, hm⟩ : ∃ m, pre.length = m := ⟨_, rfl⟩
      rw [hm] at c8 hl1 hl2 hkn hpn hlen y8
      have HL := Lib.hid hl1
      have HL2 := Lib.hid hl2
      have HKN := Lib.hid hkn
      have HY := Lib.hid (And.intro y4 (And.intro y6 (And.intro y7 y8)))
      have HB := Lib.hid hB
      have hple := pl_le s false k
      clear hl1 hl2 hkn y4 y6 y7 y8 hB hm x4 x6 x7 x8 xa xb hb0 hTW
      by_cases hmn : (m : Int) + 1 = n
      · have hmb : ((m : Int) + 1 == n) = true := by simp; omega
        have HMN := Lib.hid hmn
        clear hmn
        gi_wp2
        obtain ⟨z4, z6, z7, z8⟩ := HY.out
        exact ⟨(KeepsOthers.setCell _ _ _).trans (KeepsOthers.setCell _ _ _), rfl, ⟨pl s false k, ⟨(z6.set _).other (by omega) _, (z7.other (by omega) _).set _⟩, fun he => ⟨by rw [HL.out]; exact HMN.out, by rw [HL2.out, HKN.out he]⟩⟩, (HB.out.setCell (by show w.heap.size ≤ w.heap.size + 1; omega) _).setCell (by show w.heap.size ≤ w.heap.size + 1 + 1; omega) _⟩
      · have hmb : ((m : Int) + 1 == n) = false := by simp; omega
        gi_wp2
        obtain ⟨z4, z6, z7, z8⟩ := HY.out
        refine ⟨KeepsOthers.setCell _ _ _, KeepsAt.of_grown (grownBy_setCell' _ _ _) (fun c hc => ?_), ⟨z4.other (by omega) _, z6.other (by omega) _, z7.other (by omega) _, by rw [HL.out]; exact z8.set _⟩, ⟨by rw [HL.out]; omega, by simpa using hz⟩, HB.out.setCell (by show w.heap.size ≤ w.heap.size + 1 + 1 + 1; omega) _⟩
        have := tabs_lt hT
        simp only [List.mem_cons, List.not_mem_nil, or_false] at hc
        simp only [ne_eq, Option.some.injEq]
        omega
    case done =>
      rintro D xs W hD rfl ⟨⟨y4, y6, y7, y8⟩, ⟨hpn, hz⟩, hB⟩ hK
      rw [List.length_range] at y8 hpn
      have c4 := y4.cell
      have c6 := y6.cell
      have f6 := y6.frozen
      have c7 := y7.cell
      have f7 := y7.frozen
      have c8 := y8.cell
      have HB := Lib.hid hB
      have HY := Lib.hid (And.intro y6 y7)
      have HSZ := Lib.hid hsz
      by_cases hn : (cnt s false : Int) + 1 = n
      · have hmb : (((cnt s false : Nat) : Int) + 1 == n) = true := by simp; omega
        have hpz : placeZ s false n = (((s.size : Nat) : Int), true) := by
          rw [placeZ, if_pos (by omega), show (n - 1).toNat = cnt s false by omega, pl_cnt]
        have HPZ := Lib.hid hpz
        clear hn hpz y4 y6 y7 y8 hB hb0 hTW x4 x6 x7 x8 xa xb hsz
        gi_wp2
        have b6 := (HY.out.1.set (.int .i64 (s.size : Nat))).other (B' := w.heap.size + 1 + 1) (by omega) (.bool true)
        have b7 := (HY.out.2.other (B' := w.heap.size + 1) (by omega) (.int .i64 (s.size : Nat))).set (.bool true)
        have kD := ((KeepsOthers.setCell W ⟨w.heap.size + 1, 0, none⟩ (.int .i64 (s.size : Nat))).trans (KeepsOthers.setCell _ ⟨w.heap.size + 1 + 1, 0, none⟩ (.bool true))).same D _ hK rfl
        have hBY := (HB.out.setCell (p := ⟨w.heap.size + 1, 0, none⟩) (by show w.heap.size ≤ w.heap.size + 1; omega) (.int .i64 (s.size : Nat))).setCell (p := ⟨w.heap.size + 1 + 1, 0, none⟩) (by show w.heap.size ≤ w.heap.size + 1 + 1; omega) (.bool true)
        have hs' := HSZ.out
        have d6 := (b6.kept (grownBy_putObj' _ D (.deferred none)) (fun e => by have := Option.some.inj e; omega)).cell
        have d7 := (b7.kept (grownBy_putObj' _ D (.deferred none)) (fun e => by have := Option.some.inj e; omega)).cell
        refine ⟨by simp, .inl ⟨_, _, rfl, run_takeDeferred kD, .tuple #[.int .i64 (s.size : Nat), .bool true], ?_, by rw [HPZ.out], ?_⟩⟩
        · simp [results, Tryz.results122, go_sem, d6, d7]
        · exact hBY.trans (belowK_b (w := w) (Nat.le_refl _) _ D _ _ (by omega) kD rfl rfl)
      · have hmb : (((cnt s false : Nat) : Int) + 1 == n) = false := by simp; omega
        have hpz : placeZ s false n = (0, false) := by
          rw [placeZ, if_neg (by omega)]
        have HPZ := Lib.hid hpz
        clear hn hpz y4 y6 y7 y8 hB hb0 hTW x4 x6 x7 x8 xa xb hsz
        gi_wp2
        have b6 := (HY.out.1.set (.int .i64 0)).other (B' := w.heap.size + 1 + 1) (by omega) (.bool false)
        have b7 := (HY.out.2.other (B' := w.heap.size + 1) (by omega) (.int .i64 0)).set (.bool false)
        have kD := ((KeepsOthers.setCell W ⟨w.heap.size + 1, 0, none⟩ (.int .i64 0)).trans (KeepsOthers.setCell _ ⟨w.heap.size + 1 + 1, 0, none⟩ (.bool false))).same D _ hK rfl
        have hBY := (HB.out.setCell (p := ⟨w.heap.size + 1, 0, none⟩) (by show w.heap.size ≤ w.heap.size + 1; omega) (.int .i64 0)).setCell (p := ⟨w.heap.size + 1 + 1, 0, none⟩) (by show w.heap.size ≤ w.heap.size + 1 + 1; omega) (.bool false)
        have hs' := HSZ.out
        have d6 := (b6.kept (grownBy_putObj' _ D (.deferred none)) (fun e => by have := Option.some.inj e; omega)).cell
        have d7 := (b7.kept (grownBy_putObj' _ D (.deferred none)) (fun e => by have := Option.some.inj e; omega)).cell
        refine ⟨by simp, .inl ⟨_, _, rfl, run_takeDeferred kD, .tuple #[.int .i64 0, .bool false], ?_, by rw [HPZ.out], ?_⟩⟩
        · simp [results, Tryz.results122, go_sem, d6, d7]
        · exact hBY.trans (belowK_b (w := w) (Nat.le_refl _) _ D _ _ (by omega) kD rfl rfl)
    case stop =>
      rintro D c pre W hD ⟨k, hk, rfl⟩ ⟨rfl, ⟨v, ⟨y6, y7⟩, hv⟩, hB⟩ hK
      obtain ⟨hv1, hv2⟩ := hv (by simp)
      rw [List.length_range] at hv1 hv2
      have hpz : placeZ s false n = (((v : Nat) : Int), true) := by
        rw [placeZ, if_pos (by omega), hv2, show (n - 1).toNat = k - 1 by omega]
      have HPZ := Lib.hid hpz
      clear hpz hv hv1 hv2 hb0 hTW x4 x6 x7 x8 xa xb
      have HSZ := Lib.hid hsz
      have HB := Lib.hid hB
      clear hsz hB
      gi_wp2
      have hs' := HSZ.out
      have d6 := (y6.kept (grownBy_putObj' _ D (.deferred none)) (fun e => by have := Option.some.inj e; omega)).cell
      have d7 := (y7.kept (grownBy_putObj' _ D (.deferred none)) (fun e => by have := Option.some.inj e; omega)).cell
      refine ⟨by simp, .inl ⟨_, _, rfl, run_takeDeferred hK, .tuple #[.int .i64 (v : Nat), .bool true], ?_, by rw [HPZ.out], ?_⟩⟩
      · simp [results, Tryz.results122, go_sem, d6, d7]
      · exact HB.out.trans (belowK_b (w := w) (Nat.le_refl _) _ D _ _ (by omega) hK rfl rfl)
  · rw [cnt_byte] at hcl
    rw [placeZ, cnt_byte, if_pos (by omega), pl_byte s _ (by omega)]
    clear hT
    gi_wp2
    exact ⟨.tuple #[.int .i64 (n - 1), .bool true], by simp [results, Tryz.results122, go_sem], by simp; omega, ((((Below.refl w.heap.size w).alloc (Nat.le_refl _) _).alloc (by simp) _).alloc (by simp; omega) _)⟩
end Go.Proofs.YtmceakbjholjpaaGreatDoor

namespace Go.Proofs.YtmceakbjholjpaaGreatDoor
open Go.RowKit Go.Lib Go.Shelf
attribute [local go_sem] Oper.semAt_some

def aheadZ (s : ByteArray) (b : Bool) (n : Int) : Nat := if n < 1 then 0 else if (placeZ s b n).2 then (placeZ s b n).1.toNat else s.size

set_option maxRecDepth 100000 in
set_option maxHeartbeats 2000000 in
theorem ahead_in (s : ByteArray) (n : Int) (b : Bool) (w : World) (hs : s.size ≤ 1048576) (hT : Utf8Tabs 4 5 w) :
    CallsIn Fence.wide 10 Tryz.prog 83 #[.string s, .int .i64 n, .bool b] w fun e w' => e = .returned (.int .i64 (aheadZ s b n : Nat)) ∧ Below w.heap.size w w' := by
  refine callsIn_of_wp_marks Tryz.func83 rfl trivial ?_ rfl
  simp only [Tryz.ntmps83, List.size_toArray, List.length_cons, List.length_nil, Nat.reduceAdd, Nat.reduceSub, Array.replicate_succ, Array.replicate_zero, List.push_toArray, List.append_toArray, List.nil_append, List.cons_append]
  by_cases h1 : n < 1
  · rw [aheadZ, if_pos h1]
    clear hT
    gi_wp2
    exact ⟨.int .i64 0, by simp [results, Tryz.results83, go_sem], rfl, Below.refl w.heap.size w⟩
  · have PI := Lib.hid (place_in s n b w hs hT)
    clear hT
    rw [aheadZ, if_neg h1]
    gi_wp2_with fail
    refine ⟨trivial, (callsIn_wide.2 (callsIn_wide.1 PI.out)).mono ?_⟩
    rintro e W0 ⟨rfl, hW⟩
    have HW := Lib.hid hW
    clear hW PI
    have hz : (placeZ s b n).1 = max (placeZ s b n).1 0 := by
      have : 0 ≤ (placeZ s b n).1 := by rw [placeZ]; split <;> simp
      omega
    have HZ := Lib.hid hz
    clear hz
    cases hp : (placeZ s b n).2
    · gi_wp2
      all_goals exact ⟨.int .i64 (s.size : Nat), by simp [results, Tryz.results83, go_sem], rfl, HW.out⟩
    · gi_wp2
      exact ⟨.int .i64 (placeZ s b n).1, by simp [results, Tryz.results83, go_sem], by rw [← HZ.out], HW.out⟩
end Go.Proofs.YtmceakbjholjpaaGreatDoor

namespace Go.Proofs.YtmceakbjholjpaaGreatDoor
open Go.RowKit Go.Lib Go.Shelf
attribute [local go_sem] Oper.semAt_some

theorem aheadZ_pl (s : ByteArray) (b : Bool) (n : Int) : aheadZ s b n = pl s b (min (max n 1) (cnt s b + 1) - 1).toNat := by
  unfold aheadZ
  by_cases h1 : n < 1
  · rw [if_pos h1, show (min (max n 1) ((cnt s b : Int) + 1) - 1).toNat = 0 by omega]; rfl
  rw [if_neg h1]
  by_cases h2 : n ≤ cnt s b + 1
  · have e : placeZ s b n = (((pl s b (n - 1).toNat : Nat) : Int), true) := by rw [placeZ, if_pos ⟨by omega, h2⟩]
    rw [e, show (min (max n 1) ((cnt s b : Int) + 1) - 1).toNat = (n - 1).toNat by omega]; simp
  · have e : placeZ s b n = (0, false) := by rw [placeZ, if_neg (by omega)]
    rw [e, show (min (max n 1) ((cnt s b : Int) + 1) - 1).toNat = cnt s b by omega, pl_cnt]; simp

theorem sub_ahead (s : ByteArray) (b : Bool) (i j : Int) (h : i < j) : s.extract (aheadZ s b i) (aheadZ s b j) = subB s b i j := by
  rw [aheadZ_pl, aheadZ_pl]
  unfold subB
  by_cases hc : min j ((cnt s b : Int) + 1) ≤ max i 1
  · rw [if_pos hc, show (min (max j 1) ((cnt s b : Int) + 1) - 1).toNat = (min (max i 1) ((cnt s b : Int) + 1) - 1).toNat by omega]
    apply ByteArray.ext
    simp
  · rw [if_neg hc, show (min (max j 1) ((cnt s b : Int) + 1) - 1) = (min j ((cnt s b : Int) + 1) - 1) by omega, show (min (max i 1) ((cnt s b : Int) + 1) - 1) = (max i 1 - 1) by omega]

theorem sub_none (s : ByteArray) (b : Bool) (i j : Int) (h : j ≤ i) : subB s b i j = ⟨#[]⟩ := by
  unfold subB; rw [if_pos (by omega)]

set_option maxRecDepth 100000 in
set_option maxHeartbeats 2000000 in
theorem clone_in (s : ByteArray) (w : World) (hs : s.size ≤ 1048576) :
    CallsIn Fence.wide 10 Tryz.prog 48 #[.string s] w fun e w' => e = .returned (.string s) ∧ Below w.heap.size w w' := by
  have SC := Lib.hid (Tryz.stringslite_Clone s w (by omega))
  refine callsIn_of_wp_marks Tryz.func48 rfl trivial ?_ rfl
  simp only [Tryz.ntmps48, List.size_toArray, List.length_cons, List.length_nil, Nat.reduceAdd, Nat.reduceSub, Array.replicate_succ, Array.replicate_zero, List.push_toArray, List.append_toArray, List.nil_append, List.cons_append]
  gi_wp2_with fail
  refine ⟨trivial, (callsIn_wide.2 SC.out).mono ?_⟩
  rintro e W0 ⟨rfl, hW⟩
  gi_wp2
  exact ⟨.string s, by simp [results, Tryz.results48, go_sem], rfl, hW⟩

set_option maxRecDepth 100000 in
set_option maxHeartbeats 2000000 in
theorem sub_in (s : ByteArray) (i j : Int) (b : Bool) (w : World) (hs : s.size ≤ 1048576) (hT : Utf8Tabs 4 5 w) :
    CallsIn Fence.wide 10 Tryz.prog 47 #[.string s, .int .i64 i, .int .i64 j, .bool b] w fun e w' => e = .returned (.string (subB s b i j)) ∧ Below w.heap.size w w' := by
  refine callsIn_of_wp_marks Tryz.func47 rfl trivial ?_ rfl
  simp only [Tryz.ntmps47, List.size_toArray, List.length_cons, List.length_nil, Nat.reduceAdd, Nat.reduceSub, Array.replicate_succ, Array.replicate_zero, List.push_toArray, List.append_toArray, List.nil_append, List.cons_append]
  by_cases h1 : j ≤ i
  · rw [sub_none s b i j h1]
    clear hT
    gi_wp2
    exact ⟨.string ⟨#[]⟩, by simp [results, Tryz.results47, go_sem], rfl, Below.refl w.heap.size w⟩
  · have AI := Lib.hid (fun (n : Int) (W : World) (T : Utf8Tabs 4 5 W) => ahead_in s n b W hs T)
    have HT := Lib.hid hT
    have hij : aheadZ s b i ≤ aheadZ s b j := by
      rw [aheadZ_pl, aheadZ_pl]; exact pl_mono _ _ _ _ (by omega)
    have hjs : aheadZ s b j ≤ s.size := by rw [aheadZ_pl]; exact pl_le _ _ _
    have HE := Lib.hid (sub_ahead s b i j (by omega))
    have hse : (s.extract (aheadZ s b i) (aheadZ s b j)).size ≤ 1048576 := by rw [ByteArray.size_extract]; omega
    have CL := Lib.hid (fun (W : World) => clone_in (s.extract (aheadZ s b i) (aheadZ s b j)) W hse)
    clear hT hse
    gi_wp2_with fail
    refine ⟨trivial, (callsIn_wide.2 (callsIn_wide.1 (AI.out i _ HT.out))).mono ?_⟩
    rintro e W0 ⟨rfl, hW⟩
    have HW := Lib.hid hW
    clear hW
    gi_wp2_with fail
    refine ⟨trivial, (callsIn_wide.2 (callsIn_wide.1 (AI.out j _ (tabs_below HT.out HW.out (Nat.le_refl _))))).mono ?_⟩
    rintro e W1 ⟨rfl, hW⟩
    have HW1 := Lib.hid (HW.out.trans (hW.mono HW.out.size))
    clear hW
    gi_wp2_with fail
    refine ⟨trivial, (callsIn_wide.2 (callsIn_wide.1 (CL.out _))).mono ?_⟩
    rintro e W2 ⟨rfl, hW⟩
    gi_wp2
    all_goals exact ⟨.string (s.extract (aheadZ s b i) (aheadZ s b j)), by simp [results, Tryz.results47, go_sem], by rw [HE.out], HW1.out.trans (hW.mono HW1.out.size)⟩
end Go.Proofs.YtmceakbjholjpaaGreatDoor

namespace Go.Proofs.YtmceakbjholjpaaGreatDoor
open Go.RowKit Go.Lib

/-- What of a text is written, and how wide. -/
def cutT (pr : Int) (c : Nat) (s : ByteArray) (by' : Bool) : ByteArray := if c = 115 ∧ 0 ≤ pr then subB s by' 1 (pr + 1) else s
def textT (m : Bool) (wd pr : Int) (c : Nat) (s : ByteArray) (by' : Bool) : List UInt8 := fillL (cutT pr c s by').data.toList (wd - (cnt (cutT pr c s by') by' : Int)) m
theorem sub_size (s : ByteArray) (b : Bool) (i j : Int) : (subB s b i j).size ≤ s.size := by
  unfold subB
  split
  · exact Nat.zero_le _
  · rw [ByteArray.size_extract]
    omega
theorem cut_size (pr : Int) (c : Nat) (s : ByteArray) (b : Bool) : (cutT pr c s b).size ≤ s.size := by
  unfold cutT
  split
  · exact sub_size _ _ _ _
  · exact Nat.le_refl _
theorem verb_text {c : Nat} (h : c < 256) (hv : vText.contains c.toUInt8 = true) : c = 99 ∨ c = 115 := by
  have key : ∀ n : Fin 256, vText.contains (UInt8.ofNat n.val) = true → n.val = 99 ∨ n.val = 115 := by decide +kernel
  exact key ⟨c, h⟩ hv
set_option maxRecDepth 100000 in
set_option maxHeartbeats 8000000 in
theorem ftext_yes (m p b a z by' : Bool) (wd pr : Int) (c : Nat) (s : ByteArray) (w : World) (hs : s.size ≤ 1048576) (hc : c < 256) (hk : chkB wd pr c = true) (hv : vText.contains c.toUInt8 = true) (hT : Utf8Tabs 4 5 w) :
    Calls Tryz.prog 16 #[.agg #[.bool m, .bool p, .bool b, .bool a, .bool z, .int .i64 wd, .int .i64 pr, .int .u8 (c : Int)], .string s, .bool by'] w fun e w' => e = .returned (.tuple #[.string ⟨(textT m wd pr c s by').toArray⟩, .int .i64 0]) ∧ Below w.heap.size w w' := by
  obtain ⟨d0, d1, d2, d3⟩ := chk_bd hk
  have hcc := verb_text hc hv
  have cK := fun W => check_any m p b a z wd pr c W
  rw [hk, if_pos rfl] at cK
  have cA := fun W => among_any ⟨#[99, 115]⟩ c W
  replace cA : ∀ w : World, Calls Tryz.prog 46 #[.string ⟨#[99, 115]⟩, .int .u8 (c : Int)] w fun e w' => e = .returned (.bool (vText.contains c.toUInt8)) ∧ w = w' := cA
  rw [hv] at cA
  have cS := fun (W : World) h => callsIn_wide.1 (sub_in s 1 (pr + 1) by' W hs h)
  have cC := fun W => clone_str s W (by omega)
  obtain ⟨t, ht⟩ : ∃ t, cutT pr c s by' = t := ⟨_, rfl⟩
  have hts := cut_size pr c s by'
  rw [ht] at hts
  have hcl := cnt_le t by'
  have cL := fun W => len_any t by' W (by omega)
  obtain ⟨n, hn⟩ : ∃ n, cnt t by' = n := ⟨_, rfl⟩
  rw [hn] at cL hcl
  have hwr : IntKind.i64.wrap (wd - (n : Int)) = wd - (n : Int) := by rw [IntKind.wrap_i64]; omega
  have hwr2 : IntKind.i64.wrap (pr + 1) = pr + 1 := by rw [IntKind.wrap_i64]; omega
  have cF := fun W => fill_any t (wd - (n : Int)) m W (by omega) (by omega) (by omega)
  have hX : textT m wd pr c s by' = fillL t.data.toList (wd - (n : Int)) m := by unfold textT; rw [ht, hn]
  rw [hX]
  obtain ⟨X, hX⟩ : ∃ X : ByteArray, (⟨(fillL t.data.toList (wd - (n : Int)) m).toArray⟩ : ByteArray) = X := ⟨_, rfl⟩
  rw [hX] at cF ⊢
  have hS : (((c : Int) == 115) = true ∧ 0 ≤ pr ∧ subB s by' 1 (pr + 1) = t) ∨ (((c : Int) == 115) = false ∧ s = t) ∨ (((c : Int) == 115) = true ∧ pr < 0 ∧ s = t) := by
    unfold cutT at ht
    by_cases h1 : c = 115 ∧ 0 ≤ pr
    · rw [if_pos h1] at ht
      exact Or.inl ⟨by rw [beq_iff_eq]; omega, h1.2, ht⟩
    · rw [if_neg h1] at ht
      rcases hcc with h2 | h2
      · exact Or.inr (Or.inl ⟨by rw [beq_eq_false_iff_ne]; omega, ht⟩)
      · exact Or.inr (Or.inr ⟨by rw [beq_iff_eq]; omega, by omega, ht⟩)
  have CK := Lib.hid cK
  have CA := Lib.hid cA
  have CS := Lib.hid cS
  have CC := Lib.hid cC
  have CL := Lib.hid cL
  have CF := Lib.hid cF
  have HT := Lib.hid hT
  have FP := Lib.hid (Five.new w #[.bool m, .bool p, .bool b, .bool a, .bool z, .int .i64 wd, .int .i64 pr, .int .u8 (c : Int)] 24)
  have HB0 := Lib.hid ((Below.refl w.heap.size w).alloc (Nat.le_refl _) (.cells #[.bool m, .bool p, .bool b, .bool a, .bool z, .int .i64 wd, .int .i64 pr, .int .u8 (c : Int)] 24))
  obtain ⟨W1, hW1⟩ : ∃ W1, w.alloc (.cells #[.bool m, .bool p, .bool b, .bool a, .bool z, .int .i64 wd, .int .i64 pr, .int .u8 (c : Int)] 24) = W1 := ⟨_, rfl⟩
  rw [hW1] at FP HB0
  have HW1 := Lib.hid hW1
  clear cK cA cS cC cL cF hT hW1 hX hk hv hcc ht hn hs hts hcl d0 d1 d3
  have hle : w.heap.size ≤ W1.heap.size := HB0.out.size
  obtain ⟨B, hB⟩ : ∃ B, w.heap.size = B := ⟨_, rfl⟩
  rw [hB] at FP HB0 hle ⊢
  have HB := Lib.hid hB
  have HTW := Lib.hid (fun (W : World) (h : Below B w W) => tabs_below HT.out h (Nat.le_of_eq hB))
  clear hB
  rcases hS with ⟨hq, hp, hst⟩ | ⟨hq, rfl⟩ | ⟨hq, hp, rfl⟩
  all_goals
    obtain ⟨p0, p1, p2, p3, p4, p5, p6, p7⟩ := spec_cells FP.out
    go_enter Tryz.func16, Tryz.ntmps16
    go_wp2_with fail
    rw [HW1.out, HB.out]
    refine (CK.out _).mono ?_
    rintro e W2 ⟨rfl, h2⟩
    clear p0 p1 p2 p3 p4 p5 p6 p7
    obtain ⟨p0, p1, p2, p3, p4, p5, p6, p7⟩ := spec_cells (FP.out.below h2)
    have FP2 := Lib.hid (FP.out.below h2)
    have HB2 := Lib.hid (HB0.out.trans (h2.mono hle))
    have hle2 : B ≤ W2.heap.size := Nat.le_trans hle h2.size
    clear h2
    go_wp2_with fail
    refine (CA.out _).mono ?_
    rintro e w' ⟨rfl, rfl⟩
    go_wp2_with fail
  all_goals
    have HC3 := Lib.hid (fun (W : World) (h : Below W2.heap.size W2 W) => spec_cells (FP2.out.below h))
    first
    | (refine (CC.out _).mono ?_
       rintro e W3 ⟨rfl, h3⟩)
    | (refine (CS.out _ (HTW.out _ HB2.out)).mono ?_
       rintro e W3 ⟨rfl, h3⟩
       rw [hst])
    clear p0 p1 p2 p3 p4 p5 p6 p7
    obtain ⟨p0, p1, p2, p3, p4, p5, p6, p7⟩ := HC3.out _ h3
    have FP3 := Lib.hid (FP2.out.below h3)
    have HB3 := Lib.hid (HB2.out.trans (h3.mono hle2))
    have hle3 : B ≤ W3.heap.size := Nat.le_trans hle2 h3.size
    clear h3
    go_wp2_with fail
    have HCW := Lib.hid (fun (W : World) (h : Below W3.heap.size W3 W) => spec_cells (FP3.out.below h))
    have hR := Below.refl W3.heap.size W3
    go_region_held3 (fun w' => w'.cell? ⟨B, 0, none⟩ = some (.bool m) ∧ w'.cell? ⟨B, 1, none⟩ = some (.bool p) ∧ w'.cell? ⟨B, 2, none⟩ = some (.bool b) ∧ w'.cell? ⟨B, 3, none⟩ = some (.bool a) ∧ w'.cell? ⟨B, 4, none⟩ = some (.bool z) ∧ w'.cell? ⟨B, 5, none⟩ = some (.int .i64 wd) ∧ w'.cell? ⟨B, 6, none⟩ = some (.int .i64 pr) ∧ w'.cell? ⟨B, 7, none⟩ = some (.int .u8 (c : Int)))
      (first | (with_reducible exact S2) | (with_reducible exact S1) | go_keep)
      (first
      | (go_at_call 50; (with_reducible refine (CL.out _).mono ?_); rintro e W4 ⟨rfl, h4⟩; have b4 : Below W3.heap.size W3 W4 := ⟨h4.os, h4.tape, h4.output, h4.size, h4.block⟩; have S1 := HCW.out _ b4; clear h4)
      | (go_at_call 49; (with_reducible refine (CF.out _).mono ?_); rintro e W5 ⟨rfl, h5⟩; have b5 : Below W3.heap.size W3 W5 := b4.trans ((⟨h5.os, h5.tape, h5.output, h5.size, h5.block⟩ : Below W4.heap.size W4 W5).mono b4.size); have S2 := HCW.out _ b5; clear h5))
    all_goals
      have hBf := HB3.out.trans (b5.mono hle3)
      go_wp2_with fail
      go_ret2
      exact ⟨rfl, by first | exact hBf | exact ⟨hBf.os, hBf.tape, hBf.output, hBf.size, hBf.block⟩⟩
theorem decs_is {l : List UInt8} {n : Nat} (hd : Dec l) (hp : pv l = n) (h0 : 0 < l.length) (h1 : l[0] ≠ 48) : decs n = l := by
  rw [← hp, ← decs_strip (i := 0) hd h0 (fun j h => by omega) (Or.inr h1), List.drop_zero]
theorem fix_01 : fixP 4591870180066957722 6 false = [48, 46, 49, 48, 48, 48, 48, 48] := by
  unfold fixP
  rw [show rnd (amN 4591870180066957722 * 10 ^ 6) (amD 4591870180066957722) = 100000 by decide +kernel, decs_is (l := [49, 48, 48, 48, 48, 48]) (n := 100000) (by unfold Dec; decide) (by decide) (by decide) (by decide)]
  rfl
theorem gen_01 : genT 4591870180066957722 5 false = [48, 46, 49] := by
  unfold genT
  rw [sciX_of (sciB_ok (P := -1) (M := 100000) (by decide +kernel) (by omega))]
  rw [if_neg (by decide)]
  show trimG false (fixP 4591870180066957722 6 false) = _
  rw [fix_01]
  rfl
theorem conv6_01 : conv6 4591870180066957722 = [48, 46, 49] := by
  unfold conv6
  rw [if_neg (by decide +kernel), show oddL 4591870180066957722 = none from odd_none (by decide)]
  show pointT false false false false false 0 6 103 4591870180066957722 = _
  unfold pointT ptD
  rw [if_neg (by decide), if_neg (by decide), show (max (1 : Int) (if (6 : Int) < 0 then (6 : Int) else 6) - 1).toNat = 5 by decide, show mag 4591870180066957722 = 4591870180066957722 by decide, gen_01]
  decide +kernel
theorem pt_pi : pointT false true false false true 8 2 102 4614256650576692846 = [43, 48, 48, 48, 51, 46, 49, 52] := by
  unfold pointT ptD
  rw [if_pos (Or.inl rfl)]
  decide +kernel
theorem text_ex : textT true 5 2 115 ⟨#[97, 195, 169, 122]⟩ false = [97, 195, 169, 32, 32, 32] := by
  decide +kernel
def pEx : ByteArray := ⟨#[97, 37, 43, 48, 56, 46, 50, 102, 98]⟩
theorem parse_ex : parseF pEx 1 = some ⟨false, true, false, false, true, 8, 2, 102, false, false, 8⟩ := by rfl
end Go.Proofs.YtmceakbjholjpaaGreatDoor

namespace Go.Proofs.YtmceakbjholjpaaGreatDoor
open Go.RowKit Go.Lib

set_option maxRecDepth 100000 in
set_option maxHeartbeats 8000000 in
theorem ffixed_any (w : World) (hT : PowTab w) (hU : Utf8Tabs 4 5 w) : Calls Tryz.prog 13 #[] w fun e w' => e = .returned (.bool true) ∧ Below w.heap.size w w' := by
  have c1 := fun W => fparse_any pEx 1 W (by decide)
  rw [parse_ex] at c1
  replace c1 : ∀ W, Calls Tryz.prog 14 #[.string ⟨#[97, 37, 43, 48, 56, 46, 50, 102, 98]⟩, .int .i64 1] W fun e w' => e = .returned (.tuple #[.agg #[.bool false, .bool true, .bool false, .bool false, .bool true, .int .i64 8, .int .i64 2, .int .u8 102, .bool false, .bool false, .int .i64 8], .int .i64 0]) ∧ Below W.heap.size W w' := c1
  have c2 := fun W hW => number_point false true false false true 8 2 102 4614256650576692846 W (by omega) (by decide) (by decide) (by decide) (by decide) hW
  rw [pt_pi] at c2
  replace c2 : ∀ W, PowTab W → Calls Tryz.prog 19 #[.agg #[.bool false, .bool true, .bool false, .bool false, .bool true, .int .i64 8, .int .i64 2, .int .u8 102], .float .f64 4614256650576692846] W fun e w' => e = .returned (.tuple #[.string ⟨#[43, 48, 48, 48, 51, 46, 49, 52]⟩, .int .i64 0]) ∧ Below W.heap.size W w' := c2
  have c3 := fun W hW => ftext_yes true false false false false false 5 2 115 ⟨#[97, 195, 169, 122]⟩ W (by decide) (by omega) (by decide) (by decide) hW
  rw [text_ex] at c3
  replace c3 : ∀ W, Utf8Tabs 4 5 W → Calls Tryz.prog 16 #[.agg #[.bool true, .bool false, .bool false, .bool false, .bool false, .int .i64 5, .int .i64 2, .int .u8 115], .string ⟨#[97, 195, 169, 122]⟩, .bool false] W fun e w' => e = .returned (.tuple #[.string ⟨#[97, 195, 169, 32, 32, 32]⟩, .int .i64 0]) ∧ Below W.heap.size W w' := c3
  have c4 := fun W hW => conv_6g 4591870180066957722 W (by omega) hW
  rw [conv6_01] at c4
  replace c4 : ∀ W, PowTab W → Calls Tryz.prog 40 #[.float .f64 4591870180066957722, .string ⟨#[37, 46, 54, 103]⟩] W fun e w' => e = .returned (.string ⟨#[48, 46, 49]⟩) ∧ Below W.heap.size W w' := c4
  have HT := Lib.hid (Lib.tabBelow_of_tabIs hT)
  have HU := Lib.hid (fun (W : World) (h : Below w.heap.size w W) => tabs_below hU h (Nat.le_refl _))
  have C1 := Lib.hid c1
  have C2 := Lib.hid c2
  have C3 := Lib.hid c3
  have C4 := Lib.hid c4
  clear c1 c2 c3 c4 hT hU
  go_enter Tryz.func13, Tryz.ntmps13
  go_wp2_with fail
  refine (C1.out _).mono ?_
  rintro e w1 ⟨rfl, hB1⟩
  have fA := Five.new w1 #[.bool false, .bool true, .bool false, .bool false, .bool true, .int .i64 8, .int .i64 2, .int .u8 102, .bool false, .bool false, .int .i64 8] 26
  have hA := hB1.alloc hB1.size (.cells #[.bool false, .bool true, .bool false, .bool false, .bool true, .int .i64 8, .int .i64 2, .int .u8 102, .bool false, .bool false, .int .i64 8] 26)
  obtain ⟨W2, hW2⟩ : ∃ W2, w1.alloc (.cells #[.bool false, .bool true, .bool false, .bool false, .bool true, .int .i64 8, .int .i64 2, .int .u8 102, .bool false, .bool false, .int .i64 8] 26) = W2 := ⟨_, rfl⟩
  obtain ⟨B, hB⟩ : ∃ B, w1.heap.size = B := ⟨_, rfl⟩
  rw [hW2] at fA hA
  rw [hB] at fA
  have HW2 := Lib.hid hW2
  have HB := Lib.hid hB
  have FA := Lib.hid fA
  have HA := Lib.hid hA
  clear hW2 hB fA hA hB1
  obtain ⟨⟨q0, q1, q2, q3, q4, q5, q6, q7, q8, q9, q10⟩, -⟩ := FA.out.eleven
  go_wp2_with fail
  rw [HW2.out, HB.out]
  clear q0 q1 q2 q3 q4 q5 q6 q7 q8 q9 q10
  refine (C2.out _ (HT.out _ HA.out)).mono ?_
  rintro e W3 ⟨rfl, h3⟩
  have FA3 := Lib.hid (FA.out.below h3)
  have HA3 := Lib.hid (HA.out.trans (h3.mono HA.out.size))
  clear h3
  go_wp2_with fail
  refine (C3.out _ (HU.out _ HA3.out)).mono ?_
  rintro e W4 ⟨rfl, h4⟩
  have FA4 := Lib.hid (FA3.out.below h4)
  have HA4 := Lib.hid (HA3.out.trans (h4.mono HA3.out.size))
  clear h4
  have HCW := Lib.hid (fun (W : World) (h : Below W4.heap.size W4 W) => (show W.cell? ⟨B, 10, none⟩ = some (.int .i64 8) from ((FA4.out.below h).eleven).1.2.2.2.2.2.2.2.2.2.2))
  have hR := Below.refl W4.heap.size W4
  have q10 := HCW.out W4 hR
  go_wp2_with fail
  refine (C4.out _ (HT.out _ HA4.out)).mono ?_
  rintro e W5 ⟨rfl, h5⟩
  have hBf := HA4.out.trans (h5.mono HA4.out.size)
  clear h5 q10
  go_wp2_with fail
  go_ret
  exact ⟨rfl, hBf⟩
end Go.Proofs.YtmceakbjholjpaaGreatDoor

namespace Go.Proofs.YtmceakbjholjpaaGreatDoor
open Go.RowKit Go.Lib

set_option maxRecDepth 100000 in
set_option maxHeartbeats 1000000 in
theorem rin_any (S : ByteArray) (c : Nat) (w : World) (hc : c < 256) (hS : S.size ≤ 1000000) : Calls Tryz.prog 43 #[.int .u8 (c : Int), .string S] w fun e w' => e = .returned (.bool (S.data.toList.contains c.toUInt8)) ∧ w = w' := by
  have key : ∀ k, k ≤ S.size → (∀ i (h : i < S.size), i < k → (S[i]'h).toNat ≠ c) → S.data.toList.contains c.toUInt8 = (S.data.toList.drop k).contains c.toUInt8 := by
    intro k
    induction k with
    | zero => intro _ _; rw [List.drop_zero]
    | succ k ih =>
      intro hk h
      rw [ih (by omega) (fun i hi hik => h i hi (by omega))]
      have hlen : k < S.data.toList.length := by rw [ba_len]; omega
      rw [List.drop_eq_getElem_cons hlen, List.contains_cons]
      have hne : (c.toUInt8 == S.data.toList[k]) = false := by
        rw [beq_eq_false_iff_ne]
        intro e
        have h2 := h k (by omega) (by omega)
        apply h2
        have e2 : S[k] = S.data.toList[k] := rfl
        rw [e2, ← e]
        show c % 256 = c
        omega
      rw [hne, Bool.false_or]
  obtain ⟨v, hv⟩ : ∃ v, S.data.toList.contains c.toUInt8 = v := ⟨_, rfl⟩
  rw [hv] at key ⊢
  have KEY := Lib.hid key
  have HV := Lib.hid hv
  clear key hv
  go_enter Tryz.func43, Tryz.ntmps43
  go_wp2
  go_loop [5] (fun i => ∃ k : Nat, k ≤ S.size ∧ i = .int .i64 k ∧ ∀ j (h : j < S.size), j < k → (S[j]'h).toNat ≠ c) (fun i => S.size - (RowKit.intOf i).toNat)
  case atStart => exact ⟨0, Nat.zero_le _, rfl, fun j _ h => by omega⟩
  case round =>
    obtain ⟨k, hk, rfl, hno⟩ := hrel
    have HNO := Lib.hid hno
    clear hno
    by_cases hlt : k < S.size
    · by_cases he : (S[k]'hlt).toNat = c
      · have hr : v = true := by
          rw [← HV.out, List.contains_iff_mem]
          have hlen : k < S.data.toList.length := by rw [ba_len]; exact hlt
          have e2 : c.toUInt8 = S.data.toList[k] := by
            apply UInt8.toNat_inj.1
            show c % 256 = _
            have e3 : S[k] = S.data.toList[k] := rfl
            rw [← e3, he]
            omega
          rw [e2]
          exact List.getElem_mem hlen
        have ht : (((S[k]'hlt).toNat : Int) == (c : Int)) = true := by rw [beq_iff_eq]; omega
        have HR := Lib.hid hr
        clear hr he
        go_wp2_with fail
        go_ret
        exact ⟨by have h2 := HR.out; subst h2; rfl, rfl⟩
      · have ht : (((S[k]'hlt).toNat : Int) == (c : Int)) = false := by rw [beq_eq_false_iff_ne]; omega
        have HNE := Lib.hid he
        clear he
        go_wp2_with fail
        go_round
        case rel => exact ⟨k + 1, by omega, by go_num, fun j h hj => by
          by_cases e : j = k
          · subst e; exact HNE.out
          · exact HNO.out j h (by omega)⟩
        case measure => simp [RowKit.intOf]; omega
    · have hr : v = false := by
        rw [KEY.out k hk HNO.out, List.drop_of_length_le (by rw [ba_len]; omega)]
        rfl
      have HR := Lib.hid hr
      clear hr
      go_wp2_with fail
      go_ret
      exact ⟨by have h2 := HR.out; subst h2; rfl, rfl⟩
/-- A byte so many times, as the model's values. -/
def bsV (x : UInt8) (k : Nat) : List Value := (List.replicate k x).map fun b => Value.int .u8 b.toNat
theorem bsV_succ (x : UInt8) (k : Nat) : bsV x (k + 1) = bsV x k ++ [.int .u8 x.toNat] := by
  unfold bsV
  rw [List.replicate_succ', List.map_append]
  rfl
set_option maxRecDepth 100000 in
set_option maxHeartbeats 1000000 in
theorem rmany_any (x : UInt8) (c : Nat) (n : Int) (w : World) (hx : x.toNat = c) (hn : n ≤ 1000000) : Calls Tryz.prog 53 #[.int .u8 (c : Int), .int .i64 n] w fun e w' => e = .returned (.string ⟨(List.replicate n.toNat x).toArray⟩) ∧ Below w.heap.size w w' := by
  obtain ⟨i0, hi, hz0, hz1, hz2⟩ := info_parts info_u8
  have hcv : ∀ (W : World) (v : Value) (k : Nat), W.ownsRow w.heap.size 5 1 v k (bsV x k) → (convert 138 9 v).run Tryz.prog W = .ok (.string ⟨(List.replicate k x).toArray⟩) W := fun W v k h => conv_digits W w.heap.size v (List.replicate k x) (by rw [List.length_replicate]; exact h)
  obtain ⟨X, hX⟩ : ∃ X : ByteArray, (⟨(List.replicate n.toNat x).toArray⟩ : ByteArray) = X := ⟨_, rfl⟩
  rw [hX]
  have HCV := Lib.hid hcv
  have HX := Lib.hid hx
  have HXX := Lib.hid hX
  clear hcv hx hX
  go_enter Tryz.func53, Tryz.ntmps53
  go_wp2
  go_loopw [5, 6] (fun v i wr => ∃ k : Nat, (k : Int) ≤ max n 0 ∧ i = .int .i64 k ∧ wr.ownsRow w.heap.size 5 1 v k (bsV x k) ∧ Below w.heap.size w wr) (fun _ i _ => n.toNat - (RowKit.intOf i).toNat)
  case atStart => exact ⟨0, by omega, rfl, World.ownsRow_nil _ _ _ _, Below.refl _ _⟩
  case round =>
    obtain ⟨k, hk, rfl, hown, hB⟩ := hrel
    have hsz := hB.size
    by_cases hlt : (k : Int) < n
    · go_wp2_with (at_builtin; refine wpList_append_own _ rfl _ _ 138 rfl w.heap.size 5 i0 (.int .u8 0) 1 1 Tryz.underlying138 hi hz0 hz1 hz2 rfl (by decide) _ _ _ rfl (hown.alloc _) ⟨wr.heap.size, 0, none⟩ 1 1 [.int .u8 (c : Int)] rfl rfl (cell_one_new _ _ _) ?c2 ?c3 ?c4 ?c5 ?_)
      case c2 => simp [Value.oneCell']
      case c3 => unfold maxLen; omega
      case c4 => omega
      case c5 => first | omega | (simp; omega)
      intro v' w1 hown' hgrow _
      rw [← HX.out, ← bsV_succ] at hown'
      have hB1 : Below w.heap.size w w1 := (hB.alloc hsz _).grown hgrow (by simp; omega) (fun r e => (hown.lt r e).1)
      have HO := Lib.hid hown'
      clear hown' hown hgrow
      go_wp2_with fail
      go_roundw
      case rel => exact ⟨k + 1, by omega, by go_num, HO.out, hB1⟩
      case measure => simp [RowKit.intOf]; omega
    · have hc := HCV.out wr _ k hown
      have e : n.toNat = k := by omega
      have hx2 : (⟨(List.replicate k x).toArray⟩ : ByteArray) = X := by rw [← HXX.out, e]
      rw [hx2] at hc
      clear e hown hx2
      go_wp2_with fail
      go_ret
      exact ⟨rfl, hB⟩
end Go.Proofs.YtmceakbjholjpaaGreatDoor
