/- Contracts of layer 1: 'size' of the definition. -/
import Derived.Test.YtaemijgfngdjlaaDoorUstrA
import Derived.Test.YtaemijgfngdjlaaDoorUstrM
namespace Go.Proofs.YtaemijgfngdjlaaDoor
open Go.RowKit Go.Lib

set_option maxRecDepth 100000 in
set_option maxHeartbeats 1000000 in
theorem size_2 (s : ByteArray) (w : World) (hl : 2 ≤ s.size) (hs : s.size ≤ 9223372036854775807) (h1 : 194 ≤ (s.get! 0).toNat) (h2 : (s.get! 0).toNat ≤ 223) :
    Calls Tryd.prog 32 #[.string s] w fun e w' => e = .returned (.tuple #[.int .i64 (runN s 2 ((s.get! 0).toNat % 32) 128).1, .int .i64 (runN s 2 ((s.get! 0).toNat % 32) 128).2]) ∧ w = w' := by
  have g0 := get!_lt s 0 (by omega)
  have c1 : 194 ≤ (s[0].toNat : Int) := by rw [g0]; omega
  have c2 : (s[0].toNat : Int) ≤ 223 := by rw [g0]; omega
  obtain ⟨r0, hr0⟩ : ∃ r0, (s.get! 0).toNat % 32 = r0 := ⟨_, rfl⟩
  have hr1 : r0 < 32 := by omega
  rw [hr0]
  obtain ⟨R, hR⟩ : ∃ R, runN s 2 r0 128 = R := ⟨_, rfl⟩
  rw [hR]
  have G0 := Lib.hid g0; clear g0
  have B0 := Lib.hid hr0; clear hr0
  have HR := Lib.hid hR; clear hR
  go_enter Tryd.func32, Tryd.ntmps32
  go_wp2
  go_loop [6, 8, 9] (fun r i _ => ∃ k : Nat, k + 1 ≤ 2 ∧ i = .int .i64 (k + 1 : Nat) ∧ r = .int .i64 (accN s r0 k) ∧ ∀ j, j < k → contN (s.get! (j + 1)).toNat = true) (fun _ i _ => 2 - (RowKit.intOf i).toNat)
  case atStart => exact ⟨0, by omega, rfl, by rw [show accN s r0 0 = r0 from rfl, ← B0.out, ← G0.out]; go_num, fun _ h => by omega⟩
  case round =>
    obtain ⟨k, hk, rfl, rfl, hall⟩ := hrel
    have hacc := accN_bd s r0 32 k hr1 hall
    obtain ⟨A, hA⟩ : ∃ A, accN s r0 k = A := ⟨_, rfl⟩
    have hA2 : A < 2097152 := by
      rw [hA] at hacc
      have h64 := Nat.mul_le_mul_left 32 (Nat.pow_le_pow_right (n := 64) (by omega) (show k ≤ 1 by omega))
      have e64 : 32 * 64 ^ 1 ≤ 2097152 := by decide
      omega
    clear hacc
    by_cases hlt : k + 1 < 2
    · have gk := get!_lt s (k + 1) (by omega)
      have HALL := Lib.hid hall; clear hall
      have hb : (s[k + 1].toNat : Int) < 256 := by rw [gk]; have := get!_lt256 s (k + 1); omega
      by_cases hc : contN (s.get! (k + 1)).toNat = true
      · have hc1 : 128 ≤ (s[k + 1].toNat : Int) := by rw [gk]; simp [contN] at hc; omega
        have hc2 : (s[k + 1].toNat : Int) ≤ 191 := by rw [gk]; simp [contN] at hc; omega
        have HC := Lib.hid hc; clear hc
        have GK := Lib.hid gk; clear gk
        rw [hA]
        have HA := Lib.hid hA; clear hA
        go_wp2
        go_round
        case rel =>
          refine ⟨k + 1, by omega, by go_num, ?_, fun j hj => ?_⟩
          · have e2 : accN s r0 (k + 1) = 64 * A + s[k + 1].toNat - 128 := by rw [← HA.out, GK.out]; rfl
            rw [e2]
            go_num
          · by_cases hjk : j < k
            · exact HALL.out j hjk
            · obtain rfl : j = k := by omega
              exact HC.out
        case measure => simp [RowKit.intOf]; omega
      · have hc' : contN (s.get! (k + 1)).toNat = false := by simpa using hc
        clear hc
        have hR := HR.out
        rw [runN_no s 2 r0 128 k hlt hc'] at hR
        subst hR
        have HR2 := HR; clear HR
        by_cases h128 : (s[k + 1].toNat : Int) < 128
        · have HC := Lib.hid hc'; clear hc'
          have GK := Lib.hid gk; clear gk
          rw [hA]; clear hA
          go_wp2
          go_ret2
          exact ⟨rfl, rfl⟩
        · have h191 : 191 < (s[k + 1].toNat : Int) := by rw [gk] at h128 ⊢; simp [contN] at hc'; omega
          have HC := Lib.hid hc'; clear hc'
          have GK := Lib.hid gk; clear gk
          rw [hA]; clear hA
          go_wp2
          go_ret2
          exact ⟨rfl, rfl⟩
    · have hkn : k + 1 = 2 := by omega
      have hR := HR.out
      rw [runN_yes s 2 r0 128 k hkn hall, hA] at hR
      clear hall HR
      rw [hA]; clear hA
      by_cases t1 : A < 128
      · rw [outN_no _ _ _ (.inl t1)] at hR; subst hR
        have HK := Lib.hid hkn; clear hkn
        go_wp2
        go_ret2
        exact ⟨rfl, rfl⟩
      by_cases t2 : 1114111 < A
      · rw [outN_no _ _ _ (.inr (.inl t2))] at hR; subst hR
        have HK := Lib.hid hkn; clear hkn
        go_wp2
        go_ret2
        exact ⟨rfl, rfl⟩
      by_cases t3 : 55296 ≤ A
      · by_cases t4 : A ≤ 57343
        · rw [outN_no _ _ _ (.inr (.inr ⟨t3, t4⟩))] at hR; subst hR
          have HK := Lib.hid hkn; clear hkn
          go_wp2
          go_ret2
          exact ⟨rfl, rfl⟩
        · rw [outN_yes _ _ _ (by omega)] at hR; subst hR
          have HK := Lib.hid hkn; clear hkn
          go_wp2
          go_ret2
          exact ⟨rfl, rfl⟩
      · rw [outN_yes _ _ _ (by omega)] at hR; subst hR
        have HK := Lib.hid hkn; clear hkn
        go_wp2
        go_ret2
        exact ⟨rfl, rfl⟩

set_option maxRecDepth 100000 in
set_option maxHeartbeats 1000000 in
theorem size_3 (s : ByteArray) (w : World) (hl : 3 ≤ s.size) (hs : s.size ≤ 9223372036854775807) (h1 : 224 ≤ (s.get! 0).toNat) (h2 : (s.get! 0).toNat ≤ 239) :
    Calls Tryd.prog 32 #[.string s] w fun e w' => e = .returned (.tuple #[.int .i64 (runN s 3 ((s.get! 0).toNat % 16) 2048).1, .int .i64 (runN s 3 ((s.get! 0).toNat % 16) 2048).2]) ∧ w = w' := by
  have g0 := get!_lt s 0 (by omega)
  have c1 : 224 ≤ (s[0].toNat : Int) := by rw [g0]; omega
  have c2 : (s[0].toNat : Int) ≤ 239 := by rw [g0]; omega
  obtain ⟨r0, hr0⟩ : ∃ r0, (s.get! 0).toNat % 16 = r0 := ⟨_, rfl⟩
  have hr1 : r0 < 16 := by omega
  rw [hr0]
  obtain ⟨R, hR⟩ : ∃ R, runN s 3 r0 2048 = R := ⟨_, rfl⟩
  rw [hR]
  have G0 := Lib.hid g0; clear g0
  have B0 := Lib.hid hr0; clear hr0
  have HR := Lib.hid hR; clear hR
  go_enter Tryd.func32, Tryd.ntmps32
  go_wp2
  go_loop [6, 8, 9] (fun r i _ => ∃ k : Nat, k + 1 ≤ 3 ∧ i = .int .i64 (k + 1 : Nat) ∧ r = .int .i64 (accN s r0 k) ∧ ∀ j, j < k → contN (s.get! (j + 1)).toNat = true) (fun _ i _ => 3 - (RowKit.intOf i).toNat)
  case atStart => exact ⟨0, by omega, rfl, by rw [show accN s r0 0 = r0 from rfl, ← B0.out, ← G0.out]; go_num, fun _ h => by omega⟩
  case round =>
    obtain ⟨k, hk, rfl, rfl, hall⟩ := hrel
    have hacc := accN_bd s r0 16 k hr1 hall
    obtain ⟨A, hA⟩ : ∃ A, accN s r0 k = A := ⟨_, rfl⟩
    have hA2 : A < 2097152 := by
      rw [hA] at hacc
      have h64 := Nat.mul_le_mul_left 16 (Nat.pow_le_pow_right (n := 64) (by omega) (show k ≤ 2 by omega))
      have e64 : 16 * 64 ^ 2 ≤ 2097152 := by decide
      omega
    clear hacc
    by_cases hlt : k + 1 < 3
    · have gk := get!_lt s (k + 1) (by omega)
      have HALL := Lib.hid hall; clear hall
      have hb : (s[k + 1].toNat : Int) < 256 := by rw [gk]; have := get!_lt256 s (k + 1); omega
      by_cases hc : contN (s.get! (k + 1)).toNat = true
      · have hc1 : 128 ≤ (s[k + 1].toNat : Int) := by rw [gk]; simp [contN] at hc; omega
        have hc2 : (s[k + 1].toNat : Int) ≤ 191 := by rw [gk]; simp [contN] at hc; omega
        have HC := Lib.hid hc; clear hc
        have GK := Lib.hid gk; clear gk
        rw [hA]
        have HA := Lib.hid hA; clear hA
        go_wp2
        go_round
        case rel =>
          refine ⟨k + 1, by omega, by go_num, ?_, fun j hj => ?_⟩
          · have e2 : accN s r0 (k + 1) = 64 * A + s[k + 1].toNat - 128 := by rw [← HA.out, GK.out]; rfl
            rw [e2]
            go_num
          · by_cases hjk : j < k
            · exact HALL.out j hjk
            · obtain rfl : j = k := by omega
              exact HC.out
        case measure => simp [RowKit.intOf]; omega
      · have hc' : contN (s.get! (k + 1)).toNat = false := by simpa using hc
        clear hc
        have hR := HR.out
        rw [runN_no s 3 r0 2048 k hlt hc'] at hR
        subst hR
        have HR2 := HR; clear HR
        by_cases h128 : (s[k + 1].toNat : Int) < 128
        · have HC := Lib.hid hc'; clear hc'
          have GK := Lib.hid gk; clear gk
          rw [hA]; clear hA
          go_wp2
          go_ret2
          exact ⟨rfl, rfl⟩
        · have h191 : 191 < (s[k + 1].toNat : Int) := by rw [gk] at h128 ⊢; simp [contN] at hc'; omega
          have HC := Lib.hid hc'; clear hc'
          have GK := Lib.hid gk; clear gk
          rw [hA]; clear hA
          go_wp2
          go_ret2
          exact ⟨rfl, rfl⟩
    · have hkn : k + 1 = 3 := by omega
      have hR := HR.out
      rw [runN_yes s 3 r0 2048 k hkn hall, hA] at hR
      clear hall HR
      rw [hA]; clear hA
      by_cases t1 : A < 2048
      · rw [outN_no _ _ _ (.inl t1)] at hR; subst hR
        have HK := Lib.hid hkn; clear hkn
        go_wp2
        go_ret2
        exact ⟨rfl, rfl⟩
      by_cases t2 : 1114111 < A
      · rw [outN_no _ _ _ (.inr (.inl t2))] at hR; subst hR
        have HK := Lib.hid hkn; clear hkn
        go_wp2
        go_ret2
        exact ⟨rfl, rfl⟩
      by_cases t3 : 55296 ≤ A
      · by_cases t4 : A ≤ 57343
        · rw [outN_no _ _ _ (.inr (.inr ⟨t3, t4⟩))] at hR; subst hR
          have HK := Lib.hid hkn; clear hkn
          go_wp2
          go_ret2
          exact ⟨rfl, rfl⟩
        · rw [outN_yes _ _ _ (by omega)] at hR; subst hR
          have HK := Lib.hid hkn; clear hkn
          go_wp2
          go_ret2
          exact ⟨rfl, rfl⟩
      · rw [outN_yes _ _ _ (by omega)] at hR; subst hR
        have HK := Lib.hid hkn; clear hkn
        go_wp2
        go_ret2
        exact ⟨rfl, rfl⟩

set_option maxRecDepth 100000 in
set_option maxHeartbeats 1000000 in
theorem size_4 (s : ByteArray) (w : World) (hl : 4 ≤ s.size) (hs : s.size ≤ 9223372036854775807) (h1 : 240 ≤ (s.get! 0).toNat) (h2 : (s.get! 0).toNat ≤ 244) :
    Calls Tryd.prog 32 #[.string s] w fun e w' => e = .returned (.tuple #[.int .i64 (runN s 4 ((s.get! 0).toNat % 8) 65536).1, .int .i64 (runN s 4 ((s.get! 0).toNat % 8) 65536).2]) ∧ w = w' := by
  have g0 := get!_lt s 0 (by omega)
  have c1 : 240 ≤ (s[0].toNat : Int) := by rw [g0]; omega
  have c2 : (s[0].toNat : Int) ≤ 244 := by rw [g0]; omega
  obtain ⟨r0, hr0⟩ : ∃ r0, (s.get! 0).toNat % 8 = r0 := ⟨_, rfl⟩
  have hr1 : r0 < 8 := by omega
  rw [hr0]
  obtain ⟨R, hR⟩ : ∃ R, runN s 4 r0 65536 = R := ⟨_, rfl⟩
  rw [hR]
  have G0 := Lib.hid g0; clear g0
  have B0 := Lib.hid hr0; clear hr0
  have HR := Lib.hid hR; clear hR
  go_enter Tryd.func32, Tryd.ntmps32
  go_wp2
  go_loop [6, 8, 9] (fun r i _ => ∃ k : Nat, k + 1 ≤ 4 ∧ i = .int .i64 (k + 1 : Nat) ∧ r = .int .i64 (accN s r0 k) ∧ ∀ j, j < k → contN (s.get! (j + 1)).toNat = true) (fun _ i _ => 4 - (RowKit.intOf i).toNat)
  case atStart => exact ⟨0, by omega, rfl, by rw [show accN s r0 0 = r0 from rfl, ← B0.out, ← G0.out]; go_num, fun _ h => by omega⟩
  case round =>
    obtain ⟨k, hk, rfl, rfl, hall⟩ := hrel
    have hacc := accN_bd s r0 8 k hr1 hall
    obtain ⟨A, hA⟩ : ∃ A, accN s r0 k = A := ⟨_, rfl⟩
    have hA2 : A < 2097152 := by
      rw [hA] at hacc
      have h64 := Nat.mul_le_mul_left 8 (Nat.pow_le_pow_right (n := 64) (by omega) (show k ≤ 3 by omega))
      have e64 : 8 * 64 ^ 3 ≤ 2097152 := by decide
      omega
    clear hacc
    by_cases hlt : k + 1 < 4
    · have gk := get!_lt s (k + 1) (by omega)
      have HALL := Lib.hid hall; clear hall
      have hb : (s[k + 1].toNat : Int) < 256 := by rw [gk]; have := get!_lt256 s (k + 1); omega
      by_cases hc : contN (s.get! (k + 1)).toNat = true
      · have hc1 : 128 ≤ (s[k + 1].toNat : Int) := by rw [gk]; simp [contN] at hc; omega
        have hc2 : (s[k + 1].toNat : Int) ≤ 191 := by rw [gk]; simp [contN] at hc; omega
        have HC := Lib.hid hc; clear hc
        have GK := Lib.hid gk; clear gk
        rw [hA]
        have HA := Lib.hid hA; clear hA
        go_wp2
        go_round
        case rel =>
          refine ⟨k + 1, by omega, by go_num, ?_, fun j hj => ?_⟩
          · have e2 : accN s r0 (k + 1) = 64 * A + s[k + 1].toNat - 128 := by rw [← HA.out, GK.out]; rfl
            rw [e2]
            go_num
          · by_cases hjk : j < k
            · exact HALL.out j hjk
            · obtain rfl : j = k := by omega
              exact HC.out
        case measure => simp [RowKit.intOf]; omega
      · have hc' : contN (s.get! (k + 1)).toNat = false := by simpa using hc
        clear hc
        have hR := HR.out
        rw [runN_no s 4 r0 65536 k hlt hc'] at hR
        subst hR
        have HR2 := HR; clear HR
        by_cases h128 : (s[k + 1].toNat : Int) < 128
        · have HC := Lib.hid hc'; clear hc'
          have GK := Lib.hid gk; clear gk
          rw [hA]; clear hA
          go_wp2
          go_ret2
          exact ⟨rfl, rfl⟩
        · have h191 : 191 < (s[k + 1].toNat : Int) := by rw [gk] at h128 ⊢; simp [contN] at hc'; omega
          have HC := Lib.hid hc'; clear hc'
          have GK := Lib.hid gk; clear gk
          rw [hA]; clear hA
          go_wp2
          go_ret2
          exact ⟨rfl, rfl⟩
    · have hkn : k + 1 = 4 := by omega
      have hR := HR.out
      rw [runN_yes s 4 r0 65536 k hkn hall, hA] at hR
      clear hall HR
      rw [hA]; clear hA
      by_cases t1 : A < 65536
      · rw [outN_no _ _ _ (.inl t1)] at hR; subst hR
        have HK := Lib.hid hkn; clear hkn
        go_wp2
        go_ret2
        exact ⟨rfl, rfl⟩
      by_cases t2 : 1114111 < A
      · rw [outN_no _ _ _ (.inr (.inl t2))] at hR; subst hR
        have HK := Lib.hid hkn; clear hkn
        go_wp2
        go_ret2
        exact ⟨rfl, rfl⟩
      by_cases t3 : 55296 ≤ A
      · by_cases t4 : A ≤ 57343
        · exfalso; omega
        · rw [outN_yes _ _ _ (by omega)] at hR; subst hR
          have HK := Lib.hid hkn; clear hkn
          go_wp2
          go_ret2
          exact ⟨rfl, rfl⟩
      · exfalso; omega
end Go.Proofs.YtaemijgfngdjlaaDoor
