/- The definition of layer 2: Pow (of two), Fits, Is; the law's own answered. -/
import Derived.Test.YtflnackpkcldjaaDoorNatDv
namespace Go.Proofs.YtflnackpkcldjaaDoor
open Go.RowKit Go.Lib

theorem dig4_pow {j : Nat} : (dig D4 (2 ^ j)).length ≤ j + 1 := by
  rw [dig_len_le (by decide)]
  have h1 : 2 ^ j ≤ D4 ^ j := Nat.pow_le_pow_left (by decide) _
  have h2 : D4 ^ j < D4 ^ (j + 1) := Nat.pow_lt_pow_right (by decide) (by omega)
  omega
theorem own_one (w : World) (a : Nat) (t : TypeId) : Own .i64 (w.alloc (.cells #[.int .i64 (a : Nat)] t)) w.heap.size t (.slice (some ⟨w.heap.size, 0, none⟩) 1 1) [a] :=
  World.ownsRow_lit (e := t) (size := 1) w #[.int .i64 (a : Nat)] 1 (Nat.le_refl _) (by decide) rfl
theorem dig4_one : dig D4 (2 ^ 0) = [1] := dig_eq (by decide) ⟨fun x hx => by rw [List.mem_singleton] at hx; subst hx; decide, by simp [Top]⟩ (by simp [vl])
theorem two_room {a b k m : Nat} (hk : k = a * b) (hm : 2 ^ a = m) : 2 ^ k = m ^ b := by subst hk; rw [Nat.pow_mul, hm]
theorem piece_room : D4 ^ 615 ≤ B32 ^ 256 := Nat.le_of_ble_eq_true (by kernel_rfl)

set_option maxRecDepth 100000 in
set_option maxHeartbeats 4000000 in
theorem rpow_any (k : Nat) (w : World) (hk : k ≤ 10000) :
    Calls Tryd.prog 30 #[.int .i64 2, .int .i64 k] w (Makes .i64 3 w (dig D4 (2 ^ k))) := by
  have hO0 := own_one w 1 3
  rw [← dig4_one] at hO0
  have HO0 := Lib.hid hO0
  have hB0 := (Below.refl w.heap.size w).alloc (Nat.le_refl _) (.cells #[.int .i64 (1 : Nat)] 3)
  clear hO0
  go_enter Tryd.func30, Tryd.ntmps30
  go_wp2
  go_loopw [5, 1] (fun v q wr => ∃ j m : Nat, j + m = k ∧ q = .int .i64 m ∧ Own .i64 wr w.heap.size 3 v (dig D4 (2 ^ j)) ∧ Below w.heap.size w wr) (fun _ q _ => (RowKit.intOf q).toNat)
  case atStart => exact ⟨0, k, by omega, rfl, HO0.out, hB0⟩
  case round =>
    clear HO0 hB0
    obtain ⟨j, m, hjm, rfl, hO, hB⟩ := hrel
    obtain ⟨A5, c5, rfl, _⟩ := hO.slice
    by_cases h8 : 8 ≤ m
    · have cT := rtim_any A5 c5 256 (dig D4 (2 ^ j)) wr (lim4d _) (by have := dig4_pow (j := j); omega) (by omega) (by omega) hO.rd
      have hp : 2 ^ j * 256 = 2 ^ (j + 8) := by rw [Nat.pow_add]
      rw [dig_vl (by decide), hp, show ((256 : Nat) : Int) = 256 from rfl] at cT
      have CT := Lib.hid cT
      clear cT hp hO
      go_wp2_with fail
      refine CT.out.mono ?_
      rintro e w1 ⟨v, rfl, hO1, hB1⟩
      have HO1 := Lib.hid (hO1.mono hB.size)
      have hB2 := hB.trans (hB1.mono hB.size)
      clear hO1 hB1 CT
      go_wp2
      go_roundw
      case rel => exact ⟨j + 8, m - 8, by omega, vint (by omega), HO1.out, hB2⟩
      case measure => simp [RowKit.intOf]; omega
    · go_wp2
      obtain ⟨wo, rfl⟩ : ∃ wo : World, wo = wr := ⟨wr, rfl⟩
      go_loopw [5, 1] (fun v q wi => ∃ j m : Nat, j + m = k ∧ q = .int .i64 m ∧ Own .i64 wi w.heap.size 3 v (dig D4 (2 ^ j)) ∧ Below w.heap.size w wi) (fun _ q _ => (RowKit.intOf q).toNat)
      case atStart => exact ⟨j, m, hjm, rfl, hO, hB⟩
      case round =>
        clear hO hB hjm h8
        obtain ⟨j, m, hjm, rfl, hO, hB⟩ := hrel
        obtain ⟨A5, c5, rfl, _⟩ := hO.slice
        by_cases h1 : 0 < m
        · have cT := rtim_any A5 c5 2 (dig D4 (2 ^ j)) wr (lim4d _) (by have := dig4_pow (j := j); omega) (by omega) (by omega) hO.rd
          have hp : 2 ^ j * 2 = 2 ^ (j + 1) := by rw [Nat.pow_succ]
          rw [dig_vl (by decide), hp, show ((2 : Nat) : Int) = 2 from rfl] at cT
          have CT := Lib.hid cT
          clear cT hp hO
          go_wp2_with fail
          refine CT.out.mono ?_
          rintro e w1 ⟨v, rfl, hO1, hB1⟩
          have HO1 := Lib.hid (hO1.mono hB.size)
          have hB2 := hB.trans (hB1.mono hB.size)
          clear hO1 hB1 CT
          go_wp2
          go_roundw
          case rel => exact ⟨j + 1, m - 1, by omega, vint (by omega), HO1.out, hB2⟩
          case measure => simp [RowKit.intOf]; omega
        · obtain rfl : m = 0 := by omega
          obtain rfl : j = k := by omega
          have HO := Lib.hid hO
          clear hO
          go_wp2
          go_ret
          exact ⟨_, rfl, HO.out, hB⟩

theorem rpow_big (w : World) (k : Nat) (hk : k = 8192) : Calls Tryd.prog 30 #[.int .i64 2, .int .i64 k] w (Makes .i64 3 w (dig D4 (B32 ^ 256))) := by
  have h := rpow_any k w (by omega)
  rwa [two_room (a := 32) (b := 256) (m := B32) hk (by decide)] at h
theorem rpow_8192 (w : World) : Calls Tryd.prog 30 #[.int .i64 2, .int .i64 8192] w (Makes .i64 3 w (dig D4 (B32 ^ 256))) := rpow_big w 8192 rfl
theorem big_len (k : Nat) (hk : k = 8192) : (dig D4 (B32 ^ 256)).length ≤ 1000000 := by
  have h := dig4_pow (j := k)
  rw [two_room (a := 32) (b := 256) (m := B32) hk (by decide)] at h
  omega

set_option maxRecDepth 100000 in
set_option maxHeartbeats 1000000 in
theorem rfits_yes (A : Option Addr) (ca n : Nat) (w : World) (hn : n < B32 ^ 256) (hra : Rd .i64 w A (dig D4 n)) :
    Calls Tryd.prog 39 #[.slice A (dig D4 n).length ca] w fun e w' => e = .returned (.bool true) ∧ Below w.heap.size w w' := by
  by_cases hl : (dig D4 n).length < 616
  · clear hn hra
    go_enter Tryd.func39, Tryd.ntmps39
    go_wp2
    go_ret
    exact ⟨rfl, Below.refl _ _⟩
  · have hl2 : (dig D4 n).length ≤ 1000000 := by
      have h1 := dig4_len (lim_dig n)
      rw [dig_vl (by decide)] at h1
      have h2 := len_dig hn
      omega
    have cP := rpow_8192 w
    have hML := big_len 8192 rfl
    obtain ⟨M, hM⟩ : ∃ M, B32 ^ 256 = M := ⟨_, rfl⟩
    rw [hM] at cP hML hn
    have CP := Lib.hid cP
    have cC := fun (A' : Option Addr) (cb : Nat) (W : World) (h1 : Rd .i64 W A (dig D4 n)) (h2 : Rd .i64 W A' (dig D4 M)) => rcmp_any A A' ca cb (dig D4 n) (dig D4 M) W (dig_norm (by decide) n) (dig_norm (by decide) _) hl2 hML h1 h2
    rw [dig_vl (by decide), dig_vl (by decide), cmpZ_lt hn] at cC
    have CC := Lib.hid cC
    clear cC cP hn hl2 hM hML
    go_enter Tryd.func39, Tryd.ntmps39
    go_wp2_with fail
    refine CP.out.mono ?_
    rintro e w1 ⟨v, rfl, hO, hB⟩
    obtain ⟨A1, c1, rfl, _⟩ := hO.slice
    have Q := Lib.hid hO.rd
    clear hO CP
    go_wp2_with fail
    refine (CC.out _ _ _ (hra.below hB) Q.out).mono ?_
    rintro e w2 ⟨rfl, nd, hm⟩
    have hB2 : Below w.heap.size w w2 := by rw [hm]; exact below_drewN' hB nd
    clear hm Q CC
    go_wp2
    go_ret
    exact ⟨rfl, hB2⟩
set_option maxRecDepth 100000 in
set_option maxHeartbeats 1000000 in
theorem rfits_no (A : Option Addr) (ca n : Nat) (w : World) (hn : ¬ n < B32 ^ 256) (hl2 : (dig D4 n).length ≤ 1000000) (hra : Rd .i64 w A (dig D4 n)) :
    Calls Tryd.prog 39 #[.slice A (dig D4 n).length ca] w fun e w' => e = .returned (.bool false) ∧ Below w.heap.size w w' := by
  have hl3 : ¬ (dig D4 n).length < 616 := by
    intro h
    have h1 := (dig_len_le (show 2 ≤ D4 by decide) n 615).1 (by omega)
    exact hn (Nat.lt_of_lt_of_le h1 piece_room)
  have hl : 616 ≤ (dig D4 n).length := by omega
  have cP := rpow_8192 w
  have hML := big_len 8192 rfl
  obtain ⟨M, hM⟩ : ∃ M, B32 ^ 256 = M := ⟨_, rfl⟩
  rw [hM] at cP hML hn
  have CP := Lib.hid cP
  have cC := fun (A' : Option Addr) (cb : Nat) (W : World) (h1 : Rd .i64 W A (dig D4 n)) (h2 : Rd .i64 W A' (dig D4 M)) => rcmp_any A A' ca cb (dig D4 n) (dig D4 M) W (dig_norm (by decide) n) (dig_norm (by decide) _) hl2 hML h1 h2
  rw [dig_vl (by decide), dig_vl (by decide)] at cC
  obtain ⟨c, hc⟩ : ∃ c, cmpZ n M = c := ⟨_, rfl⟩
  have hc0 : 0 ≤ c := by
    rw [← hc, cmpZ, if_neg hn]
    split <;> omega
  rw [hc] at cC
  have CC := Lib.hid cC
  clear cC cP hn hl2 hc hM hML hl3
  go_enter Tryd.func39, Tryd.ntmps39
  go_wp2_with fail
  refine CP.out.mono ?_
  rintro e w1 ⟨v, rfl, hO, hB⟩
  obtain ⟨A1, c1, rfl, _⟩ := hO.slice
  have Q := Lib.hid hO.rd
  clear hO CP
  go_wp2_with fail
  refine (CC.out _ _ _ (hra.below hB) Q.out).mono ?_
  rintro e w2 ⟨rfl, nd, hm⟩
  have hB2 : Below w.heap.size w w2 := by rw [hm]; exact below_drewN' hB nd
  have hd : decide (c < 0) = false := by simp; omega
  clear hm Q CC
  go_wp2
  go_ret
  exact ⟨by first | rfl | rw [hd], hB2⟩

set_option maxRecDepth 100000 in
set_option maxHeartbeats 1000000 in
theorem ris_yes (A A' : Option Addr) (ca cb n : Nat) (w : World) (hn : n < B32 ^ 256) (hra : Rd .u32 w A (dig B32 n)) (hrb : Rd .i64 w A' (dig D4 n)) :
    Calls Tryd.prog 29 #[.slice A (dig B32 n).length ca, .slice A' (dig D4 n).length cb] w fun e w' => e = .returned (.bool true) ∧ Below w.heap.size w w' := by
  have h2 := len_dig hn
  have hl2 : (dig D4 n).length ≤ 1000000 := by
    have h1 := dig4_len (lim_dig n)
    rw [dig_vl (by decide)] at h1
    omega
  have cV := refValid_any A ca (dig B32 n) w (by omega) (lim_dig n) hra
  rw [vld_dig hn] at cV
  have cO := rof_any A ca (dig B32 n) w (lim_dig n) (by omega) hra
  rw [dig_vl (by decide)] at cO
  have cC := fun (A1 : Option Addr) (c1 : Nat) (W : World) (h1 : Rd .i64 W A1 (dig D4 n)) (h2 : Rd .i64 W A' (dig D4 n)) => rcmp_any A1 A' c1 cb (dig D4 n) (dig D4 n) W (dig_norm (by decide) n) (dig_norm (by decide) n) hl2 hl2 h1 h2
  rw [cmpZ_eq rfl] at cC
  have CV := Lib.hid cV
  have CO := Lib.hid cO
  have CC := Lib.hid cC
  clear cV cO cC hn h2 hl2
  go_enter Tryd.func29, Tryd.ntmps29
  go_wp2_with fail
  refine CV.out.mono ?_
  rintro e w' ⟨rfl, rfl⟩
  go_wp2_with fail
  refine CO.out.mono ?_
  rintro e w1 ⟨v, rfl, hO, hB⟩
  obtain ⟨A1, c1, rfl, _⟩ := hO.slice
  have Q := Lib.hid hO.rd
  clear hO CO CV
  go_wp2_with fail
  refine (CC.out _ _ _ Q.out (hrb.below hB)).mono ?_
  rintro e w2 ⟨rfl, nd, hm⟩
  have hB2 : Below w.heap.size w w2 := by rw [hm]; exact below_drewN' hB nd
  clear hm Q CC
  go_wp2
  go_ret
  exact ⟨rfl, hB2⟩

set_option maxRecDepth 100000 in
set_option maxHeartbeats 1000000 in
theorem ans_no (A A' : Option Addr) (c k c' : Nat) (w : World) :
    Calls Tryd.prog 16 #[.slice A 0 c, .int .i64 30, .slice A' k c', .bool false] w fun e w' => e = .returned (.bool true) ∧ w = w' := by
  go_enter Tryd.func16, Tryd.ntmps16
  go_wp2
  go_ret
  exact ⟨rfl, rfl⟩
set_option maxRecDepth 100000 in
set_option maxHeartbeats 1000000 in
theorem ans_fine (A A' : Option Addr) (ca cb n : Nat) (w : World) (hl : (dig D4 n).length ≤ 1000000) (hra : Rd .u32 w A (natRes n).1) (hrb : Rd .i64 w A' (dig D4 n)) :
    Calls Tryd.prog 16 #[.slice A (natRes n).1.length ca, .int .i64 (natRes n).2, .slice A' (dig D4 n).length cb, .bool true] w fun e w' => e = .returned (.bool true) ∧ Below w.heap.size w w' := by
  by_cases hn : n < B32 ^ 256
  · rw [natRes_ok (len_dig hn)] at hra ⊢
    have CF := Lib.hid (rfits_yes A' cb n w hn hrb)
    have CI := Lib.hid (fun (W : World) (h1 : Rd .u32 W A (dig B32 n)) (h2 : Rd .i64 W A' (dig D4 n)) => ris_yes A A' ca cb n W hn h1 h2)
    clear hn hl
    go_enter Tryd.func16, Tryd.ntmps16
    go_wp2_with fail
    refine CF.out.mono ?_
    rintro e w1 ⟨rfl, hB⟩
    go_wp2_with fail
    refine (CI.out _ (hra.below hB) (hrb.below hB)).mono ?_
    rintro e w2 ⟨rfl, hB2⟩
    have hB3 := hB.trans (hB2.mono hB.size)
    clear hB hB2 CF CI
    go_wp2
    go_ret
    exact ⟨rfl, hB3⟩
  · rw [natRes_long (fun h => hn ((dig_len_le (by decide) n 256).1 h))]
    have CF := Lib.hid (rfits_no A' cb n w hn hl hrb)
    clear hn hl
    go_enter Tryd.func16, Tryd.ntmps16
    go_wp2_with fail
    refine CF.out.mono ?_
    rintro e w1 ⟨rfl, hB⟩
    go_wp2
    go_ret
    exact ⟨rfl, hB⟩
end Go.Proofs.YtflnackpkcldjaaDoor
