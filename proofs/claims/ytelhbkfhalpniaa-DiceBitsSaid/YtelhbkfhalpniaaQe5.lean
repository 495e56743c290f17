/- Several texts in one (The definition of layer 14: digits moved; what is refused; The law DiceBits: bits of any two numbers). -/
import Derived.Test.YtelhbkfhalpniaaQe4
namespace Go.Proofs.Ytelhbkfhalpniaa
open Go.RowKit Go.Lib Go.Joins

theorem shl_step (a i : Nat) : a * 2 ^ (i + 1) % 9007199254740992 = 2 * (a * 2 ^ i % 9007199254740992) % 9007199254740992 := by
  rw [Nat.pow_succ, ← Nat.mul_assoc]
  omega
theorem shr_step (a i : Nat) : a / 2 ^ (i + 1) = a / 2 ^ i / 2 := by rw [Nat.pow_succ, ← Nat.div_div_eq_div_mul]
set_option maxRecDepth 100000 in
set_option maxHeartbeats 2000000 in
theorem rbits_4 (x y : Nat) (w : World) (hx : x < 18446744073709551616) (hy : y < 18446744073709551616) (h1 : okW x 4845873199050653695 = true) (h2 : okW y 4845873199050653695 = true) (hq : qW y ≤ 52) :
    Calls Try.prog 22 #[.int .i64 4, .float .f64 x, .float .f64 y] w fun e w' => e = .returned (.tuple #[.float .f64 (fw (qW x * 2 ^ qW y % 9007199254740992)), .int .i64 0]) ∧ Below w.heap.size w w' := by
  have C1 := Lib.hid (fun W => rword_yes x W hx h1)
  have C2 := Lib.hid (fun W => rword_yes y W hy h2)
  have q1 := (okW_le (b := x) (Q := 9007199254740991) (by omega) (by rw [fw_top]; exact h1)).1
  obtain ⟨a, ha⟩ : ∃ a, qW x = a := ⟨_, rfl⟩
  obtain ⟨b, hb⟩ : ∃ b, qW y = b := ⟨_, rfl⟩
  rw [ha] at C1 q1 ⊢
  rw [hb] at C2 hq ⊢
  have hq' : ¬ (52 : Int) < (b : Int) := by omega
  clear ha hb h1 h2
  go_enter Try.func22, Try.ntmps22
  go_wp2_with fail
  refine (C1.out _).mono ?_
  rintro e w1 ⟨rfl, hB1⟩
  go_wp2_with fail
  refine (C2.out _).mono ?_
  rintro e w2 ⟨rfl, hB2⟩
  have hB := hB1.trans (hB2.mono hB1.size)
  have HB := Lib.hid hB
  clear hB1 hB2 hB
  go_wp2_with fail
  go_loop [8, 12] (fun av iv => ∃ i : Nat, i ≤ b ∧ iv = .int .i64 (i : Int) ∧ av = .int .i64 ((a * 2 ^ i % 9007199254740992 : Nat) : Int)) (fun _ iv => b - (RowKit.intOf iv).toNat)
  case atStart =>
    refine ⟨0, by omega, rfl, ?_⟩
    rw [Nat.pow_zero, Nat.mul_one, Nat.mod_eq_of_lt (by omega)]
  case round =>
    obtain ⟨i, hi, rfl, rfl⟩ := hrel
    by_cases hlt : i < b
    · have hst := shl_step a i
      have hv9 : a * 2 ^ i % 9007199254740992 ≤ 9007199254740991 := by have := Nat.mod_lt (a * 2 ^ i) (show 0 < 9007199254740992 by omega); omega
      obtain ⟨v, hv⟩ : ∃ v, a * 2 ^ i % 9007199254740992 = v := ⟨_, rfl⟩
      rw [hv] at hst hv9 ⊢
      have hst := Lib.hid hst
      have w1 : IntKind.i64.wrap (2 * (v : Int)) = 2 * (v : Int) := by rw [IntKind.wrap_i64]; omega
      have m1 : (2 * (v : Int)).tmod 9007199254740992 = ((2 * v % 9007199254740992 : Nat) : Int) := by rw [Int.tmod_eq_emod_of_nonneg (by omega)]; omega
      obtain ⟨u, hu⟩ : ∃ u, 2 * v % 9007199254740992 = u := ⟨_, rfl⟩
      rw [hu] at m1 hst
      clear hv hu hv9
      go_wp2_with fail
      go_round
      case rel => exact ⟨i + 1, by omega, by go_num, by rw [hst.out]⟩
      case measure => simp [RowKit.intOf]; omega
    · have hke : i = b := by omega
      subst hke
      have hz9 : a * 2 ^ i % 9007199254740992 < 9007199254740992 := Nat.mod_lt _ (by omega)
      obtain ⟨v, hv⟩ : ∃ v, a * 2 ^ i % 9007199254740992 = v := ⟨_, rfl⟩
      rw [hv] at hz9 ⊢
      have hf : floatOfInt .f64 (v : Int) = fw v := float_nat hz9
      have HV := Lib.hid hv
      clear hv
      go_wp2_with fail
      go_ret2
      exact ⟨by rw [HV.out]; rfl, HB.out⟩
set_option maxRecDepth 100000 in
set_option maxHeartbeats 2000000 in
theorem rbits_5 (x y : Nat) (w : World) (hx : x < 18446744073709551616) (hy : y < 18446744073709551616) (h1 : okW x 4845873199050653695 = true) (h2 : okW y 4845873199050653695 = true) (hq : qW y ≤ 52) :
    Calls Try.prog 22 #[.int .i64 5, .float .f64 x, .float .f64 y] w fun e w' => e = .returned (.tuple #[.float .f64 (fw (qW x / 2 ^ qW y)), .int .i64 0]) ∧ Below w.heap.size w w' := by
  have C1 := Lib.hid (fun W => rword_yes x W hx h1)
  have C2 := Lib.hid (fun W => rword_yes y W hy h2)
  have q1 := (okW_le (b := x) (Q := 9007199254740991) (by omega) (by rw [fw_top]; exact h1)).1
  obtain ⟨a, ha⟩ : ∃ a, qW x = a := ⟨_, rfl⟩
  obtain ⟨b, hb⟩ : ∃ b, qW y = b := ⟨_, rfl⟩
  rw [ha] at C1 q1 ⊢
  rw [hb] at C2 hq ⊢
  have hq' : ¬ (52 : Int) < (b : Int) := by omega
  clear ha hb h1 h2
  go_enter Try.func22, Try.ntmps22
  go_wp2_with fail
  refine (C1.out _).mono ?_
  rintro e w1 ⟨rfl, hB1⟩
  go_wp2_with fail
  refine (C2.out _).mono ?_
  rintro e w2 ⟨rfl, hB2⟩
  have hB := hB1.trans (hB2.mono hB1.size)
  have HB := Lib.hid hB
  clear hB1 hB2 hB
  go_wp2_with fail
  go_loop [8, 13] (fun av iv => ∃ i : Nat, i ≤ b ∧ iv = .int .i64 (i : Int) ∧ av = .int .i64 ((a / 2 ^ i : Nat) : Int)) (fun _ iv => b - (RowKit.intOf iv).toNat)
  case atStart =>
    refine ⟨0, by omega, rfl, ?_⟩
    rw [Nat.pow_zero, Nat.div_one]
  case round =>
    obtain ⟨i, hi, rfl, rfl⟩ := hrel
    by_cases hlt : i < b
    · have hst := shr_step a i
      have hv9 : a / 2 ^ i ≤ 9007199254740991 := Nat.le_trans (Nat.div_le_self _ _) q1
      obtain ⟨v, hv⟩ : ∃ v, a / 2 ^ i = v := ⟨_, rfl⟩
      rw [hv] at hst hv9 ⊢
      have hst := Lib.hid hst
      have m1 : (v : Int).tdiv 2 = ((v / 2 : Nat) : Int) := by rw [Int.tdiv_eq_ediv_of_nonneg (by omega)]; omega
      have w1 : IntKind.i64.wrap ((v / 2 : Nat) : Int) = ((v / 2 : Nat) : Int) := by rw [IntKind.wrap_i64]; omega
      obtain ⟨u, hu⟩ : ∃ u, v / 2 = u := ⟨_, rfl⟩
      rw [hu] at m1 hst w1
      clear hv hu hv9
      go_wp2_with fail
      go_round
      case rel => exact ⟨i + 1, by omega, by go_num, by rw [hst.out]⟩
      case measure => simp [RowKit.intOf]; omega
    · have hke : i = b := by omega
      subst hke
      have hz9 : a / 2 ^ i < 9007199254740992 := Nat.lt_of_le_of_lt (Nat.div_le_self _ _) (by omega)
      obtain ⟨v, hv⟩ : ∃ v, a / 2 ^ i = v := ⟨_, rfl⟩
      rw [hv] at hz9 ⊢
      have hf : floatOfInt .f64 (v : Int) = fw v := float_nat hz9
      have HV := Lib.hid hv
      clear hv
      go_wp2_with fail
      go_ret2
      exact ⟨by rw [HV.out]; rfl, HB.out⟩
set_option maxRecDepth 100000 in
set_option maxHeartbeats 2000000 in
theorem rbits_no1 (x y : Nat) (w : World) (hx : x < 18446744073709551616) (hy : y < 18446744073709551616) (h : (okW x 4845873199050653695 && okW y 4845873199050653695) = false) :
    Calls Try.prog 22 #[.int .i64 1, .float .f64 x, .float .f64 y] w fun e w' => e = .returned (.tuple #[.float .f64 0, .int .i64 1]) ∧ Below w.heap.size w w' := by
  cases h1 : okW x 4845873199050653695 with
  | false =>
    have C1 := Lib.hid (fun W => rword_no x W hx h1)
    have C2 := Lib.hid (fun W => rword_some y W hy)
    clear h h1
    go_enter Try.func22, Try.ntmps22
    go_wp2_with fail
    refine (C1.out _).mono ?_
    rintro e w1 ⟨rfl, hB1⟩
    go_wp2_with fail
    refine (C2.out _).mono ?_
    rintro e w2 ⟨z, t, rfl, hB2⟩
    have HB := Lib.hid (hB1.trans (hB2.mono hB1.size))
    clear hB1 hB2
    go_wp2_with fail
    go_ret2
    exact ⟨rfl, HB.out⟩
  | true =>
    rw [h1, Bool.true_and] at h
    have C1 := Lib.hid (fun W => rword_yes x W hx h1)
    have C2 := Lib.hid (fun W => rword_no y W hy h)
    clear h h1
    go_enter Try.func22, Try.ntmps22
    go_wp2_with fail
    refine (C1.out _).mono ?_
    rintro e w1 ⟨rfl, hB1⟩
    go_wp2_with fail
    refine (C2.out _).mono ?_
    rintro e w2 ⟨rfl, hB2⟩
    have HB := Lib.hid (hB1.trans (hB2.mono hB1.size))
    clear hB1 hB2
    go_wp2_with fail
    go_ret2
    exact ⟨rfl, HB.out⟩
set_option maxRecDepth 100000 in
set_option maxHeartbeats 2000000 in
theorem rbits_no2 (x y : Nat) (w : World) (hx : x < 18446744073709551616) (hy : y < 18446744073709551616) (h : (okW x 4845873199050653695 && okW y 4845873199050653695) = false) :
    Calls Try.prog 22 #[.int .i64 2, .float .f64 x, .float .f64 y] w fun e w' => e = .returned (.tuple #[.float .f64 0, .int .i64 1]) ∧ Below w.heap.size w w' := by
  cases h1 : okW x 4845873199050653695 with
  | false =>
    have C1 := Lib.hid (fun W => rword_no x W hx h1)
    have C2 := Lib.hid (fun W => rword_some y W hy)
    clear h h1
    go_enter Try.func22, Try.ntmps22
    go_wp2_with fail
    refine (C1.out _).mono ?_
    rintro e w1 ⟨rfl, hB1⟩
    go_wp2_with fail
    refine (C2.out _).mono ?_
    rintro e w2 ⟨z, t, rfl, hB2⟩
    have HB := Lib.hid (hB1.trans (hB2.mono hB1.size))
    clear hB1 hB2
    go_wp2_with fail
    go_ret2
    exact ⟨rfl, HB.out⟩
  | true =>
    rw [h1, Bool.true_and] at h
    have C1 := Lib.hid (fun W => rword_yes x W hx h1)
    have C2 := Lib.hid (fun W => rword_no y W hy h)
    clear h h1
    go_enter Try.func22, Try.ntmps22
    go_wp2_with fail
    refine (C1.out _).mono ?_
    rintro e w1 ⟨rfl, hB1⟩
    go_wp2_with fail
    refine (C2.out _).mono ?_
    rintro e w2 ⟨rfl, hB2⟩
    have HB := Lib.hid (hB1.trans (hB2.mono hB1.size))
    clear hB1 hB2
    go_wp2_with fail
    go_ret2
    exact ⟨rfl, HB.out⟩
set_option maxRecDepth 100000 in
set_option maxHeartbeats 2000000 in
theorem rbits_no3 (x y : Nat) (w : World) (hx : x < 18446744073709551616) (hy : y < 18446744073709551616) (h : (okW x 4845873199050653695 && okW y 4845873199050653695) = false) :
    Calls Try.prog 22 #[.int .i64 3, .float .f64 x, .float .f64 y] w fun e w' => e = .returned (.tuple #[.float .f64 0, .int .i64 1]) ∧ Below w.heap.size w w' := by
  cases h1 : okW x 4845873199050653695 with
  | false =>
    have C1 := Lib.hid (fun W => rword_no x W hx h1)
    have C2 := Lib.hid (fun W => rword_some y W hy)
    clear h h1
    go_enter Try.func22, Try.ntmps22
    go_wp2_with fail
    refine (C1.out _).mono ?_
    rintro e w1 ⟨rfl, hB1⟩
    go_wp2_with fail
    refine (C2.out _).mono ?_
    rintro e w2 ⟨z, t, rfl, hB2⟩
    have HB := Lib.hid (hB1.trans (hB2.mono hB1.size))
    clear hB1 hB2
    go_wp2_with fail
    go_ret2
    exact ⟨rfl, HB.out⟩
  | true =>
    rw [h1, Bool.true_and] at h
    have C1 := Lib.hid (fun W => rword_yes x W hx h1)
    have C2 := Lib.hid (fun W => rword_no y W hy h)
    clear h h1
    go_enter Try.func22, Try.ntmps22
    go_wp2_with fail
    refine (C1.out _).mono ?_
    rintro e w1 ⟨rfl, hB1⟩
    go_wp2_with fail
    refine (C2.out _).mono ?_
    rintro e w2 ⟨rfl, hB2⟩
    have HB := Lib.hid (hB1.trans (hB2.mono hB1.size))
    clear hB1 hB2
    go_wp2_with fail
    go_ret2
    exact ⟨rfl, HB.out⟩
set_option maxRecDepth 100000 in
set_option maxHeartbeats 2000000 in
theorem rbits_no4 (x y : Nat) (w : World) (hx : x < 18446744073709551616) (hy : y < 18446744073709551616) (h : (okW x 4845873199050653695 && okW y 4632515166703976448) = false) :
    Calls Try.prog 22 #[.int .i64 4, .float .f64 x, .float .f64 y] w fun e w' => e = .returned (.tuple #[.float .f64 0, .int .i64 1]) ∧ Below w.heap.size w w' := by
  cases h1 : okW x 4845873199050653695 with
  | false =>
    have C1 := Lib.hid (fun W => rword_no x W hx h1)
    have C2 := Lib.hid (fun W => rword_some y W hy)
    clear h h1
    go_enter Try.func22, Try.ntmps22
    go_wp2_with fail
    refine (C1.out _).mono ?_
    rintro e w1 ⟨rfl, hB1⟩
    go_wp2_with fail
    refine (C2.out _).mono ?_
    rintro e w2 ⟨z, t, rfl, hB2⟩
    have HB := Lib.hid (hB1.trans (hB2.mono hB1.size))
    clear hB1 hB2
    go_wp2_with fail
    go_ret2
    exact ⟨rfl, HB.out⟩
  | true =>
    rw [h1, Bool.true_and] at h
    cases h2 : okW y 4845873199050653695 with
    | false =>
      have C1 := Lib.hid (fun W => rword_yes x W hx h1)
      have C2 := Lib.hid (fun W => rword_no y W hy h2)
      clear h h1 h2
      go_enter Try.func22, Try.ntmps22
      go_wp2_with fail
      refine (C1.out _).mono ?_
      rintro e w1 ⟨rfl, hB1⟩
      go_wp2_with fail
      refine (C2.out _).mono ?_
      rintro e w2 ⟨rfl, hB2⟩
      have HB := Lib.hid (hB1.trans (hB2.mono hB1.size))
      clear hB1 hB2
      go_wp2_with fail
      go_ret2
      exact ⟨rfl, HB.out⟩
    | true =>
      rw [okW_52, h2, Bool.true_and] at h
      have hq := of_decide_eq_false h
      have hq' : (52 : Int) < (qW y : Int) := by omega
      have C1 := Lib.hid (fun W => rword_yes x W hx h1)
      have C2 := Lib.hid (fun W => rword_yes y W hy h2)
      obtain ⟨b, hb⟩ : ∃ b, qW y = b := ⟨_, rfl⟩
      rw [hb] at C2 hq'
      clear h h1 h2 hq hb
      go_enter Try.func22, Try.ntmps22
      go_wp2_with fail
      refine (C1.out _).mono ?_
      rintro e w1 ⟨rfl, hB1⟩
      go_wp2_with fail
      refine (C2.out _).mono ?_
      rintro e w2 ⟨rfl, hB2⟩
      have HB := Lib.hid (hB1.trans (hB2.mono hB1.size))
      clear hB1 hB2
      go_wp2_with fail
      go_ret2
      exact ⟨rfl, HB.out⟩
set_option maxRecDepth 100000 in
set_option maxHeartbeats 2000000 in
theorem rbits_no5 (x y : Nat) (w : World) (hx : x < 18446744073709551616) (hy : y < 18446744073709551616) (h : (okW x 4845873199050653695 && okW y 4632515166703976448) = false) :
    Calls Try.prog 22 #[.int .i64 5, .float .f64 x, .float .f64 y] w fun e w' => e = .returned (.tuple #[.float .f64 0, .int .i64 1]) ∧ Below w.heap.size w w' := by
  cases h1 : okW x 4845873199050653695 with
  | false =>
    have C1 := Lib.hid (fun W => rword_no x W hx h1)
    have C2 := Lib.hid (fun W => rword_some y W hy)
    clear h h1
    go_enter Try.func22, Try.ntmps22
    go_wp2_with fail
    refine (C1.out _).mono ?_
    rintro e w1 ⟨rfl, hB1⟩
    go_wp2_with fail
    refine (C2.out _).mono ?_
    rintro e w2 ⟨z, t, rfl, hB2⟩
    have HB := Lib.hid (hB1.trans (hB2.mono hB1.size))
    clear hB1 hB2
    go_wp2_with fail
    go_ret2
    exact ⟨rfl, HB.out⟩
  | true =>
    rw [h1, Bool.true_and] at h
    cases h2 : okW y 4845873199050653695 with
    | false =>
      have C1 := Lib.hid (fun W => rword_yes x W hx h1)
      have C2 := Lib.hid (fun W => rword_no y W hy h2)
      clear h h1 h2
      go_enter Try.func22, Try.ntmps22
      go_wp2_with fail
      refine (C1.out _).mono ?_
      rintro e w1 ⟨rfl, hB1⟩
      go_wp2_with fail
      refine (C2.out _).mono ?_
      rintro e w2 ⟨rfl, hB2⟩
      have HB := Lib.hid (hB1.trans (hB2.mono hB1.size))
      clear hB1 hB2
      go_wp2_with fail
      go_ret2
      exact ⟨rfl, HB.out⟩
    | true =>
      rw [okW_52, h2, Bool.true_and] at h
      have hq := of_decide_eq_false h
      have hq' : (52 : Int) < (qW y : Int) := by omega
      have C1 := Lib.hid (fun W => rword_yes x W hx h1)
      have C2 := Lib.hid (fun W => rword_yes y W hy h2)
      obtain ⟨b, hb⟩ : ∃ b, qW y = b := ⟨_, rfl⟩
      rw [hb] at C2 hq'
      clear h h1 h2 hq hb
      go_enter Try.func22, Try.ntmps22
      go_wp2_with fail
      refine (C1.out _).mono ?_
      rintro e w1 ⟨rfl, hB1⟩
      go_wp2_with fail
      refine (C2.out _).mono ?_
      rintro e w2 ⟨rfl, hB2⟩
      have HB := Lib.hid (hB1.trans (hB2.mono hB1.size))
      clear hB1 hB2
      go_wp2_with fail
      go_ret2
      exact ⟨rfl, HB.out⟩
set_option maxRecDepth 100000 in
set_option maxHeartbeats 2000000 in
theorem rbits_no6 (x y : Nat) (w : World) (hx : x < 18446744073709551616) (hy : y < 18446744073709551616) (h : okW x 4845873199050653695 = false) :
    Calls Try.prog 22 #[.int .i64 6, .float .f64 x, .float .f64 y] w fun e w' => e = .returned (.tuple #[.float .f64 0, .int .i64 1]) ∧ Below w.heap.size w w' := by
  have C1 := Lib.hid (fun W => rword_no x W hx h)
  have C2 := Lib.hid (fun W => rword_some y W hy)
  go_enter Try.func22, Try.ntmps22
  go_wp2_with fail
  refine (C1.out _).mono ?_
  rintro e w1 ⟨rfl, hB1⟩
  go_wp2_with fail
  refine (C2.out _).mono ?_
  rintro e w2 ⟨z, t, rfl, hB2⟩
  have HB := Lib.hid (hB1.trans (hB2.mono hB1.size))
  clear hB1 hB2
  go_wp2_with fail
  go_ret2
  exact ⟨rfl, HB.out⟩
end Go.Proofs.Ytelhbkfhalpniaa

namespace Go.Proofs.Ytelhbkfhalpniaa
open Go.RowKit Go.Lib Go.Joins

def resV (v : Nat) (e : Int) : Value := .tuple #[.float .f64 v, .int .i64 e]
set_option maxRecDepth 100000 in
set_option maxHeartbeats 4000000 in
theorem diceBits_core (x y : Nat) (w : World) (v0 v1 v2 v3 v4 v5 : Nat) (e0 e1 e2 e3 e4 e5 : Int)
    (c0 : ∀ W, Calls Try.prog 16 #[.float .f64 x, .float .f64 y] W fun e w' => e = .returned (resV v0 e0) ∧ W = w')
    (c1 : ∀ W, Calls Try.prog 17 #[.float .f64 x, .float .f64 y] W fun e w' => e = .returned (resV v1 e1) ∧ W = w')
    (c2 : ∀ W, Calls Try.prog 18 #[.float .f64 x, .float .f64 y] W fun e w' => e = .returned (resV v2 e2) ∧ W = w')
    (c3 : ∀ W, Calls Try.prog 19 #[.float .f64 x, .float .f64 y] W fun e w' => e = .returned (resV v3 e3) ∧ W = w')
    (c4 : ∀ W, Calls Try.prog 20 #[.float .f64 x, .float .f64 y] W fun e w' => e = .returned (resV v4 e4) ∧ W = w')
    (c5 : ∀ W, Calls Try.prog 21 #[.float .f64 x] W fun e w' => e = .returned (resV v5 e5) ∧ W = w')
    (r0 : ∀ W, Calls Try.prog 22 #[.int .i64 1, .float .f64 x, .float .f64 y] W fun e w' => e = .returned (resV v0 e0) ∧ Below W.heap.size W w')
    (r1 : ∀ W, Calls Try.prog 22 #[.int .i64 2, .float .f64 x, .float .f64 y] W fun e w' => e = .returned (resV v1 e1) ∧ Below W.heap.size W w')
    (r2 : ∀ W, Calls Try.prog 22 #[.int .i64 3, .float .f64 x, .float .f64 y] W fun e w' => e = .returned (resV v2 e2) ∧ Below W.heap.size W w')
    (r3 : ∀ W, Calls Try.prog 22 #[.int .i64 4, .float .f64 x, .float .f64 y] W fun e w' => e = .returned (resV v3 e3) ∧ Below W.heap.size W w')
    (r4 : ∀ W, Calls Try.prog 22 #[.int .i64 5, .float .f64 x, .float .f64 y] W fun e w' => e = .returned (resV v4 e4) ∧ Below W.heap.size W w')
    (r5 : ∀ W, Calls Try.prog 22 #[.int .i64 6, .float .f64 x, .float .f64 y] W fun e w' => e = .returned (resV v5 e5) ∧ Below W.heap.size W w') :
    Calls Try.prog 5 #[.int .u64 (x : Int), .int .u64 (y : Int)] w fun e w' => e = .returned (.bool true) ∧ Below w.heap.size w w' := by
  have CX := Lib.hid (dfixed_any w)
  have b1 := fun W => run_f64from x W
  have b2 := fun W => run_f64from y W
  have CE := Lib.hid dsame_any
  unfold resV at *
  have c0 := Lib.hid c0
  have c1 := Lib.hid c1
  have c2 := Lib.hid c2
  have c3 := Lib.hid c3
  have c4 := Lib.hid c4
  have c5 := Lib.hid c5
  have r0 := Lib.hid r0
  have r1 := Lib.hid r1
  have r2 := Lib.hid r2
  have r3 := Lib.hid r3
  have r4 := Lib.hid r4
  have r5 := Lib.hid r5
  go_enter Try.func5, Try.ntmps5
  go_wp2_with fail
  refine CX.out.mono ?_
  rintro e w1 ⟨rfl, hB⟩
  have HB := Lib.hid hB
  clear hB
  go_wp2_with fail
  refine (c0.out _).mono ?_
  rintro e w' ⟨rfl, rfl⟩
  go_wp2_with fail
  refine (c1.out _).mono ?_
  rintro e w' ⟨rfl, rfl⟩
  go_wp2_with fail
  refine (c2.out _).mono ?_
  rintro e w' ⟨rfl, rfl⟩
  go_wp2_with fail
  refine (c3.out _).mono ?_
  rintro e w' ⟨rfl, rfl⟩
  go_wp2_with fail
  refine (c4.out _).mono ?_
  rintro e w' ⟨rfl, rfl⟩
  go_wp2_with fail
  refine (c5.out _).mono ?_
  rintro e w' ⟨rfl, rfl⟩
  clear c0 c1 c2 c3 c4 c5
  have hA1 := heap_alloc_new w1 (.cells #[.float .f64 v0, .float .f64 v1, .float .f64 v2, .float .f64 v3, .float .f64 v4, .float .f64 v5] 26)
  have hs1 : (w1.alloc (.cells #[.float .f64 v0, .float .f64 v1, .float .f64 v2, .float .f64 v3, .float .f64 v4, .float .f64 v5] 26)).heap.size = w1.heap.size + 1 := Array.size_push _
  have hB1 := heap_alloc_new (w1.alloc (.cells #[.float .f64 v0, .float .f64 v1, .float .f64 v2, .float .f64 v3, .float .f64 v4, .float .f64 v5] 26)) (.cells #[.int .i64 e0, .int .i64 e1, .int .i64 e2, .int .i64 e3, .int .i64 e4, .int .i64 e5] 37)
  have hk1 := below_alloc1 w1 (.cells #[.float .f64 v0, .float .f64 v1, .float .f64 v2, .float .f64 v3, .float .f64 v4, .float .f64 v5] 26)
  have hk2 := below_alloc1 (w1.alloc (.cells #[.float .f64 v0, .float .f64 v1, .float .f64 v2, .float .f64 v3, .float .f64 v4, .float .f64 v5] 26)) (.cells #[.int .i64 e0, .int .i64 e1, .int .i64 e2, .int .i64 e3, .int .i64 e4, .int .i64 e5] 37)
  have hA2 := (hk2.block w1.heap.size (by rw [hs1]; omega)).trans hA1
  have hb2 := HB.out.trans ((hk1.trans (hk2.mono (by rw [hs1]; omega))).mono HB.out.size)
  go_wp2_with fail
  obtain ⟨W2, hW2⟩ : ∃ W2, (w1.alloc (.cells #[.float .f64 v0, .float .f64 v1, .float .f64 v2, .float .f64 v3, .float .f64 v4, .float .f64 v5] 26)).alloc (.cells #[.int .i64 e0, .int .i64 e1, .int .i64 e2, .int .i64 e3, .int .i64 e4, .int .i64 e5] 37) = W2 := ⟨_, rfl⟩
  rw [hW2] at hB1 hA2 hb2 ⊢
  rw [hs1] at hB1
  obtain ⟨g, hg⟩ : ∃ g, w1.heap.size = g := ⟨_, rfl⟩
  rw [hg] at hA2 hB1 ⊢
  have HA := Lib.hid hA2
  have HE := Lib.hid hB1
  have HB2 := Lib.hid hb2
  clear hA1 hs1 hB1 hk1 hk2 hA2 hb2 hW2 hg HB
  go_loopw [21, 22, 23] (fun iv _ _ wr => ∃ k : Nat, k ≤ 6 ∧ iv = .int .i64 (k : Int) ∧ Hid (Below W2.heap.size W2 wr)) (fun iv _ _ _ => 6 - (RowKit.intOf iv).toNat)
  case atStart => exact ⟨0, by omega, rfl, Lib.hid (Below.refl _ _)⟩
  case round =>
    obtain ⟨k, hk, rfl, HK⟩ := hrel
    have hlA : g < W2.heap.size := (Array.getElem?_eq_some_iff.1 HA.out).1
    have hlE : g + 1 < W2.heap.size := (Array.getElem?_eq_some_iff.1 HE.out).1
    have zA := (HK.out.block g hlA).trans HA.out
    have zE := (HK.out.block (g + 1) hlE).trans HE.out
    rcases (by omega : k = 0 ∨ k = 1 ∨ k = 2 ∨ k = 3 ∨ k = 4 ∨ k = 5 ∨ k = 6) with rfl | rfl | rfl | rfl | rfl | rfl | rfl
    · go_wp2_with fail
      refine (r0.out _).mono ?_
      rintro e w3 ⟨rfl, hB3⟩
      have hz := HK.out.size
      have qA : w3.cell? ⟨g, 0, none⟩ = some (.float .f64 v0) := cell_of_block ((hB3.block g (by omega)).trans zA) 0
      have qE : w3.cell? ⟨g + 1, 0, none⟩ = some (.int .i64 e0) := cell_of_block ((hB3.block (g + 1) (by omega)).trans zE) 0
      have HK := Lib.hid (HK.out.trans (hB3.mono hz))
      clear hB3 zA zE hlA hlE hz
      go_wp2_with fail
      refine (CE.out _ _).mono ?_
      rintro e w' ⟨rfl, rfl⟩
      go_wp2_with fail
      go_roundw
      case rel => exact ⟨1, by omega, by go_num, HK⟩
      case measure => simp [RowKit.intOf]
    · go_wp2_with fail
      refine (r1.out _).mono ?_
      rintro e w3 ⟨rfl, hB3⟩
      have hz := HK.out.size
      have qA : w3.cell? ⟨g, 1, none⟩ = some (.float .f64 v1) := cell_of_block ((hB3.block g (by omega)).trans zA) 1
      have qE : w3.cell? ⟨g + 1, 1, none⟩ = some (.int .i64 e1) := cell_of_block ((hB3.block (g + 1) (by omega)).trans zE) 1
      have HK := Lib.hid (HK.out.trans (hB3.mono hz))
      clear hB3 zA zE hlA hlE hz
      go_wp2_with fail
      refine (CE.out _ _).mono ?_
      rintro e w' ⟨rfl, rfl⟩
      go_wp2_with fail
      go_roundw
      case rel => exact ⟨2, by omega, by go_num, HK⟩
      case measure => simp [RowKit.intOf]
    · go_wp2_with fail
      refine (r2.out _).mono ?_
      rintro e w3 ⟨rfl, hB3⟩
      have hz := HK.out.size
      have qA : w3.cell? ⟨g, 2, none⟩ = some (.float .f64 v2) := cell_of_block ((hB3.block g (by omega)).trans zA) 2
      have qE : w3.cell? ⟨g + 1, 2, none⟩ = some (.int .i64 e2) := cell_of_block ((hB3.block (g + 1) (by omega)).trans zE) 2
      have HK := Lib.hid (HK.out.trans (hB3.mono hz))
      clear hB3 zA zE hlA hlE hz
      go_wp2_with fail
      refine (CE.out _ _).mono ?_
      rintro e w' ⟨rfl, rfl⟩
      go_wp2_with fail
      go_roundw
      case rel => exact ⟨3, by omega, by go_num, HK⟩
      case measure => simp [RowKit.intOf]
    · go_wp2_with fail
      refine (r3.out _).mono ?_
      rintro e w3 ⟨rfl, hB3⟩
      have hz := HK.out.size
      have qA : w3.cell? ⟨g, 3, none⟩ = some (.float .f64 v3) := cell_of_block ((hB3.block g (by omega)).trans zA) 3
      have qE : w3.cell? ⟨g + 1, 3, none⟩ = some (.int .i64 e3) := cell_of_block ((hB3.block (g + 1) (by omega)).trans zE) 3
      have HK := Lib.hid (HK.out.trans (hB3.mono hz))
      clear hB3 zA zE hlA hlE hz
      go_wp2_with fail
      refine (CE.out _ _).mono ?_
      rintro e w' ⟨rfl, rfl⟩
      go_wp2_with fail
      go_roundw
      case rel => exact ⟨4, by omega, by go_num, HK⟩
      case measure => simp [RowKit.intOf]
    · go_wp2_with fail
      refine (r4.out _).mono ?_
      rintro e w3 ⟨rfl, hB3⟩
      have hz := HK.out.size
      have qA : w3.cell? ⟨g, 4, none⟩ = some (.float .f64 v4) := cell_of_block ((hB3.block g (by omega)).trans zA) 4
      have qE : w3.cell? ⟨g + 1, 4, none⟩ = some (.int .i64 e4) := cell_of_block ((hB3.block (g + 1) (by omega)).trans zE) 4
      have HK := Lib.hid (HK.out.trans (hB3.mono hz))
      clear hB3 zA zE hlA hlE hz
      go_wp2_with fail
      refine (CE.out _ _).mono ?_
      rintro e w' ⟨rfl, rfl⟩
      go_wp2_with fail
      go_roundw
      case rel => exact ⟨5, by omega, by go_num, HK⟩
      case measure => simp [RowKit.intOf]
    · go_wp2_with fail
      refine (r5.out _).mono ?_
      rintro e w3 ⟨rfl, hB3⟩
      have hz := HK.out.size
      have qA : w3.cell? ⟨g, 5, none⟩ = some (.float .f64 v5) := cell_of_block ((hB3.block g (by omega)).trans zA) 5
      have qE : w3.cell? ⟨g + 1, 5, none⟩ = some (.int .i64 e5) := cell_of_block ((hB3.block (g + 1) (by omega)).trans zE) 5
      have HK := Lib.hid (HK.out.trans (hB3.mono hz))
      clear hB3 zA zE hlA hlE hz
      go_wp2_with fail
      refine (CE.out _ _).mono ?_
      rintro e w' ⟨rfl, rfl⟩
      go_wp2_with fail
      go_roundw
      case rel => exact ⟨6, by omega, by go_num, HK⟩
      case measure => simp [RowKit.intOf]
    · clear zA zE
      go_wp2_with fail
      go_ret
      exact ⟨rfl, HB2.out.trans (HK.out.mono HB2.out.size)⟩
/-- Any two numbers. -/
theorem diceBits_nat (x y : Nat) (w : World) (hx : x < 18446744073709551616) (hy : y < 18446744073709551616) : Calls Try.prog 5 #[.int .u64 (x : Int), .int .u64 (y : Int)] w fun e w' => e = .returned (.bool true) ∧ Below w.heap.size w w' := by
  cases h1 : okW x 4845873199050653695 with
  | false =>
    have hh : (okW x 4845873199050653695 && okW y 4845873199050653695) = false := by rw [h1]; rfl
    have h5 : (okW x 4845873199050653695 && okW y 4632515166703976448) = false := by rw [h1]; rfl
    exact diceBits_core x y w 0 0 0 0 0 0 1 1 1 1 1 1 (fun W => and_no x y W hx hy hh) (fun W => or_no x y W hx hy hh) (fun W => xor_no x y W hx hy hh) (fun W => left_no x y W hx hy h5) (fun W => right_no x y W hx hy h5) (fun W => not_no x W hx h1)
      (fun W => rbits_no1 x y W hx hy hh) (fun W => rbits_no2 x y W hx hy hh) (fun W => rbits_no3 x y W hx hy hh) (fun W => rbits_no4 x y W hx hy h5) (fun W => rbits_no5 x y W hx hy h5) (fun W => rbits_no6 x y W hx hy h1)
  | true =>
    cases h2 : okW y 4845873199050653695 with
    | false =>
      have hh : (okW x 4845873199050653695 && okW y 4845873199050653695) = false := by rw [h1, h2]; rfl
      have h5 : (okW x 4845873199050653695 && okW y 4632515166703976448) = false := by rw [okW_52, h1, h2]; rfl
      exact diceBits_core x y w 0 0 0 0 0 _ 1 1 1 1 1 0 (fun W => and_no x y W hx hy hh) (fun W => or_no x y W hx hy hh) (fun W => xor_no x y W hx hy hh) (fun W => left_no x y W hx hy h5) (fun W => right_no x y W hx hy h5) (fun W => not_yes x W hx h1)
        (fun W => rbits_no1 x y W hx hy hh) (fun W => rbits_no2 x y W hx hy hh) (fun W => rbits_no3 x y W hx hy hh) (fun W => rbits_no4 x y W hx hy h5) (fun W => rbits_no5 x y W hx hy h5) (fun W => rbits_6 x y W hx hy h1)
    | true =>
      cases h3 : okW y 4632515166703976448 with
      | false =>
        have h5 : (okW x 4845873199050653695 && okW y 4632515166703976448) = false := by rw [h1, h3]; rfl
        exact diceBits_core x y w _ _ _ 0 0 _ 0 0 0 1 1 0 (fun W => and_yes x y W hx hy h1 h2) (fun W => or_yes x y W hx hy h1 h2) (fun W => xor_yes x y W hx hy h1 h2) (fun W => left_no x y W hx hy h5) (fun W => right_no x y W hx hy h5) (fun W => not_yes x W hx h1)
          (fun W => rbits_1 x y W hx hy h1 h2) (fun W => rbits_2 x y W hx hy h1 h2) (fun W => rbits_3 x y W hx hy h1 h2) (fun W => rbits_no4 x y W hx hy h5) (fun W => rbits_no5 x y W hx hy h5) (fun W => rbits_6 x y W hx hy h1)
      | true =>
        have hq : qW y ≤ 52 := by
          rw [okW_52, h2, Bool.true_and] at h3
          exact of_decide_eq_true h3
        exact diceBits_core x y w _ _ _ _ _ _ 0 0 0 0 0 0 (fun W => and_yes x y W hx hy h1 h2) (fun W => or_yes x y W hx hy h1 h2) (fun W => xor_yes x y W hx hy h1 h2) (fun W => left_yes x y W hx hy h1 h3) (fun W => right_yes x y W hx hy h1 h3) (fun W => not_yes x W hx h1)
          (fun W => rbits_1 x y W hx hy h1 h2) (fun W => rbits_2 x y W hx hy h1 h2) (fun W => rbits_3 x y W hx hy h1 h2) (fun W => rbits_4 x y W hx hy h1 h2 hq) (fun W => rbits_5 x y W hx hy h1 h2 hq) (fun W => rbits_6 x y W hx hy h1)
theorem diceBits_any (a b : Int) (w : World) (ha : 0 ≤ a ∧ a < 18446744073709551616) (hb : 0 ≤ b ∧ b < 18446744073709551616) : Calls Try.prog 5 #[.int .u64 a, .int .u64 b] w fun e w' => e = .returned (.bool true) ∧ Below w.heap.size w w' := by
  obtain ⟨x, rfl⟩ : ∃ x : Nat, a = (x : Int) := ⟨a.toNat, by omega⟩
  obtain ⟨y, rfl⟩ : ∃ y : Nat, b = (y : Int) := ⟨b.toNat, by omega⟩
  exact diceBits_nat x y w (by omega) (by omega)
end Go.Proofs.Ytelhbkfhalpniaa
