/- Several texts in one (Contracts of layer 4: math.Frexp, math.Ldexp; Contracts of layer 4: math.Mod; Contracts of layer 4: whole numbers: wholeBelow, Whole; Contracts of layer 4: what its laws share: whole numbers read, what is left of whole numbers, the fixed examples; The walk of the law NumDivides; Contracts of layer 4: Pow). -/
import Derived.WalkSpells
import Derived.Lib.ItoaNum
import Derived.Lib.AppendIntMem
import Derived.Lib.SmallJoins
import Derived.Test.YtlpobomlnlakcaaGreatDoorPk6
namespace Go.Proofs.YtlpobomlnlakcaaGreatDoor
open Go.RowKit Go.Lib

theorem and_expu : ∀ y : Nat, y < 2048 → bits .and .u64 (y : Int) 2047 = (y : Int) := by decide +kernel
def nrE (r : Nat) : Int := if r < 4503599627370496 then -52 else 0
set_option maxRecDepth 100000 in
set_option maxHeartbeats 1000000 in
theorem normalize_low (r : Nat) (w : World) (h0 : 0 < r) (h1 : r < 4503599627370496) : Calls Tryz.prog 129 #[.float .f64 r] w fun e w' => e = .returned (.tuple #[.float .f64 (nrm r), .int .i64 (-52)]) ∧ w = w' := by
  have CA := Lib.hid (abs_any r w (by omega))
  have hm : mag r = r := Nat.mod_eq_of_lt (by omega)
  rw [hm] at CA
  have ho : (FloatKind.f64.format.order r 4503599627370496 == some .lt) = true := by
    show (Ieee.double.order r 4503599627370496 == some .lt) = true
    rw [order_V (by omega) (by omega), Int.compare_eq_lt.2 (by omega)]
    rfl
  have hx := mul_52 h0 h1
  obtain ⟨X, hX⟩ : ∃ X, nrm r = X := ⟨_, rfl⟩
  rw [hX] at hx ⊢
  have hmul : ∀ t W, (binOp .mul t (.float .f64 r) (.float .f64 4841369599423283200)).run Tryz.prog W = .ok (.float .f64 X) W := fun t W => run_float_arith W .mul t .f64 _ _ _ hx
  clear hm hx hX h0 h1
  go_enter Tryz.func129, Tryz.ntmps129
  go_wp2_with fail
  refine CA.out.mono ?_
  rintro e w' ⟨rfl, rfl⟩
  go_wp2_with fail
  go_ret2
  exact ⟨rfl, rfl⟩
theorem normalize_all (r : Nat) (w : World) (h0 : 0 < r) (h : r < 9218868437227405312) : Calls Tryz.prog 129 #[.float .f64 r] w fun e w' => e = .returned (.tuple #[.float .f64 (nrm r), .int .i64 (nrE r)]) ∧ w = w' := by
  unfold nrE
  by_cases h1 : r < 4503599627370496
  · rw [if_pos h1]
    exact normalize_low r w h0 h1
  · rw [if_neg h1, nrm, if_neg h1]
    exact normalize_any r w (by omega) h
theorem from_half (f : Nat) (W : World) : (callFunc 17 #[.int .u64 (4602678819172646912 + (f : Int))]).run Tryz.prog W = .ok (.value (.float .f64 (4602678819172646912 + f))) W := by
  have h := run_f64from (4602678819172646912 + f) W
  rwa [Int.natCast_add] at h
/-- What normalize gives, in pieces. -/
theorem nrm_parts {r : Nat} (h0 : 0 < r) (h : r < 9218868437227405312) : ∃ y f : Nat, ∃ d : Int, nrm r = y * 4503599627370496 + f ∧ nrE r = d ∧ f < 4503599627370496 ∧ Mt r = 4503599627370496 + f ∧ 1 ≤ y ∧ y ≤ 2046 ∧ -52 ≤ d ∧ d ≤ 0 ∧ d + (y : Int) = (Lg r : Int) - 51 := by
  obtain ⟨y, hX, hy1, hy2, hlo, hhi⟩ := nrm_split h0 h
  obtain ⟨b1, b2⟩ := Mt_bd h0
  refine ⟨y, Mt r - 4503599627370496, nrE r, hX, rfl, by omega, by omega, hy1, hy2, ?_⟩
  unfold nrE
  split
  · rename_i h1
    have := hlo h1
    omega
  · rename_i h1
    have := hhi (by omega)
    omega
set_option maxRecDepth 100000 in
set_option maxHeartbeats 1000000 in
theorem frexp_in (r : Nat) (w : World) (h0 : 0 < r) (h : r < 9218868437227405312) : Calls Tryz.prog 118 #[.float .f64 r] w fun e w' => e = .returned (.tuple #[.float .f64 (frB r), .int .i64 ((Lg r : Int) - 1073)]) ∧ w = w' := by
  have C3 := fun W => normalize_all r W h0 h
  obtain ⟨y, f, d, hX, hd, hf, hM, hy1, hy2, hd1, hd2, hs⟩ := nrm_parts h0 h
  have HF := Lib.hid (show frB r = 4602678819172646912 + f by unfold frB; rw [hM]; omega)
  have HE := Lib.hid (show (Lg r : Int) - 1073 = d + ((y : Int) - 1023 + 1) by omega)
  obtain ⟨X, hXX⟩ : ∃ X, nrm r = X := ⟨_, rfl⟩
  rw [hXX, hd] at C3
  rw [hXX] at hX
  have C1 := fun W => isInf_any r W (by omega)
  have C2 := fun W => isNaN_any r W
  rw [inf_no (by rw [mag_no h]; exact h)] at C1
  rw [nan_no (by rw [mag_no h]; omega)] at C2
  have hz := ord_zero_eq h0 h
  have hbits := fun W => run_f64bits X W
  have han := low_andNot f y hf (by omega)
  rw [← hX] at han
  have had := and_expu y (by omega)
  have hdv : (X : Int) / 4503599627370496 = (y : Int) := by omega
  have hor := or_exp f 1022 hf (by omega)
  rw [show (((1022 : Nat) : Int) * 4503599627370496) = 4602678819172646912 by decide] at hor
  have hfr := fun W => from_half f W
  have CI := Lib.hid C1
  have CN := Lib.hid C2
  have CM := Lib.hid C3
  clear C1 C2 C3 hX hXX hd hM hs h h0 hf
  go_enter Tryz.func118, Tryz.ntmps118
  go_wp2_with fail
  refine (CI.out _).mono ?_
  rintro e w' ⟨rfl, rfl⟩
  go_wp2_with fail
  refine (CN.out _).mono ?_
  rintro e w' ⟨rfl, rfl⟩
  go_wp2_with fail
  refine (CM.out _).mono ?_
  rintro e w' ⟨rfl, rfl⟩
  go_wp2
  go_ret2
  exact ⟨by rw [HE.out, HF.out]; rfl, rfl⟩
set_option maxRecDepth 100000 in
theorem frexp_any (r : Nat) (w : World) (h0 : 0 < r) (h : r < 9218868437227405312) : Calls Tryz.prog 94 #[.float .f64 r] w fun e w' => e = .returned (.tuple #[.float .f64 (frB r), .int .i64 ((Lg r : Int) - 1073)]) ∧ w = w' := by
  have CL := Lib.hid (frexp_in r w h0 h)
  obtain ⟨X, hX⟩ : ∃ X, frB r = X := ⟨_, rfl⟩
  obtain ⟨L, hL⟩ : ∃ L, (Lg r : Int) - 1073 = L := ⟨_, rfl⟩
  rw [hX, hL] at CL ⊢
  clear hX hL h0 h
  go_enter Tryz.func94, Tryz.ntmps94
  go_wp2_with fail
  refine CL.out.mono ?_
  rintro e w' ⟨rfl, rfl⟩
  go_wp2
  go_ret2
  exact ⟨rfl, rfl⟩
set_option maxRecDepth 100000 in
set_option maxHeartbeats 1000000 in
theorem ldexp_in (r k : Nat) (w : World) (h0 : 0 < r) (h : r < 9218868437227405312) (hk : Lg r + k ≤ 2097) : Calls Tryz.prog 107 #[.float .f64 r, .int .i64 (k : Int)] w fun e w' => e = .returned (.float .f64 (ldR r k)) ∧ w = w' := by
  have C3 := fun W => normalize_all r W h0 h
  obtain ⟨y, f, d, hX, hd, hf, hM, hy1, hy2, hd1, hd2, hs⟩ := nrm_parts h0 h
  obtain ⟨X, hXX⟩ : ∃ X, nrm r = X := ⟨_, rfl⟩
  rw [hXX, hd] at C3
  rw [hXX] at hX
  have C1 := fun W => isInf_any r W (by omega)
  have C2 := fun W => isNaN_any r W
  rw [inf_no (by rw [mag_no h]; exact h)] at C1
  rw [nan_no (by rw [mag_no h]; omega)] at C2
  have hz := ord_zero_eq h0 h
  have hbits := fun W => run_f64bits X W
  have han := low_andNot f y hf (by omega)
  rw [← hX] at han
  have had := and_exp y (by omega)
  have hdv : (X : Int) / 4503599627370496 = (y : Int) := by omega
  have hp0 : ¬ (1023 : Int) < (k : Int) + d + ((y : Int) - 1023) := by omega
  have hp1 : ¬ (k : Int) + d + ((y : Int) - 1023) < -1075 := by omega
  have CI := Lib.hid C1
  have CN := Lib.hid C2
  have CM := Lib.hid C3
  by_cases hlow : 52 ≤ Lg r + k
  · obtain ⟨q, hq⟩ : ∃ q, Lg r + k - 51 = q := ⟨_, rfl⟩
    have HE := Lib.hid (show ldR r k = q * 4503599627370496 + f by rw [ldR, if_pos hlow, hq, hM]; omega)
    have hor := or_exp f q hf (by omega)
    have hke : (k : Int) + d + ((y : Int) - 1023) + 1023 = (q : Int) := by omega
    have hfr := fun W => from_sum q f W
    have hmo := mul_one (m := 4503599627370496 + f) (k := q) (by omega) (by omega) (by omega) (by omega)
    rw [Nat.add_sub_cancel_left] at hmo
    have hmul : ∀ t W, (binOp .mul t (.float .f64 4607182418800017408) (.float .f64 (q * 4503599627370496 + f))).run Tryz.prog W = .ok (.float .f64 (q * 4503599627370496 + f)) W := fun t W => run_float_arith W .mul t .f64 _ _ _ hmo
    have hp2 : ¬ (k : Int) + d + ((y : Int) - 1023) < -1022 := by omega
    clear C1 C2 C3 hX hXX hd hM hs h h0 hmo hq hlow hf
    go_enter Tryz.func107, Tryz.ntmps107
    go_wp2_with fail
    refine (CI.out _).mono ?_
    rintro e w' ⟨rfl, rfl⟩
    go_wp2_with fail
    refine (CN.out _).mono ?_
    rintro e w' ⟨rfl, rfl⟩
    go_wp2_with fail
    refine (CM.out _).mono ?_
    rintro e w' ⟨rfl, rfl⟩
    go_wp2_with fail
    go_ret
    exact ⟨by rw [HE.out]; rfl, rfl⟩
  · obtain ⟨q, hq⟩ : ∃ q, Lg r + k + 2 = q := ⟨_, rfl⟩
    obtain ⟨l1, l2, l3⟩ := low_fit (k := k) h0 (by omega)
    have HE := Lib.hid (show ldR r k = r * 2 ^ k by rw [ldR, if_neg hlow])
    have hor := or_exp f q hf (by omega)
    have hke : (k : Int) + d + ((y : Int) - 1023) + 53 + 1023 = (q : Int) := by omega
    have hfr := fun W => from_sum q f W
    have hmo := mul_small (m := r * 2 ^ k) (Nat.mul_pos h0 (Nat.pow_pos (by omega))) l2
    have hlg := log2_mul k h0
    have hMr : Mt r = r * 2 ^ (52 - r.log2) := by rw [Mt, if_pos l1]
    rw [hlg, Nat.mul_assoc, ← Nat.pow_add, show k + (52 - (r.log2 + k)) = 52 - r.log2 by omega, ← hMr, hM, Nat.add_sub_cancel_left, ← l3, hq] at hmo
    obtain ⟨R, hR⟩ : ∃ R, r * 2 ^ k = R := ⟨_, rfl⟩
    rw [hR] at hmo HE
    have hmul : ∀ t W, (binOp .mul t (.float .f64 4368491638549381120) (.float .f64 (q * 4503599627370496 + f))).run Tryz.prog W = .ok (.float .f64 R) W := fun t W => run_float_arith W .mul t .f64 _ _ _ hmo
    have hp2 : (k : Int) + d + ((y : Int) - 1023) < -1022 := by omega
    clear C1 C2 C3 hX hXX hd hM hs h h0 hmo hq hlow hf l1 l2 l3 hlg hMr hR
    go_enter Tryz.func107, Tryz.ntmps107
    go_wp2_with fail
    refine (CI.out _).mono ?_
    rintro e w' ⟨rfl, rfl⟩
    go_wp2_with fail
    refine (CN.out _).mono ?_
    rintro e w' ⟨rfl, rfl⟩
    go_wp2_with fail
    refine (CM.out _).mono ?_
    rintro e w' ⟨rfl, rfl⟩
    go_wp2_with fail
    go_ret
    exact ⟨by rw [HE.out]; rfl, rfl⟩
set_option maxRecDepth 100000 in
theorem ldexp_up (r k : Nat) (w : World) (h0 : 0 < r) (h : r < 9218868437227405312) (hk : Lg r + k ≤ 2097) : Calls Tryz.prog 77 #[.float .f64 r, .int .i64 (k : Int)] w fun e w' => e = .returned (.float .f64 (ldR r k)) ∧ w = w' := by
  have CL := Lib.hid (ldexp_in r k w h0 h hk)
  obtain ⟨X, hX⟩ : ∃ X, ldR r k = X := ⟨_, rfl⟩
  rw [hX] at CL ⊢
  clear hX hk h0 h
  go_enter Tryz.func77, Tryz.ntmps77
  go_wp2_with fail
  refine CL.out.mono ?_
  rintro e w' ⟨rfl, rfl⟩
  go_wp2
  go_ret
  exact ⟨rfl, rfl⟩
end Go.Proofs.YtlpobomlnlakcaaGreatDoor

namespace Go.Proofs.YtlpobomlnlakcaaGreatDoor
open Go.RowKit Go.Lib

theorem xor_top {t : Nat} (h : t < 9223372036854775808) : t ^^^ 9223372036854775808 = 9223372036854775808 + t := by
  have e : (9223372036854775808 : Nat) = 2 ^ 63 := by decide
  apply Nat.eq_of_testBit_eq
  intro i
  rw [Nat.testBit_xor, e, Nat.testBit_two_pow]
  rw [e] at h
  rcases Nat.lt_trichotomy i 63 with h1 | rfl | h1
  · rw [Nat.testBit_two_pow_add_gt h1]
    simp [show ¬ 63 = i by omega]
  · rw [Nat.testBit_two_pow_add_eq, Nat.testBit_lt_two_pow h]
    rfl
  · have h2 : 2 ^ 63 + t < 2 ^ i := Nat.lt_of_lt_of_le (show 2 ^ 63 + t < 2 ^ 64 by omega) (Nat.pow_le_pow_right (by omega) h1)
    rw [Nat.testBit_lt_two_pow h2, Nat.testBit_lt_two_pow (show t < 2 ^ i by omega)]
    simp [show ¬ 63 = i by omega]
theorem neg_pos {t : Nat} (h : t < 9223372036854775808) : Op.negFloat .f64 t = 9223372036854775808 + t := xor_top h
theorem neg_neg' {t : Nat} (h : t < 9223372036854775808) : Op.negFloat .f64 (9223372036854775808 + t) = t := by
  show (9223372036854775808 + t) ^^^ 9223372036854775808 = t
  rw [← xor_top h, Nat.xor_assoc, Nat.xor_self, Nat.xor_zero]
/-- How a float stands to nought. -/
theorem ord0_pos {r : Nat} (h0 : 0 < r) (h : r < 9218868437227405312) : FloatKind.f64.format.order r 0 = some .gt := order_zero h0 h
theorem ord0_neg {r : Nat} (h0 : 0 < r) (h : r < 9218868437227405312) : FloatKind.f64.format.order (9223372036854775808 + r) 0 = some .lt := by
  have hm : mag (9223372036854775808 + r) = r := by unfold mag; omega
  show Ieee.double.order (9223372036854775808 + r) 0 = some .lt
  unfold Ieee.Format.order
  rw [read_fin (by rw [hm]; exact h), hm, show Ieee.double.read 0 = .number false 0 (-1074) by decide, show ((9223372036854775808 + r) / 9223372036854775808 % 2 == 1) = true by rw [beq_iff_eq]; omega]
  have he : -1074 ≤ expF r := (expF_lo r)
  have hp : 0 < manF r := by unfold manF; split <;> omega
  show some (compare _ _) = _
  rw [show min (expF r) (-1074) = -1074 by omega]
  have h1 : Ieee.signed false 0 ((-1074 : Int) - -1074).toNat = 0 := by decide
  have h2 : Ieee.signed true (manF r) (expF r - -1074).toNat < 0 := by
    show -((manF r <<< _ : Nat) : Int) < 0
    rw [Nat.shiftLeft_eq]
    have := Nat.mul_pos hp (Nat.pow_pos (n := (expF r - -1074).toNat) (show 0 < 2 by omega))
    omega
  rw [h1]
  exact congrArg some (Int.compare_eq_lt.2 h2)
theorem V_pos {r : Nat} (h : 0 < r) : 0 < V r := by
  have h1 := V_lt h
  have h2 : V 0 = 0 := by decide
  omega
theorem frB_lt {r s : Nat} (h : Mt r < Mt s) (hr : 0 < r) (hs : 0 < s) : FloatKind.f64.format.order (frB r) (frB s) = some .lt := by
  show Ieee.double.order (frB r) (frB s) = some .lt
  rw [order_V (frB_bd hr) (frB_bd hs)]
  have := Mt_bd hr
  have := Mt_bd hs
  exact congrArg some (Int.compare_eq_lt.2 (by unfold frB; omega))
theorem frB_ge {r s : Nat} (h : ¬ Mt r < Mt s) (hr : 0 < r) (hs : 0 < s) : (FloatKind.f64.format.order (frB r) (frB s) == some .lt) = false := by
  show (Ieee.double.order (frB r) (frB s) == some .lt) = false
  rw [order_V (frB_bd hr) (frB_bd hs)]
  have := Mt_bd hr
  have := Mt_bd hs
  rcases (by omega : Mt s < Mt r ∨ Mt s = Mt r) with h1 | h1
  · rw [Int.compare_eq_gt.2 (by unfold frB; omega)]; rfl
  · rw [Int.compare_eq_eq.2 (by unfold frB; omega)]; rfl
def flOf : Value → Nat | .float _ b => b | _ => 0
theorem Lg_le {r : Nat} (h : r < 9218868437227405312) : Lg r ≤ 2097 := by
  unfold Lg
  split
  · rcases Nat.eq_zero_or_pos r with h0 | h0
    · subst h0; decide
    · have := log2_le52 h0 (by omega); omega
  · omega
/-- One round of the division's loop. -/
structure ModStep (r y K Z t : Nat) : Prop where
  kk : Lg y + K + (if Mt r < Mt y then 1 else 0) = Lg r
  top : Lg y + K ≤ 2097
  z : ldR y K = Z
  sub : floatBits .sub .f64 r Z = some t
  t1 : t < 9218868437227405312
  lt : t < r
  keep : V t % V y = V r % V y
theorem mod_one {r y : Nat} (hy : 0 < y) (h : y ≤ r) (hr : r < 9218868437227405312) : ∃ K Z t, ModStep r y K Z t := by
  obtain ⟨h1, h2, h3, h4⟩ := mod_step hy h
  obtain ⟨t, g1, g2, g3⟩ := sub_exact hr h2 h3 h4
  obtain ⟨g4, g5⟩ := mod_keep hy h g3
  have hl := Lg_le hr
  refine ⟨modK r y, ldR y (modK r y), t, ⟨?_, ?_, rfl, g1, g2, g4, g5⟩⟩
  · unfold modK; omega
  · unfold modK; omega
def ModLoop (v : Nat) (y : Nat) (rv : Value) : Prop := ∃ r, rv = .float .f64 r ∧ r < 9218868437227405312 ∧ V r % V y = v
def ModEnd (w : World) (s v : Nat) (e : Ending) (w' : World) : Prop := ∃ t, e = .returned (.float .f64 (s + t)) ∧ t < 9218868437227405312 ∧ V t = v ∧ w = w'
theorem order_c0 {c : Nat} (h0 : 0 < mag c) (h : mag c ≤ 9218868437227405312) : (FloatKind.f64.format.order c 0 == some .eq) = false := by
  rcases (by omega : mag c < 9218868437227405312 ∨ mag c = 9218868437227405312) with h1 | h1
  · exact order_nz h0 h1
  · show (Ieee.double.order c 0 == some .eq) = false
    unfold Ieee.Format.order
    rw [read_inf h1, show Ieee.double.read 0 = .number false 0 (-1074) by decide]
    show ((some (if (c / 9223372036854775808 % 2 == 1) = true then Ordering.lt else .gt)) == some .eq) = false
    split <;> rfl
theorem order_c0_nan {c : Nat} (h : 9218868437227405312 < mag c) : (FloatKind.f64.format.order c 0 == some .eq) = false := by
  show (Ieee.double.order c 0 == some .eq) = false
  unfold Ieee.Format.order
  rw [read_nan h]
  rfl
theorem order_c0_zero {c : Nat} (h : mag c = 0) : (FloatKind.f64.format.order c 0 == some .eq) = true := zero_read h
theorem ord0_mz : FloatKind.f64.format.order 9223372036854775808 0 = some .eq := by decide
theorem ordmz_pos {y : Nat} (h0 : 0 < y) (h : y ≤ 9218868437227405312) : FloatKind.f64.format.order 9223372036854775808 y = some .lt := by
  show Ieee.double.order 9223372036854775808 y = some .lt
  unfold Ieee.Format.order
  rw [show Ieee.double.read 9223372036854775808 = .number true 0 (-1074) by decide]
  rcases (by omega : y < 9218868437227405312 ∨ y = 9218868437227405312) with h1 | h1
  · rw [read_fin (by rw [mag_no h1]; exact h1), mag_no h1, sign_no h1]
    show some (compare _ _) = _
    have he : -1074 ≤ expF y := (expF_lo y)
    have hp : 0 < manF y := by unfold manF; split <;> omega
    rw [show min (-1074) (expF y) = -1074 by omega]
    have h1 : Ieee.signed true 0 ((-1074 : Int) - -1074).toNat = 0 := by decide
    have h2 : 0 < Ieee.signed false (manF y) (expF y - -1074).toNat := by
      show (0 : Int) < ((manF y <<< _ : Nat) : Int)
      rw [Nat.shiftLeft_eq]
      have := Nat.mul_pos hp (Nat.pow_pos (n := (expF y - -1074).toNat) (show 0 < 2 by omega))
      omega
    rw [h1]
    exact congrArg some (Int.compare_eq_lt.2 h2)
  · subst h1; decide
set_option maxRecDepth 100000 in
set_option maxHeartbeats 1000000 in
theorem frexp_inf (w : World) : Calls Tryz.prog 94 #[.float .f64 9218868437227405312] w fun e w' => e = .returned (.tuple #[.float .f64 9218868437227405312, .int .i64 0]) ∧ w = w' := by
  have C1 := fun W => isInf_any 9218868437227405312 W (by omega)
  rw [inf_yes (by decide)] at C1
  have z1 : (FloatKind.f64.format.order 9218868437227405312 0 == some .eq) = false := by decide
  have CI := Lib.hid C1
  clear C1
  have CL : ∀ W, Calls Tryz.prog 118 #[.float .f64 9218868437227405312] W fun e w' => e = .returned (.tuple #[.float .f64 9218868437227405312, .int .i64 0]) ∧ W = w' := fun W => by
    go_enter Tryz.func118, Tryz.ntmps118
    go_wp2_with fail
    refine (CI.out _).mono ?_
    rintro e w' ⟨rfl, rfl⟩
    go_wp2
    go_ret2
    exact ⟨rfl, rfl⟩
  have CL := Lib.hid CL
  go_enter Tryz.func94, Tryz.ntmps94
  go_wp2_with fail
  refine (CL.out _).mono ?_
  rintro e w' ⟨rfl, rfl⟩
  go_wp2
  go_ret2
  exact ⟨rfl, rfl⟩
theorem frexp_le (y : Nat) (h0 : 0 < y) (h : y ≤ 9218868437227405312) : ∃ F : Nat, ∃ L : Int, (∀ w, Calls Tryz.prog 94 #[.float .f64 y] w fun e w' => e = .returned (.tuple #[.float .f64 F, .int .i64 L]) ∧ w = w') ∧ -1073 ≤ L ∧ L ≤ 1024 ∧ (y < 9218868437227405312 → frB y = F ∧ (Lg y : Int) - 1073 = L) := by
  rcases (by omega : y < 9218868437227405312 ∨ y = 9218868437227405312) with h1 | h1
  · have := Lg_le h1
    exact ⟨_, _, fun w => frexp_any y w h0 h1, by omega, by omega, fun _ => ⟨rfl, rfl⟩⟩
  · subst h1
    exact ⟨_, _, fun w => frexp_inf w, by omega, by omega, fun h => absurd h (by omega)⟩
set_option maxRecDepth 100000 in
set_option maxHeartbeats 4000000 in
theorem mod_pos (a c y : Nat) (w : World) (ha : a < 9218868437227405312) (hc : c < 18446744073709551616) (hy : mag c = y) (hy0 : 0 < y) (hyi : y ≤ 9218868437227405312) :
    Calls Tryz.prog 65 #[.float .f64 a, .float .f64 c] w (ModEnd w 0 (V a % V y)) := by
  have z1 := order_c0 (c := c) (by rw [hy]; exact hy0) (by rw [hy]; exact hyi)
  have hma : mag a = a := by exact mag_no ha
  have hab : a < 18446744073709551616 := by omega
  have hmi := ha
  have C1 := Lib.hid (fun W => isInf_any a W hab)
  have C2 := Lib.hid (fun W => isNaN_any a W)
  have C3 := Lib.hid (fun W => isNaN_any c W)
  rw [inf_no (by rw [hma]; exact hmi)] at C1
  rw [nan_no (by rw [hma]; omega)] at C2
  rw [nan_no (by rw [hy]; exact hyi)] at C3
  have CA := Lib.hid (fun W => abs_any c W hc)
  rw [hy] at CA
  have z2 : (FloatKind.f64.format.order a 0 == some .lt) = false := by
    rcases Nat.eq_zero_or_pos a with h | h
    · subst h; decide
    · exact ord_zero_lt h ha
  obtain ⟨F, L, fy, hL1, hL2, hFL⟩ := frexp_le y hy0 hyi
  have FY := Lib.hid fy
  have HFL := Lib.hid hFL
  obtain ⟨v, hv⟩ : ∃ v, V a % V y = v := ⟨_, rfl⟩
  rw [hv]
  have HV := Lib.hid hv
  clear hy hFL fy hv hma hmi
  go_enter Tryz.func65, Tryz.ntmps65
  go_wp2_with fail
  refine (C1.out _).mono ?_
  rintro e w' ⟨rfl, rfl⟩
  go_wp2_with fail
  refine (C2.out _).mono ?_
  rintro e w' ⟨rfl, rfl⟩
  go_wp2_with fail
  refine (C3.out _).mono ?_
  rintro e w' ⟨rfl, rfl⟩
  go_wp2_with fail
  refine (CA.out _).mono ?_
  rintro e w' ⟨rfl, rfl⟩
  go_wp2_with fail
  refine (FY.out _).mono ?_
  rintro e w' ⟨rfl, rfl⟩
  go_wp2_with fail
  go_loop [7] (ModLoop v y) (fun rv => flOf rv)
  case atStart => exact ⟨a, rfl, ha, HV.out⟩
  case round =>
    obtain ⟨r, rfl, hr, hk⟩ := hrel
    have HK := Lib.hid hk
    clear hk
    by_cases hle : y ≤ r
    · have hyf : y < 9218868437227405312 := by omega
      obtain ⟨hF, hL⟩ := HFL.out hyf
      obtain ⟨K, Z, t, S⟩ := mod_one hy0 hle hr
      have hord : FloatKind.f64.format.order r y = some .gt ∨ FloatKind.f64.format.order r y = some .eq := by
        have ho : FloatKind.f64.format.order r y = some (compare (r : Int) (y : Int)) := order_V hr hyf
        rw [ho]
        rcases (by omega : y < r ∨ y = r) with h1 | h1
        · left; rw [Int.compare_eq_gt.2 (by omega)]
        · right; rw [Int.compare_eq_eq.2 (by omega)]
      have fr := fun W => frexp_any r W (by omega) hr
      obtain ⟨G, hG⟩ : ∃ G, frB r = G := ⟨_, rfl⟩
      obtain ⟨M, hM⟩ : ∃ M, (Lg r : Int) - 1073 = M := ⟨_, rfl⟩
      have hMb : -1073 ≤ M ∧ M ≤ 1024 := by have := Lg_le hr; omega
      obtain ⟨hM1, hM2⟩ := hMb
      rw [hG, hM] at fr
      have FR := Lib.hid fr
      have ld := fun W => ldexp_up y K W hy0 hyf S.top
      rw [S.z] at ld
      have LD := Lib.hid ld
      have hsub : ∀ T W, (binOp .sub T (.float .f64 r) (.float .f64 Z)).run Tryz.prog W = .ok (.float .f64 t) W := fun T W => run_float_arith W .sub T .f64 _ _ _ S.sub
      have HS := Lib.hid S
      have hk := S.kk
      have hrp : 0 < r := by omega
      by_cases hlt : Mt r < Mt y
      · rw [if_pos hlt] at hk
        have hkk : M - 1 - L = (K : Int) := by omega
        have hfl : FloatKind.f64.format.order G F = some .lt := by
          rw [← hG, ← hF]
          exact frB_lt hlt hrp hy0
        clear fr hG hM ld hk hlt S hF hL hyf
        rcases hord with ho | ho
        all_goals
          go_wp2_with fail
          refine (FR.out _).mono ?_
          rintro e w' ⟨rfl, rfl⟩
          go_wp2_with fail
          refine (LD.out _).mono ?_
          rintro e w' ⟨rfl, rfl⟩
          go_wp2_with fail
          go_round
          case rel => exact ⟨t, rfl, HS.out.t1, HS.out.keep.trans HK.out⟩
          case measure => exact HS.out.lt
      · rw [if_neg hlt] at hk
        have hkk : M - L = (K : Int) := by omega
        have hfl : (FloatKind.f64.format.order G F == some .lt) = false := by
          rw [← hG, ← hF]
          exact frB_ge hlt hrp hy0
        clear fr hG hM ld hk hlt S hF hL hyf
        rcases hord with ho | ho
        all_goals
          go_wp2_with fail
          refine (FR.out _).mono ?_
          rintro e w' ⟨rfl, rfl⟩
          go_wp2_with fail
          refine (LD.out _).mono ?_
          rintro e w' ⟨rfl, rfl⟩
          go_wp2_with fail
          go_round
          case rel => exact ⟨t, rfl, HS.out.t1, HS.out.keep.trans HK.out⟩
          case measure => exact HS.out.lt
    · have hord : FloatKind.f64.format.order r y = some .lt := by
        have ho : FloatKind.f64.format.order r y = some (compare (r : Int) (y : Int)) := order_le (by omega) hyi
        rw [ho, Int.compare_eq_lt.2 (by omega)]
      have HE := Lib.hid (show V r = v by have h := HK.out; rwa [Nat.mod_eq_of_lt (V_lt (by omega))] at h)
      go_wp2_with fail
      go_ret
      exact ⟨r, by rw [Nat.zero_add]; rfl, hr, HE.out, rfl⟩
set_option maxRecDepth 100000 in
set_option maxHeartbeats 4000000 in
theorem mod_neg (a r0 c y : Nat) (w : World) (hr0 : 0 < r0) (hr1 : r0 < 9218868437227405312) (hA : a = 9223372036854775808 + r0) (hc : c < 18446744073709551616) (hy : mag c = y) (hy0 : 0 < y) (hyi : y ≤ 9218868437227405312) :
    Calls Tryz.prog 65 #[.float .f64 a, .float .f64 c] w (ModEnd w 9223372036854775808 (V r0 % V y)) := by
  have z1 := order_c0 (c := c) (by rw [hy]; exact hy0) (by rw [hy]; exact hyi)
  have hma : mag a = r0 := by rw [hA]; unfold mag; omega
  have hab : a < 18446744073709551616 := by omega
  have hmi := hr1
  have C1 := Lib.hid (fun W => isInf_any a W hab)
  have C2 := Lib.hid (fun W => isNaN_any a W)
  have C3 := Lib.hid (fun W => isNaN_any c W)
  rw [inf_no (by rw [hma]; exact hmi)] at C1
  rw [nan_no (by rw [hma]; omega)] at C2
  rw [nan_no (by rw [hy]; exact hyi)] at C3
  have CA := Lib.hid (fun W => abs_any c W hc)
  rw [hy] at CA
  have z2 : FloatKind.f64.format.order a 0 = some .lt := by rw [hA]; exact ord0_neg hr0 hr1
  have hng : Op.negFloat .f64 a = r0 := by rw [hA]; exact neg_neg' (by omega)
  obtain ⟨F, L, fy, hL1, hL2, hFL⟩ := frexp_le y hy0 hyi
  have FY := Lib.hid fy
  have HFL := Lib.hid hFL
  obtain ⟨v, hv⟩ : ∃ v, V r0 % V y = v := ⟨_, rfl⟩
  rw [hv]
  have HV := Lib.hid hv
  clear hy hFL fy hv hma hmi
  clear hA hab
  go_enter Tryz.func65, Tryz.ntmps65
  go_wp2_with fail
  refine (C1.out _).mono ?_
  rintro e w' ⟨rfl, rfl⟩
  go_wp2_with fail
  refine (C2.out _).mono ?_
  rintro e w' ⟨rfl, rfl⟩
  go_wp2_with fail
  refine (C3.out _).mono ?_
  rintro e w' ⟨rfl, rfl⟩
  go_wp2_with fail
  refine (CA.out _).mono ?_
  rintro e w' ⟨rfl, rfl⟩
  go_wp2_with fail
  refine (FY.out _).mono ?_
  rintro e w' ⟨rfl, rfl⟩
  go_wp2_with (simp only [run_neg, hng])
  go_loop [7] (ModLoop v y) (fun rv => flOf rv)
  case atStart => exact ⟨r0, rfl, hr1, HV.out⟩
  case round =>
    obtain ⟨r, rfl, hr, hk⟩ := hrel
    have HK := Lib.hid hk
    clear hk
    by_cases hle : y ≤ r
    · have hyf : y < 9218868437227405312 := by omega
      obtain ⟨hF, hL⟩ := HFL.out hyf
      obtain ⟨K, Z, t, S⟩ := mod_one hy0 hle hr
      have hord : FloatKind.f64.format.order r y = some .gt ∨ FloatKind.f64.format.order r y = some .eq := by
        have ho : FloatKind.f64.format.order r y = some (compare (r : Int) (y : Int)) := order_V hr hyf
        rw [ho]
        rcases (by omega : y < r ∨ y = r) with h1 | h1
        · left; rw [Int.compare_eq_gt.2 (by omega)]
        · right; rw [Int.compare_eq_eq.2 (by omega)]
      have fr := fun W => frexp_any r W (by omega) hr
      obtain ⟨G, hG⟩ : ∃ G, frB r = G := ⟨_, rfl⟩
      obtain ⟨M, hM⟩ : ∃ M, (Lg r : Int) - 1073 = M := ⟨_, rfl⟩
      have hMb : -1073 ≤ M ∧ M ≤ 1024 := by have := Lg_le hr; omega
      obtain ⟨hM1, hM2⟩ := hMb
      rw [hG, hM] at fr
      have FR := Lib.hid fr
      have ld := fun W => ldexp_up y K W hy0 hyf S.top
      rw [S.z] at ld
      have LD := Lib.hid ld
      have hsub : ∀ T W, (binOp .sub T (.float .f64 r) (.float .f64 Z)).run Tryz.prog W = .ok (.float .f64 t) W := fun T W => run_float_arith W .sub T .f64 _ _ _ S.sub
      have HS := Lib.hid S
      have hk := S.kk
      have hrp : 0 < r := by omega
      by_cases hlt : Mt r < Mt y
      · rw [if_pos hlt] at hk
        have hkk : M - 1 - L = (K : Int) := by omega
        have hfl : FloatKind.f64.format.order G F = some .lt := by
          rw [← hG, ← hF]
          exact frB_lt hlt hrp hy0
        clear fr hG hM ld hk hlt S hF hL hyf
        rcases hord with ho | ho
        all_goals
          go_wp2_with fail
          refine (FR.out _).mono ?_
          rintro e w' ⟨rfl, rfl⟩
          go_wp2_with fail
          refine (LD.out _).mono ?_
          rintro e w' ⟨rfl, rfl⟩
          go_wp2_with fail
          go_round
          case rel => exact ⟨t, rfl, HS.out.t1, HS.out.keep.trans HK.out⟩
          case measure => exact HS.out.lt
      · rw [if_neg hlt] at hk
        have hkk : M - L = (K : Int) := by omega
        have hfl : (FloatKind.f64.format.order G F == some .lt) = false := by
          rw [← hG, ← hF]
          exact frB_ge hlt hrp hy0
        clear fr hG hM ld hk hlt S hF hL hyf
        rcases hord with ho | ho
        all_goals
          go_wp2_with fail
          refine (FR.out _).mono ?_
          rintro e w' ⟨rfl, rfl⟩
          go_wp2_with fail
          refine (LD.out _).mono ?_
          rintro e w' ⟨rfl, rfl⟩
          go_wp2_with fail
          go_round
          case rel => exact ⟨t, rfl, HS.out.t1, HS.out.keep.trans HK.out⟩
          case measure => exact HS.out.lt
    · have hord : FloatKind.f64.format.order r y = some .lt := by
        have ho : FloatKind.f64.format.order r y = some (compare (r : Int) (y : Int)) := order_le (by omega) hyi
        rw [ho, Int.compare_eq_lt.2 (by omega)]
      have HE := Lib.hid (show V r = v by have h := HK.out; rwa [Nat.mod_eq_of_lt (V_lt (by omega))] at h)
      have hn2 : Op.negFloat .f64 r = 9223372036854775808 + r := neg_pos (by omega)
      go_wp2_with (simp only [run_neg, hn2])
      go_ret
      exact ⟨r, rfl, hr, HE.out, rfl⟩
set_option maxRecDepth 100000 in
set_option maxHeartbeats 4000000 in
theorem mod_nz (a c y : Nat) (w : World) (hA : a = 9223372036854775808) (hc : c < 18446744073709551616) (hy : mag c = y) (hy0 : 0 < y) (hyi : y ≤ 9218868437227405312) :
    Calls Tryz.prog 65 #[.float .f64 a, .float .f64 c] w (ModEnd w 9223372036854775808 (V 0 % V y)) := by
  have z1 := order_c0 (c := c) (by rw [hy]; exact hy0) (by rw [hy]; exact hyi)
  have hma : mag a = 0 := by rw [hA]; decide
  have hab : a < 18446744073709551616 := by omega
  have hmi : 0 < 9218868437227405312 := by omega
  have C1 := Lib.hid (fun W => isInf_any a W hab)
  have C2 := Lib.hid (fun W => isNaN_any a W)
  have C3 := Lib.hid (fun W => isNaN_any c W)
  rw [inf_no (by rw [hma]; exact hmi)] at C1
  rw [nan_no (by rw [hma]; omega)] at C2
  rw [nan_no (by rw [hy]; exact hyi)] at C3
  have CA := Lib.hid (fun W => abs_any c W hc)
  rw [hy] at CA
  have z2 : FloatKind.f64.format.order a 0 = some .eq := by rw [hA]; exact ord0_mz
  have z3 : FloatKind.f64.format.order a y = some .lt := by rw [hA]; exact ordmz_pos hy0 hyi
  obtain ⟨F, L, fy, hL1, hL2, hFL⟩ := frexp_le y hy0 hyi
  have FY := Lib.hid fy
  have HFL := Lib.hid hFL
  obtain ⟨v, hv⟩ : ∃ v, V 0 % V y = v := ⟨_, rfl⟩
  rw [hv]
  have HV := Lib.hid hv
  clear hy hFL fy hv hma hmi
  have HA := Lib.hid hA
  clear hA
  go_enter Tryz.func65, Tryz.ntmps65
  go_wp2_with fail
  refine (C1.out _).mono ?_
  rintro e w' ⟨rfl, rfl⟩
  go_wp2_with fail
  refine (C2.out _).mono ?_
  rintro e w' ⟨rfl, rfl⟩
  go_wp2_with fail
  refine (C3.out _).mono ?_
  rintro e w' ⟨rfl, rfl⟩
  go_wp2_with fail
  refine (CA.out _).mono ?_
  rintro e w' ⟨rfl, rfl⟩
  go_wp2_with fail
  refine (FY.out _).mono ?_
  rintro e w' ⟨rfl, rfl⟩
  go_wp2_with fail
  go_loop [7] (fun rv => rv = .float .f64 a) (fun rv => flOf rv)
  case atStart => exact rfl
  case round =>
    obtain rfl := hrel
    go_wp2_with fail
    go_ret
    exact ⟨0, by rw [HA.out]; rfl, by omega, by rw [← HV.out, Nat.mod_eq_of_lt (V_lt hy0)], rfl⟩
theorem mod_in (a c : Nat) (w : World) (ha : a < 18446744073709551616) (hc : c < 18446744073709551616) (hma : mag a < 9218868437227405312) (h0 : 0 < mag c) (h1 : mag c ≤ 9218868437227405312) :
    Calls Tryz.prog 65 #[.float .f64 a, .float .f64 c] w (ModEnd w (sgn a) (V (mag a) % V (mag c))) := by
  have hs := sgn_mag a ha
  rcases (by unfold sgn; omega : sgn a = 0 ∨ sgn a = 9223372036854775808) with h | h
  · rw [h]
    have e : mag a = a := by omega
    rw [e] at hma ⊢
    exact mod_pos a c _ w hma hc rfl h0 h1
  · rw [h]
    rcases Nat.eq_zero_or_pos (mag a) with hz | hz
    · rw [hz]
      exact mod_nz a c _ w (by omega) hc rfl h0 h1
    · exact mod_neg a (mag a) c _ w hz hma (by omega) hc rfl h0 h1
set_option maxRecDepth 100000 in
theorem nan_call (w : World) : Calls Tryz.prog 93 #[] w fun e w' => e = .returned (.float .f64 9221120237041090561) ∧ w = w' := by
  have h1 : ∀ W : World, (callFunc 17 #[.int .u64 9221120237041090561]).run Tryz.prog W = .ok (.value (.float .f64 9221120237041090561)) W := fun W => run_f64from 9221120237041090561 W
  go_enter Tryz.func93, Tryz.ntmps93
  go_wp2
  go_ret
  exact ⟨rfl, rfl⟩
set_option maxRecDepth 100000 in
set_option maxHeartbeats 4000000 in
theorem mod_no (a c : Nat) (w : World) (ha : a < 18446744073709551616) (h : (FloatKind.f64.format.order c 0 == some .eq) = true ∨ infB a = true ∨ nanB a = true ∨ nanB c = true) :
    Calls Tryz.prog 65 #[.float .f64 a, .float .f64 c] w fun e w' => e = .returned (.float .f64 9221120237041090561) ∧ w = w' := by
  have C1 := fun W => isInf_any a W ha
  have C2 := fun W => isNaN_any a W
  have C3 := fun W => isNaN_any c W
  have CN := Lib.hid (fun W => nan_call W)
  cases e0 : (FloatKind.f64.format.order c 0 == some .eq) with
  | true =>
    clear C1 C2 C3 h
    go_enter Tryz.func65, Tryz.ntmps65
    go_wp2_with fail
    refine (CN.out _).mono ?_
    rintro e w' ⟨rfl, rfl⟩
    go_wp2_with fail
    go_ret
    exact ⟨rfl, rfl⟩
  | false =>
    cases e1 : infB a with
    | true =>
      rw [e1] at C1
      have C1 := Lib.hid C1
      clear C2 C3 h e1
      go_enter Tryz.func65, Tryz.ntmps65
      go_wp2_with fail
      refine (C1.out _).mono ?_
      rintro e w' ⟨rfl, rfl⟩
      go_wp2_with fail
      refine (CN.out _).mono ?_
      rintro e w' ⟨rfl, rfl⟩
      go_wp2_with fail
      go_ret
      exact ⟨rfl, rfl⟩
    | false =>
      cases e2 : nanB a with
      | true =>
        rw [e1] at C1
        rw [e2] at C2
        have C1 := Lib.hid C1
        have C2 := Lib.hid C2
        clear C3 h e1 e2
        go_enter Tryz.func65, Tryz.ntmps65
        go_wp2_with fail
        refine (C1.out _).mono ?_
        rintro e w' ⟨rfl, rfl⟩
        go_wp2_with fail
        refine (C2.out _).mono ?_
        rintro e w' ⟨rfl, rfl⟩
        go_wp2_with fail
        refine (CN.out _).mono ?_
        rintro e w' ⟨rfl, rfl⟩
        go_wp2_with fail
        go_ret
        exact ⟨rfl, rfl⟩
      | false =>
        have e3 : nanB c = true := by
          rcases h with h | h | h | h
          · rw [e0] at h; cases h
          · rw [e1] at h; cases h
          · rw [e2] at h; cases h
          · exact h
        rw [e1] at C1
        rw [e2] at C2
        rw [e3] at C3
        have C1 := Lib.hid C1
        have C2 := Lib.hid C2
        have C3 := Lib.hid C3
        clear h e1 e2 e3
        go_enter Tryz.func65, Tryz.ntmps65
        go_wp2_with fail
        refine (C1.out _).mono ?_
        rintro e w' ⟨rfl, rfl⟩
        go_wp2_with fail
        refine (C2.out _).mono ?_
        rintro e w' ⟨rfl, rfl⟩
        go_wp2_with fail
        refine (C3.out _).mono ?_
        rintro e w' ⟨rfl, rfl⟩
        go_wp2_with fail
        refine (CN.out _).mono ?_
        rintro e w' ⟨rfl, rfl⟩
        go_wp2_with fail
        go_ret
        exact ⟨rfl, rfl⟩
/-- What is left of a division: one of the two answers. -/
def ModRes (a c : Nat) (w : World) (e : Ending) (w' : World) : Prop :=
  ∃ z, e = .returned (.float .f64 z) ∧ w = w' ∧ ((mag a < 9218868437227405312 ∧ 0 < mag c ∧ mag c ≤ 9218868437227405312 ∧ ∃ t, z = sgn a + t ∧ t < 9218868437227405312 ∧ V t = V (mag a) % V (mag c)) ∨
    ((mag c = 0 ∨ 9218868437227405312 ≤ mag a ∨ 9218868437227405312 < mag c) ∧ z = 9221120237041090561))
theorem mod_all (a c : Nat) (w : World) (ha : a < 18446744073709551616) (hc : c < 18446744073709551616) : Calls Tryz.prog 65 #[.float .f64 a, .float .f64 c] w (ModRes a c w) := by
  by_cases h : mag a < 9218868437227405312 ∧ 0 < mag c ∧ mag c ≤ 9218868437227405312
  · refine (mod_in a c w ha hc h.1 h.2.1 h.2.2).mono ?_
    rintro e w' ⟨t, rfl, h1, h2, rfl⟩
    exact ⟨_, rfl, rfl, Or.inl ⟨h.1, h.2.1, h.2.2, t, rfl, h1, h2⟩⟩
  · have hz : mag c = 0 ∨ 9218868437227405312 ≤ mag a ∨ 9218868437227405312 < mag c := by omega
    have hcase : (FloatKind.f64.format.order c 0 == some .eq) = true ∨ infB a = true ∨ nanB a = true ∨ nanB c = true := by
      rcases hz with h1 | h1 | h1
      · exact Or.inl (order_c0_zero h1)
      · rcases (by omega : mag a = 9218868437227405312 ∨ 9218868437227405312 < mag a) with h2 | h2
        · exact Or.inr (Or.inl (inf_yes h2))
        · exact Or.inr (Or.inr (Or.inl (nan_yes h2)))
      · exact Or.inr (Or.inr (Or.inr (nan_yes h1)))
    refine (mod_no a c w ha hcase).mono ?_
    rintro e w' ⟨rfl, rfl⟩
    exact ⟨_, rfl, rfl, Or.inr ⟨hz, rfl⟩⟩
set_option maxRecDepth 100000 in
theorem mathMod_any (a c : Nat) (w : World) (ha : a < 18446744073709551616) (hc : c < 18446744073709551616) : Calls Tryz.prog 42 #[.float .f64 a, .float .f64 c] w (ModRes a c w) := by
  have C := Lib.hid (mod_all a c w ha hc)
  clear ha hc
  go_enter Tryz.func42, Tryz.ntmps42
  go_wp2_with fail
  refine C.out.mono ?_
  rintro e w' ⟨z, rfl, rfl, hz⟩
  have HZ := Lib.hid hz
  clear hz
  go_wp2
  go_ret
  exact ⟨z, rfl, rfl, HZ.out⟩
set_option maxRecDepth 100000 in
theorem numMod_any (a c : Nat) (w : World) (ha : a < 18446744073709551616) (hc : c < 18446744073709551616) : Calls Tryz.prog 24 #[.float .f64 a, .float .f64 c] w (ModRes a c w) := by
  have C := Lib.hid (mathMod_any a c w ha hc)
  clear ha hc
  go_enter Tryz.func24, Tryz.ntmps24
  go_wp2_with fail
  refine C.out.mono ?_
  rintro e w' ⟨z, rfl, rfl, hz⟩
  have HZ := Lib.hid hz
  clear hz
  go_wp2
  go_ret
  exact ⟨z, rfl, rfl, HZ.out⟩
end Go.Proofs.YtlpobomlnlakcaaGreatDoor

namespace Go.Proofs.YtlpobomlnlakcaaGreatDoor
open Go.RowKit Go.Lib

theorem decD (u : Nat) : Lib.decDigits u = decs u := by
  induction u using Nat.strongRecOn with
  | _ u ih =>
    rw [Lib.decDigits]
    by_cases h : u < 10
    · rw [dif_pos h, decs_one h, Nat.mod_eq_of_lt h]; rfl
    · rw [dif_neg h, ih (u / 10) (by omega), decs_step (m := u) (by omega)]; rfl
/-- What stands ahead of a float's point. -/
def whQ (r : Nat) : Nat := amN r / amD r
def isWh (r : Nat) : Bool := decide (amN r % amD r = 0)
theorem whQ_V {r : Nat} (h : isWh r = true) : V r = whQ r * S1074 := by
  have h1 := of_decide_eq_true h
  have h2 := V_am (r := r)
  have h3 : amN r = whQ r * amD r := by
    have := Nat.div_add_mod (amN r) (amD r)
    rw [h1, Nat.add_zero, Nat.mul_comm] at this
    exact this.symm
  rw [h3, Nat.mul_right_comm] at h2
  exact Nat.eq_of_mul_eq_mul_right (amD_pos r) h2
theorem whQ_le (r : Nat) : whQ r * S1074 ≤ V r := by
  refine Nat.le_of_mul_le_mul_right (c := amD r) ?_ (amD_pos r)
  rw [V_am, Nat.mul_right_comm]
  exact Nat.mul_le_mul_right _ (Nat.div_mul_le_self _ _)
theorem trunc_wh {r : Nat} (_h : r < 9218868437227405312) : (truncR r = r) ↔ isWh r = true := by
  unfold truncR
  by_cases he : 0 ≤ expF r
  · rw [if_pos he]
    have : amD r = 1 := by unfold amD; rw [show (-expF r).toNat = 0 by omega, Nat.pow_zero]
    refine ⟨fun _ => ?_, fun _ => rfl⟩
    unfold isWh
    rw [this, Nat.mod_one]
    rfl
  · rw [if_neg he]
    have ha : amN r = manF r := by unfold amN; rw [show (expF r).toNat = 0 by omega, Nat.pow_zero, Nat.mul_one]
    have hq : manF r / 2 ^ (-expF r).toNat = whQ r := by unfold whQ; rw [ha]; rfl
    have hlt : whQ r < 9007199254740992 := by rw [← hq]; exact Nat.lt_of_le_of_lt (Nat.div_le_self _ _) manF_lt
    rw [hq]
    constructor
    · intro h1
      have h2 := fw_V hlt
      rw [h1] at h2
      have h3 := V_am (r := r)
      rw [h2, Nat.mul_right_comm] at h3
      have h4 := Nat.eq_of_mul_eq_mul_right S_pos h3
      unfold isWh
      rw [← h4, Nat.mul_mod_left]
      rfl
    · intro h1
      refine V_inj ?_
      rw [fw_V hlt, whQ_V h1]
theorem cmp_neg (a b : Int) : compare (-a) (-b) = compare b a := by
  rcases Int.lt_trichotomy a b with h | h | h
  · rw [Int.compare_eq_gt.2 (show -b < -a by omega), Int.compare_eq_gt.2 h]
  · subst h
    rw [Int.compare_eq_eq.2 rfl, Int.compare_eq_eq.2 rfl]
  · rw [Int.compare_eq_lt.2 (show -a < -b by omega), Int.compare_eq_lt.2 h]
theorem order_neg {r s : Nat} (hr : r < 9218868437227405312) (hs : s < 9218868437227405312) : Ieee.double.order (9223372036854775808 + r) (9223372036854775808 + s) = some (compare (s : Int) (r : Int)) := by
  have h := order_V hs hr
  have hm : ∀ x, x < 9218868437227405312 → mag (9223372036854775808 + x) = x := fun x h => by unfold mag; omega
  have hg : ∀ x, x < 9218868437227405312 → ((9223372036854775808 + x) / 9223372036854775808 % 2 == 1) = true := fun x h => by rw [beq_iff_eq]; omega
  unfold Ieee.Format.order at h ⊢
  rw [read_fin (b := s) (by rw [mag_no hs]; exact hs), mag_no hs, read_fin (b := r) (by rw [mag_no hr]; exact hr), mag_no hr, sign_no hr, sign_no hs] at h
  rw [read_fin (b := 9223372036854775808 + r) (by rw [hm r hr]; exact hr), hm r hr, read_fin (b := 9223372036854775808 + s) (by rw [hm s hs]; exact hs), hm s hs, hg r hr, hg s hs]
  change some (compare (Ieee.signed false (manF s) (expF s - min (expF s) (expF r)).toNat) (Ieee.signed false (manF r) (expF r - min (expF s) (expF r)).toNat)) = _ at h
  change some (compare (-Ieee.signed false (manF r) (expF r - min (expF r) (expF s)).toNat) (-Ieee.signed false (manF s) (expF s - min (expF r) (expF s)).toNat)) = _
  rw [cmp_neg, ← h, show min (expF r) (expF s) = min (expF s) (expF r) by omega]
/-- Two floats of one sign are equal just if their bits are. -/
theorem order_eq_ss {b t : Nat} (hb : b < 18446744073709551616) (h : mag b < 9218868437227405312) (ht : t < 9218868437227405312) : (FloatKind.f64.format.order (sgn b + t) b == some .eq) = decide (t = mag b) := by
  have hs := sgn_mag b hb
  have key : ∀ x y : Nat, ((some (compare (x : Int) (y : Int))) == some Ordering.eq) = decide (x = y) := fun x y => by
    by_cases e : x = y
    · subst e
      rw [Int.compare_eq_eq.2 rfl, decide_eq_true rfl]; rfl
    · rw [decide_eq_false e]
      rcases (by omega : x < y ∨ y < x) with h1 | h1
      · rw [Int.compare_eq_lt.2 (by omega)]; rfl
      · rw [Int.compare_eq_gt.2 (by omega)]; rfl
  show (Ieee.double.order (sgn b + t) b == some .eq) = _
  obtain ⟨m, hm⟩ : ∃ m, mag b = m := ⟨_, rfl⟩
  have h01 : sgn b = 0 ∨ sgn b = 9223372036854775808 := by unfold sgn; omega
  rw [hm] at h hs ⊢
  rcases h01 with h0 | h0
  · rw [h0, Nat.zero_add] at hs ⊢
    subst hs
    rw [order_V ht h, key]
  · rw [h0] at hs ⊢
    subst hs
    rw [order_neg ht h, key]
    exact decide_eq_decide.2 eq_comm
theorem order_lt_B {r B : Nat} (hr : r < 9218868437227405312) (hB : B < 9218868437227405312) : (FloatKind.f64.format.order r B == some .lt) = decide (r < B) := by
  show (Ieee.double.order r B == some .lt) = _
  rw [order_V hr hB]
  rcases Nat.lt_trichotomy r B with h | h | h
  · rw [Int.compare_eq_lt.2 (by omega), decide_eq_true h]; rfl
  · rw [Int.compare_eq_eq.2 (by omega), decide_eq_false (by omega)]; rfl
  · rw [Int.compare_eq_gt.2 (by omega), decide_eq_false (by omega)]; rfl
theorem order_far {r B : Nat} (hr : 9218868437227405312 ≤ r) (hr2 : r < 9223372036854775808) (hB : B < 9218868437227405312) : (FloatKind.f64.format.order r B == some .lt) = false := by
  have hm : mag r = r := Nat.mod_eq_of_lt hr2
  show (Ieee.double.order r B == some .lt) = false
  unfold Ieee.Format.order
  rw [read_fin (b := B) (by rw [mag_no hB]; exact hB)]
  rcases (by omega : r = 9218868437227405312 ∨ 9218868437227405312 < r) with h1 | h1
  · rw [read_inf (by rw [hm]; exact h1), show (r / 9223372036854775808 % 2 == 1) = false by rw [beq_eq_false_iff_ne]; omega]
    rfl
  · rw [read_nan (by rw [hm]; exact h1)]
    rfl
/-- Is it a whole number, nearer to nought than the bound? -/
def wholeB (b B : Nat) : Bool := decide (mag b < B) && isWh (mag b)
theorem mag_lt (b : Nat) : mag b < 9223372036854775808 := by unfold mag; omega
theorem truncR_lt {r : Nat} (h : r < 9218868437227405312) : truncR r < 9218868437227405312 := by
  unfold truncR
  split
  · exact h
  · have := fw_bd (m := manF r / 2 ^ (-expF r).toNat) (Nat.lt_of_le_of_lt (Nat.div_le_self _ _) manF_lt)
    omega
set_option maxRecDepth 100000 in
set_option maxHeartbeats 1000000 in
theorem wholeBelow_any (b B : Nat) (w : World) (hb : b < 18446744073709551616) (hB : B < 9218868437227405312) :
    Calls Tryz.prog 35 #[.float .f64 b, .float .f64 B] w fun e w' => e = .returned (.bool (wholeB b B)) ∧ w = w' := by
  have CA := Lib.hid (abs_any b w hb)
  have hml := mag_lt b
  unfold wholeB
  by_cases hlt : mag b < B
  · have hf : mag b < 9218868437227405312 := by omega
    have ho : (FloatKind.f64.format.order (mag b) B == some .lt) = true := by rw [order_lt_B hf hB]; exact decide_eq_true hlt
    have CT := fun W => trunc_any b W hb hf
    have he := order_eq_ss hb hf (truncR_lt hf)
    have hw : decide (truncR (mag b) = mag b) = isWh (mag b) := by
      cases h : isWh (mag b) with
      | true => exact decide_eq_true ((trunc_wh hf).2 h)
      | false => exact decide_eq_false fun e => by rw [(trunc_wh hf).1 e] at h; cases h
    rw [hw] at he
    rw [decide_eq_true hlt, Bool.true_and]
    obtain ⟨q, hq⟩ : ∃ q, isWh (mag b) = q := ⟨_, rfl⟩
    rw [hq] at he ⊢
    obtain ⟨T, hT⟩ : ∃ T, sgn b + truncR (mag b) = T := ⟨_, rfl⟩
    rw [hT] at CT he
    obtain ⟨M, hM⟩ : ∃ M, mag b = M := ⟨_, rfl⟩
    rw [hM] at CA ho
    have CT := Lib.hid CT
    clear hw hq hT hM hlt hf hml
    go_enter Tryz.func35, Tryz.ntmps35
    go_wp2_with fail
    refine CA.out.mono ?_
    rintro e w' ⟨rfl, rfl⟩
    go_wp2_with fail
    refine (CT.out _).mono ?_
    rintro e w' ⟨rfl, rfl⟩
    cases q
    · go_wp2_with fail
      go_ret
      exact ⟨rfl, rfl⟩
    · go_wp2_with fail
      go_ret
      exact ⟨rfl, rfl⟩
  · have ho : (FloatKind.f64.format.order (mag b) B == some .lt) = false := by
      rcases Nat.lt_or_ge (mag b) 9218868437227405312 with h | h
      · rw [order_lt_B h hB]; exact decide_eq_false hlt
      · exact order_far h hml hB
    rw [decide_eq_false hlt, Bool.false_and]
    obtain ⟨M, hM⟩ : ∃ M, mag b = M := ⟨_, rfl⟩
    rw [hM] at CA ho
    clear hlt hM hml
    go_enter Tryz.func35, Tryz.ntmps35
    go_wp2_with fail
    refine CA.out.mono ?_
    rintro e w' ⟨rfl, rfl⟩
    go_wp2_with fail
    go_ret
    exact ⟨rfl, rfl⟩
/-- The whole number that a float is. -/
def whZ (b : Nat) : Int := if sgn b = 0 then (whQ (mag b) : Int) else -(whQ (mag b) : Int)
theorem toInt_wh {b : Nat} (h : mag b < 9218868437227405312) : (FloatKind.f64.decode b).toInt .zero = some (whZ b) := by
  show (Ieee.double.read b).toInt .zero = _
  rw [read_fin h]
  show some (Ieee.signed (b / 9223372036854775808 % 2 == 1) (Ieee.Toward.zero.cut (b / 9223372036854775808 % 2 == 1) (manF (mag b) <<< (expF (mag b)).toNat) (-expF (mag b)).toNat) 0) = _
  rw [cut_zero, Nat.shiftLeft_eq]
  show some (Ieee.signed _ (whQ (mag b)) 0) = _
  unfold whZ sgn Ieee.signed
  rcases (by omega : b / 9223372036854775808 % 2 = 0 ∨ b / 9223372036854775808 % 2 = 1) with e | e
  · rw [e]
    simp
  · rw [e]
    simp
theorem e16_V : V 4846369599423283200 = 10000000000000000 * S1074 := by decide +kernel
theorem e53_V : V 4845873199050653696 = 9007199254740992 * S1074 := by decide +kernel
theorem whQ_lt {r B Q : Nat} (h : r < B) (hB : V B = Q * S1074) : whQ r < Q := by
  have h1 := V_lt h
  rw [hB] at h1
  exact Nat.lt_of_mul_lt_mul_right (Nat.lt_of_le_of_lt (whQ_le r) h1)
theorem whZ_bd {b : Nat} (Q : Nat) (h : whQ (mag b) < Q) : -(Q : Int) < whZ b ∧ whZ b < (Q : Int) := by
  unfold whZ
  split <;> omega
theorem int_of_wh {b : Nat} (h : mag b < 9218868437227405312) (hq : whQ (mag b) < 9223372036854775807) : floatToIntVal .f64 b .i64 = some (whZ b) := by
  have := whZ_bd _ hq
  unfold floatToIntVal
  rw [toInt_wh h]
  show (if IntKind.i64.min ≤ whZ b ∧ whZ b ≤ IntKind.i64.max then some (whZ b) else none) = _
  rw [if_pos]
  show -9223372036854775808 ≤ whZ b ∧ whZ b ≤ 9223372036854775807
  omega
abbrev PowTab (w : World) : Prop := Lib.TabIs Tryz.prog w "internal/strconv.uint64pow10" .u64 Lib.pow10Tab
/-- What Whole answers. -/
def wholeT (b : Nat) : List UInt8 := Lib.itoa (whZ b)
set_option maxRecDepth 100000 in
set_option maxHeartbeats 1000000 in
theorem whole_yes (b : Nat) (w : World) (hb : b < 18446744073709551616) (h : wholeB b 4846369599423283200 = true) (hT : PowTab w) :
    Calls Tryz.prog 18 #[.float .f64 b] w fun e w' => e = .returned (.tuple #[.string ⟨(wholeT b).toArray⟩, .bool true]) ∧ Below w.heap.size w w' := by
  have C1 := wholeBelow_any b 4846369599423283200 w hb (by omega)
  rw [h] at C1
  have hlt : mag b < 4846369599423283200 := by
    unfold wholeB at h
    exact of_decide_eq_true (Bool.and_eq_true_iff.1 h).1
  have hq := whQ_lt hlt e16_V
  have hi := int_of_wh (b := b) (by omega) (by omega)
  have hz := whZ_bd _ hq
  unfold wholeT
  obtain ⟨n, hn⟩ : ∃ n, whZ b = n := ⟨_, rfl⟩
  rw [hn] at hi hz ⊢
  obtain ⟨hz1, hz2⟩ := hz
  have hc : ∀ W, (convert 23 2 (.float .f64 b)).run Tryz.prog W = .ok (.int .i64 n) W := fun W => run_convert_float_int W 23 2 .f64 .i64 _ _ (by rw [Tryz.underlying23]; rfl) Tryz.underlying2 hi
  have C2 := fun W h => Tryz.strconv_FormatInt_10 n (by omega) (by omega) W h
  have C1 := Lib.hid C1
  have C2 := Lib.hid C2
  have HT := Lib.hid hT
  clear h hlt hq hi hn hz1 hz2 hT
  go_enter Tryz.func18, Tryz.ntmps18
  go_wp2_with fail
  refine C1.out.mono ?_
  rintro e w' ⟨rfl, rfl⟩
  go_wp2_with fail
  refine (C2.out _ HT.out).mono ?_
  rintro e W2 ⟨rfl, k, os, hw⟩
  have hB : Below w.heap.size w W2 := by rw [hw]; exact Lib.below_grow w.heap.size w (Nat.le_refl _) k os
  clear hw
  go_wp2_with fail
  go_ret2
  exact ⟨rfl, hB⟩
set_option maxRecDepth 100000 in
set_option maxHeartbeats 1000000 in
theorem whole_no (b : Nat) (w : World) (hb : b < 18446744073709551616) (h : wholeB b 4846369599423283200 = false) :
    Calls Tryz.prog 18 #[.float .f64 b] w fun e w' => e = .returned (.tuple #[.string ⟨#[]⟩, .bool false]) ∧ w = w' := by
  have C1 := wholeBelow_any b 4846369599423283200 w hb (by omega)
  rw [h] at C1
  have C1 := Lib.hid C1
  clear h
  go_enter Tryz.func18, Tryz.ntmps18
  go_wp2_with fail
  refine C1.out.mono ?_
  rintro e w' ⟨rfl, rfl⟩
  go_wp2_with fail
  go_ret2
  exact ⟨rfl, rfl⟩
end Go.Proofs.YtlpobomlnlakcaaGreatDoor

namespace Go.Proofs.YtlpobomlnlakcaaGreatDoor
open Go.RowKit Go.Lib

theorem prefix_V (s : ByteArray) (w : World) (hs : s.size ≤ 4194304) (b : Bool) (X1 X2 : List UInt8) (xe z : Int) (hX : sigL s.data.toList = (b, X1, X2, xe, z)) (hy : xe = (X2.length : Int)) (r0 : Nat) (hr0 : r0 < 9218868437227405312) (hV : V r0 = pv (X1 ++ X2) * S1074) :
    Calls Tryz.prog 10 #[.string s] w fun e w' => e = .returned (.tuple #[.float .f64 (turned b r0), .int .i64 z]) ∧ Below w.heap.size w w' := by
  refine (prefix_any s w hs b X1 X2 xe z hX).mono ?_
  rintro e w' ⟨r, rfl, hr, hB⟩
  have h := hr.out
  rw [show xe - (X2.length : Int) = 0 by omega] at h
  have h' : Near (2 * (pv (X1 ++ X2) * 1) * S1074) 1 r := h
  rw [Nat.mul_one, Nat.mul_assoc, ← hV] at h'
  have e1 := h'.uniq (by omega) (by omega) rfl (Near.self hr0)
  rw [e1]
  exact ⟨rfl, hB⟩
/-- What is left of a division of whole numbers. -/
theorem mod_fw {m n t : Nat} (hm : m < 9007199254740992) (hn : n < 9007199254740992) (hn0 : 0 < n) (h : V t = V (fw m) % V (fw n)) : t = fw (m % n) := by
  refine V_inj ?_
  have h1 : m % n < n := Nat.mod_lt _ hn0
  rw [h, fw_V hm, fw_V hn, fw_V (by omega), Nat.mul_mod_mul_right]
theorem numMod_nat (m n : Nat) (sa sc : Nat) (w : World) (hm : m < 9007199254740992) (hn : n < 9007199254740992) (hn0 : 0 < n) (ha : sa = 0 ∨ sa = 9223372036854775808) (hc : sc = 0 ∨ sc = 9223372036854775808) :
    Calls Tryz.prog 24 #[.float .f64 (sa + fw m), .float .f64 (sc + fw n)] w fun e w' => e = .returned (.float .f64 (sa + fw (m % n))) ∧ w = w' := by
  have b1 := fw_bd hm
  have b2 := fw_bd hn
  have m1 : mag (sa + fw m) = fw m := by unfold mag; omega
  have m2 : mag (sc + fw n) = fw n := by unfold mag; omega
  have p2 : 0 < fw n := by
    rcases Nat.eq_zero_or_pos (fw n) with h | h
    · have := fw_V hn
      rw [h] at this
      have h0 : V 0 = 0 := by decide
      rw [h0] at this
      have := Nat.mul_pos hn0 S_pos
      omega
    · exact h
  refine (numMod_any (sa + fw m) (sc + fw n) w (by omega) (by omega)).mono ?_
  rintro e w' ⟨z, rfl, rfl, h⟩
  rw [m1, m2] at h
  rcases h with ⟨-, -, -, t, hz, ht, hV⟩ | ⟨h, -⟩
  · have hs : sgn (sa + fw m) = sa := by unfold sgn; omega
    rw [hs, mod_fw hm hn hn0 hV] at hz
    rw [hz]
    exact ⟨rfl, rfl⟩
  · exact absurd h (by omega)
theorem f125 : fw 125 = 4638496509959077888 := by decide +kernel
theorem f31 : fw 31 = 4629418941960159232 := by decide +kernel
theorem f7 : fw 7 = 4619567317775286272 := by decide +kernel
theorem f3 : fw 3 = 4613937818241073152 := by decide +kernel
theorem f1 : fw 1 = 4607182418800017408 := by decide +kernel
theorem neg125 : turned true 4638496509959077888 = 13861868546813853696 := by decide +kernel
theorem ex_sig : (sigL [32, 32, 45, 49, 50, 46, 53, 101, 49, 107, 103] == (true, [49, 50], [53], 1, 9)) = true := by decide +kernel
theorem ex_pv : (pv [49, 50, 53] == 125) = true := by decide +kernel
theorem ex_hex : (hexP [48, 120, 49, 70, 103] == [49, 70]) = true := by decide +kernel
theorem ex_hvl : (hvl [49, 70] == 31) = true := by decide +kernel
theorem ex_wb : wholeB 14054727237768577024 4846369599423283200 = true := by decide +kernel
theorem ex_wz : (whZ 14054727237768577024 == -1000000000000000) = true := by decide +kernel
theorem ex_dec : decs 1000000000000000 = [49, 48, 48, 48, 48, 48, 48, 48, 48, 48, 48, 48, 48, 48, 48, 48] := by
  have h := decs_zeros (n := 1) (by omega) 15
  have e : (1 : Nat) * 10 ^ 15 = 1000000000000000 := by decide
  rw [e, decs_one (m := 1) (by omega)] at h
  rw [h]
  rfl
theorem ex_wt : wholeT 14054727237768577024 = [45, 49, 48, 48, 48, 48, 48, 48, 48, 48, 48, 48, 48, 48, 48, 48, 48] := by
  unfold wholeT
  rw [eq_of_beq ex_wz, Lib.itoa, if_pos (by omega), show Int.natAbs (-1000000000000000) = 1000000000000000 by omega, decD, ex_dec]
theorem ex_l1 : looksL [32, 51, 32] = true := by decide +kernel
theorem ex_l2 : looksL [51, 120] = false := by decide +kernel
set_option maxRecDepth 100000 in
set_option maxHeartbeats 2000000 in
theorem nfixed_any (w : World) (hT : PowTab w) : Calls Tryz.prog 9 #[] w fun e w' => e = .returned (.bool true) ∧ Below w.heap.size w w' := by
  have c1 := fun W => prefix_V ⟨#[32, 32, 45, 49, 50, 46, 53, 101, 49, 107, 103]⟩ W (by decide) true [49, 50] [53] 1 9 (eq_of_beq ex_sig) rfl (fw 125) (by rw [f125]; omega) (by rw [fw_V (by omega)]; exact congrArg (· * S1074) (eq_of_beq ex_pv).symm)
  rw [f125, neg125] at c1
  have c2 : ∀ W, Calls Tryz.prog 12 #[.string ⟨#[48, 120, 49, 70, 103]⟩] W fun e w' => e = .returned (.tuple #[.float .f64 4629418941960159232, .int .i64 4]) ∧ W = w' := fun W => by
    have h := literal_hex ⟨#[48, 120, 49, 70, 103]⟩ W (by decide) (by rw [eq_of_beq ex_hex]; decide)
    unfold HexEnd hexF hexS at h
    change Calls _ _ _ _ fun e w' => e = .returned (.tuple #[.float .f64 (if hexP [48, 120, 49, 70, 103] = [] then 0 else fw (hvl (hexP [48, 120, 49, 70, 103]))), .int .i64 ((if hexP [48, 120, 49, 70, 103] = [] then 0 else 2 + (hexP [48, 120, 49, 70, 103]).length : Nat) : Int)]) ∧ W = w' at h
    rw [eq_of_beq ex_hex, eq_of_beq ex_hvl, if_neg (by decide), if_neg (by decide), f31] at h
    exact h
  have c3 : ∀ W, PowTab W → Calls Tryz.prog 18 #[.float .f64 14054727237768577024] W fun e w' => e = .returned (.tuple #[.string ⟨#[45, 49, 48, 48, 48, 48, 48, 48, 48, 48, 48, 48, 48, 48, 48, 48, 48]⟩, .bool true]) ∧ Below W.heap.size W w' := fun W hW => by
    have h := whole_yes 14054727237768577024 W (by omega) ex_wb hW
    rw [ex_wt] at h
    exact h
  have c4 : ∀ W, Calls Tryz.prog 24 #[.float .f64 13842939354630062080, .float .f64 4613937818241073152] W fun e w' => e = .returned (.float .f64 13830554455654793216) ∧ W = w' := fun W => by
    have h := numMod_nat 7 3 9223372036854775808 0 W (by omega) (by omega) (by omega) (Or.inr rfl) (Or.inl rfl)
    rw [show 7 % 3 = 1 by decide, f7, f3, f1] at h
    exact h
  have c5 : ∀ W, Calls Tryz.prog 15 #[.string ⟨#[32, 51, 32]⟩] W fun e w' => e = .returned (.bool true) ∧ Below W.heap.size W w' := fun W => by
    have h := looks_any ⟨#[32, 51, 32]⟩ W (by decide)
    change Calls _ _ _ _ fun e w' => e = .returned (.bool (looksL [32, 51, 32])) ∧ _ at h
    rw [ex_l1] at h
    exact h
  have c6 : ∀ W, Calls Tryz.prog 15 #[.string ⟨#[51, 120]⟩] W fun e w' => e = .returned (.bool false) ∧ Below W.heap.size W w' := fun W => by
    have h := looks_any ⟨#[51, 120]⟩ W (by decide)
    change Calls _ _ _ _ fun e w' => e = .returned (.bool (looksL [51, 120])) ∧ _ at h
    rw [ex_l2] at h
    exact h
  have t1 : (FloatKind.f64.format.order 13861868546813853696 13861868546813853696 == some .eq) = true := by decide +kernel
  have t2 : (FloatKind.f64.format.order 4629418941960159232 4629418941960159232 == some .eq) = true := by decide +kernel
  have t3 : (FloatKind.f64.format.order 13830554455654793216 13830554455654793216 == some .eq) = true := by decide +kernel
  have HT := Lib.hid (Lib.tabBelow_of_tabIs hT)
  have C1 := Lib.hid c1
  have C2 := Lib.hid c2
  have C3 := Lib.hid c3
  have C4 := Lib.hid c4
  have C5 := Lib.hid c5
  have C6 := Lib.hid c6
  clear c1 c2 c3 c4 c5 c6 hT
  go_enter Tryz.func9, Tryz.ntmps9
  go_wp2_with fail
  refine (C1.out _).mono ?_
  rintro e w1 ⟨rfl, hB⟩
  go_wp2_with fail
  refine (C2.out _).mono ?_
  rintro e w' ⟨rfl, rfl⟩
  go_wp2_with fail
  refine (C3.out _ (HT.out _ hB)).mono ?_
  rintro e w2 ⟨rfl, hn⟩
  have hB := hB.trans (hn.mono hB.size)
  clear hn
  go_wp2_with fail
  refine (C4.out _).mono ?_
  rintro e w' ⟨rfl, rfl⟩
  go_wp2_with fail
  refine (C5.out _).mono ?_
  rintro e w3 ⟨rfl, hn⟩
  have hB := hB.trans (hn.mono hB.size)
  clear hn
  go_wp2_with fail
  refine (C6.out _).mono ?_
  rintro e w4 ⟨rfl, hn⟩
  have hB := hB.trans (hn.mono hB.size)
  clear hn
  go_wp2_with fail
  go_ret
  exact ⟨rfl, hB⟩
end Go.Proofs.YtlpobomlnlakcaaGreatDoor

namespace Go.Proofs.YtlpobomlnlakcaaGreatDoor
open Go.RowKit Go.Lib

def sI (a : Int) : Nat := if a < 0 then 9223372036854775808 else 0
theorem sI_01 (a : Int) : sI a = 0 ∨ sI a = 9223372036854775808 := by unfold sI; split <;> simp
theorem float_int {a : Int} (h : a.natAbs < 9007199254740992) : floatOfInt .f64 a = sI a + fw a.natAbs := by
  show Ieee.double.write (.number (decide (a < 0)) a.natAbs 0) = _
  show Ieee.double.nearest (decide (a < 0)) a.natAbs 0 = _
  rw [nearest_sign]
  have e : Ieee.double.nearest false a.natAbs 0 = fw a.natAbs := by
    rcases Nat.eq_zero_or_pos a.natAbs with h0 | h0
    · rw [h0]; decide
    · exact nearest_up h0 h
  rw [e]
  unfold sI
  by_cases h1 : a < 0
  · rw [decide_eq_true h1, if_pos rfl, if_pos h1]
  · rw [decide_eq_false h1, if_neg h1, if_neg (by decide)]
theorem ord_self {z : Nat} (h : mag z < 9218868437227405312) : (FloatKind.f64.format.order z z == some .eq) = true := by
  have h1 := nan_no (b := z) (by omega)
  unfold nanB at h1
  rw [bne_eq_false_iff_eq] at h1
  rw [beq_iff_eq]
  exact h1
theorem fw0 : fw 0 = 0 := rfl
theorem mag_s {s r : Nat} (hs : s = 0 ∨ s = 9223372036854775808) (hr : r < 9218868437227405312) : mag (s + r) = r := by unfold mag; omega
theorem ord_zeros {s t : Nat} (hs : s = 0 ∨ s = 9223372036854775808) (ht : t = 0 ∨ t = 9223372036854775808) : (FloatKind.f64.format.order s t == some .eq) = true := by
  rcases hs with rfl | rfl <;> rcases ht with rfl | rfl <;> decide
theorem neg_s {s r : Nat} (hs : s = 0 ∨ s = 9223372036854775808) (hr : r < 9218868437227405312) : Op.negFloat .f64 (s + r) = (9223372036854775808 - s) + r := by
  rcases hs with rfl | rfl
  · rw [Nat.zero_add]; exact neg_pos (by omega)
  · rw [neg_neg' (by omega)]; simp
/-- Two floats of whole numbers of one size are equal, whatever the sign of nought. -/
theorem ord_whole {s t q : Nat} (hs : s = 0 ∨ s = 9223372036854775808) (ht : t = 0 ∨ t = 9223372036854775808) (hq : q < 9007199254740992) (h : q = 0 ∨ s = t) : (FloatKind.f64.format.order (s + fw q) (t + fw q) == some .eq) = true := by
  rcases h with rfl | rfl
  · rw [fw0, Nat.add_zero, Nat.add_zero]; exact ord_zeros hs ht
  · exact ord_self (by rw [mag_s hs (by have := fw_bd hq; omega)]; have := fw_bd hq; omega)
set_option maxRecDepth 100000 in
set_option maxHeartbeats 2000000 in
theorem numDivides_zero (a b A : Int) (w : World) (hA : a.tmod 9007199254740992 = A) (hB : b.tmod 9007199254740992 = 0) (hT : PowTab w) :
    Calls Tryz.prog 6 #[.int .i64 a, .int .i64 b] w fun e w' => e = .returned (.bool true) ∧ Below w.heap.size w w' := by
  have CF := Lib.hid (nfixed_any w hT)
  have hAb : A.natAbs < 9007199254740992 := by rw [← hA, Int.natAbs_tmod]; exact Nat.mod_lt _ (by decide)
  have hf := float_int hAb
  have hfb := fw_bd hAb
  have h01 := sI_01 A
  obtain ⟨X, hX⟩ : ∃ X, sI A + fw A.natAbs = X := ⟨_, rfl⟩
  rw [hX] at hf
  have hXb : X < 18446744073709551616 := by omega
  have C1 : ∀ W, Calls Tryz.prog 24 #[.float .f64 X, .float .f64 0] W fun e w' => e = .returned (.float .f64 9221120237041090561) ∧ W = w' := fun W => by
    refine (numMod_any X 0 W hXb (by omega)).mono ?_
    rintro e w' ⟨z, rfl, rfl, h⟩
    rcases h with ⟨-, h0, -⟩ | ⟨-, rfl⟩
    · exact absurd h0 (by decide)
    · exact ⟨rfl, rfl⟩
  have C1 := Lib.hid C1
  have hn : (FloatKind.f64.format.order 9221120237041090561 9221120237041090561 != some .eq) = true := by decide +kernel
  have a1 : -9007199254740992 < A := by omega
  have a2 : A < 9007199254740992 := by omega
  clear hX hXb hAb hfb h01 hT
  go_enter Tryz.func6, Tryz.ntmps6
  go_wp2_with fail
  refine CF.out.mono ?_
  rintro e w0 ⟨rfl, hB⟩
  go_wp2_with fail
  refine (C1.out _).mono ?_
  rintro e w' ⟨rfl, rfl⟩
  go_wp2_with fail
  go_ret
  exact ⟨rfl, hB⟩
set_option maxRecDepth 100000 in
set_option maxHeartbeats 4000000 in
theorem numDivides_pos (a b A B : Int) (w : World) (hA : a.tmod 9007199254740992 = A) (hB : b.tmod 9007199254740992 = B) (hB0 : ¬ B = 0) (hT : PowTab w) :
    Calls Tryz.prog 6 #[.int .i64 a, .int .i64 b] w fun e w' => e = .returned (.bool true) ∧ Below w.heap.size w w' := by
  have CF := Lib.hid (nfixed_any w hT)
  have hAb : A.natAbs < 9007199254740992 := by rw [← hA, Int.natAbs_tmod]; exact Nat.mod_lt _ (by decide)
  have hBb : B.natAbs < 9007199254740992 := by rw [← hB, Int.natAbs_tmod]; exact Nat.mod_lt _ (by decide)
  have hBp : 0 < B.natAbs := by omega
  have fA := float_int hAb
  have fB := float_int hBb
  have fA' := float_int (a := -A) (by omega)
  have fB' := float_int (a := -B) (by omega)
  rw [Int.natAbs_neg] at fA' fB'
  obtain ⟨C, hC⟩ : ∃ C, A.tmod B = C := ⟨_, rfl⟩
  have hCn : C.natAbs = A.natAbs % B.natAbs := by rw [← hC, Int.natAbs_tmod]
  have hCb : C.natAbs < B.natAbs := by rw [hCn]; exact Nat.mod_lt _ hBp
  have hCs : C = 0 ∨ (C < 0 ↔ A < 0) := by
    rcases Int.lt_trichotomy C 0 with h | h | h
    · right
      refine ⟨fun _ => ?_, fun _ => h⟩
      rcases Int.lt_or_le A 0 with h1 | h1
      · exact h1
      · have := Int.tmod_nonneg B h1
        omega
    · exact Or.inl h
    · right
      refine ⟨fun h1 => absurd h1 (by omega), fun h1 => ?_⟩
      have := Int.tmod_nonneg B (show 0 ≤ -A by omega)
      rw [Int.neg_tmod, hC] at this
      omega
  have fC := float_int (a := C) (by omega)
  have m1 := fun W => numMod_nat A.natAbs B.natAbs (sI A) (sI B) W hAb hBb hBp (sI_01 _) (sI_01 _)
  have m2 := fun W => numMod_nat C.natAbs B.natAbs (sI A) (sI B) W (by omega) hBb hBp (sI_01 _) (sI_01 _)
  have m3 := fun W => numMod_nat A.natAbs B.natAbs (sI A) (sI (-B)) W hAb hBb hBp (sI_01 _) (sI_01 _)
  have m4 := fun W => numMod_nat A.natAbs B.natAbs (sI (-A)) (sI B) W hAb hBb hBp (sI_01 _) (sI_01 _)
  rw [← hCn] at m1 m3 m4
  rw [Nat.mod_eq_of_lt hCb] at m2
  have hq : C.natAbs < 9007199254740992 := by omega
  have hqb := fw_bd hq
  have e1 := ord_whole (s := sI A) (t := sI C) (sI_01 _) (sI_01 _) hq (by
    rcases hCs with h | h
    · left; omega
    · right; unfold sI; simp only [h])
  have e2 := ord_whole (s := sI A) (t := sI A) (sI_01 _) (sI_01 _) hq (Or.inr rfl)
  have hng := neg_s (s := sI A) (r := fw C.natAbs) (sI_01 _) (by omega)
  have e3 := ord_whole (s := sI (-A)) (t := 9223372036854775808 - sI A) (sI_01 _) (by have := sI_01 A; omega) hq (by
    rcases Int.lt_trichotomy A 0 with h | h | h
    · right; unfold sI; rw [if_neg (by omega), if_pos h]
    · left; rw [hCn, h]; simp
    · right; unfold sI; rw [if_pos (by omega), if_neg (by omega)])
  obtain ⟨XA, hXA⟩ : ∃ X, sI A + fw A.natAbs = X := ⟨_, rfl⟩
  obtain ⟨XB, hXB⟩ : ∃ X, sI B + fw B.natAbs = X := ⟨_, rfl⟩
  obtain ⟨YA, hYA⟩ : ∃ X, sI (-A) + fw A.natAbs = X := ⟨_, rfl⟩
  obtain ⟨YB, hYB⟩ : ∃ X, sI (-B) + fw B.natAbs = X := ⟨_, rfl⟩
  obtain ⟨R, hR⟩ : ∃ X, sI A + fw C.natAbs = X := ⟨_, rfl⟩
  obtain ⟨RC, hRC⟩ : ∃ X, sI C + fw C.natAbs = X := ⟨_, rfl⟩
  obtain ⟨RN, hRN⟩ : ∃ X, sI (-A) + fw C.natAbs = X := ⟨_, rfl⟩
  obtain ⟨RM, hRM⟩ : ∃ X, 9223372036854775808 - sI A + fw C.natAbs = X := ⟨_, rfl⟩
  rw [hXA] at fA m1 m3
  rw [hXB] at fB m1 m2 m4
  rw [hYA] at fA' m4
  rw [hYB] at fB' m3
  rw [hR] at m1 m2 m3 e1 e2 hng
  rw [hRC] at fC e1
  rw [hRN] at m4 e3
  rw [hRM] at hng e3
  have M1 := Lib.hid m1
  have M2 := Lib.hid m2
  have M3 := Lib.hid m3
  have M4 := Lib.hid m4
  have a1 : -9007199254740992 < A := by omega
  have a2 : A < 9007199254740992 := by omega
  have b1 : -9007199254740992 < B := by omega
  have b2 : B < 9007199254740992 := by omega
  have c1 : -9007199254740992 < C := by omega
  have c2 : C < 9007199254740992 := by omega
  clear hXA hXB hYA hYB hR hRC hRN hRM m1 m2 m3 m4 hCs hCb hCn hBp hBb hAb hq hqb hT
  go_enter Tryz.func6, Tryz.ntmps6
  go_wp2_with fail
  refine CF.out.mono ?_
  rintro e w0 ⟨rfl, hB⟩
  go_wp2_with fail
  refine (M1.out _).mono ?_
  rintro e w' ⟨rfl, rfl⟩
  go_wp2_with fail
  refine (M2.out _).mono ?_
  rintro e w' ⟨rfl, rfl⟩
  go_wp2_with fail
  refine (M3.out _).mono ?_
  rintro e w' ⟨rfl, rfl⟩
  go_wp2_with fail
  refine (M4.out _).mono ?_
  rintro e w' ⟨rfl, rfl⟩
  go_wp2_with (simp only [run_neg, hng])
  go_ret
  exact ⟨rfl, hB⟩
theorem numDivides_any (a b : Int) (w : World) (hT : PowTab w) :
    Calls Tryz.prog 6 #[.int .i64 a, .int .i64 b] w fun e w' => e = .returned (.bool true) ∧ Below w.heap.size w w' := by
  by_cases h : b.tmod 9007199254740992 = 0
  · exact numDivides_zero a b _ w rfl h hT
  · exact numDivides_pos a b _ _ w rfl rfl h hT
end Go.Proofs.YtlpobomlnlakcaaGreatDoor

namespace Go.Proofs.YtlpobomlnlakcaaGreatDoor
open Go.RowKit Go.Lib

def qN : Nat := 9221120237041090561
/-- All NaNs are one. -/
def cn (b : Nat) : Nat := if 9218868437227405312 < mag b then qN else b
def flC (op : BinOp) (a b : Nat) : Nat := match floatBits op .f64 a b with | some r => r | none => qN
theorem mag_qN : mag qN = qN := by decide
theorem cn_nan {b : Nat} (h : 9218868437227405312 < mag b) : cn b = qN := if_pos h
theorem cn_id {b : Nat} (h : mag b ≤ 9218868437227405312) : cn b = b := if_neg (by omega)
theorem word_mag {s : Bool} {r : Nat} (h : r ≤ 9218868437227405312) : mag (Ieee.double.word s r) ≤ 9218868437227405312 ∧ Ieee.double.word s r < 18446744073709551616 := by
  rw [word_sign]
  unfold mag
  split <;> omega
theorem near_mag (s : Bool) (m : Nat) (p : Int) : mag (Ieee.double.nearest s m p) ≤ 9218868437227405312 ∧ Ieee.double.nearest s m p < 18446744073709551616 := by
  unfold Ieee.Format.nearest
  split
  · exact word_mag (by omega)
  · exact word_mag (by rw [dbl_inf]; exact Nat.min_le_right _ _)
theorem mul_nan {a b : Nat} (h : 9218868437227405312 < mag a ∨ 9218868437227405312 < mag b) : floatBits .mul .f64 a b = none := by
  show (((Ieee.double.read a).product (Ieee.double.read b)).map Ieee.double.write) = none
  rcases h with h | h
  · rw [read_nan h]; rfl
  · rw [read_nan h]
    cases Ieee.double.read a <;> rfl
theorem quo_nan {a b : Nat} (h : 9218868437227405312 < mag a ∨ 9218868437227405312 < mag b) : floatBits .quo .f64 a b = none := by
  show (((Ieee.double.read a).quotient 54 (Ieee.double.read b)).map Ieee.double.write) = none
  rcases h with h | h
  · rw [read_nan h]; rfl
  · rw [read_nan h]
    cases Ieee.double.read a <;> rfl
theorem write_mag {d : Ieee.Datum} (h : d.isNaN = false) : mag (Ieee.double.write d) ≤ 9218868437227405312 ∧ Ieee.double.write d < 18446744073709551616 := by
  cases d with
  | number s m p => exact near_mag s m p
  | infinity s => exact word_mag (by rw [dbl_inf]; exact Nat.le_refl _)
  | nan s f => cases h
theorem mul_mag {a b r : Nat} (h : floatBits .mul .f64 a b = some r) : mag r ≤ 9218868437227405312 ∧ r < 18446744073709551616 := by
  replace h : (((Ieee.double.read a).product (Ieee.double.read b)).map Ieee.double.write) = some r := h
  cases hd : (Ieee.double.read a).product (Ieee.double.read b) with
  | none => rw [hd] at h; cases h
  | some d =>
    rw [hd] at h
    have e : Ieee.double.write d = r := Option.some.inj h
    rw [← e]
    refine write_mag ?_
    revert hd
    cases Ieee.double.read a <;> cases Ieee.double.read b <;> simp only [Ieee.Datum.product] <;> (try split) <;> intro hd <;> cases hd <;> rfl
theorem quo_mag {a b r : Nat} (h : floatBits .quo .f64 a b = some r) : mag r ≤ 9218868437227405312 ∧ r < 18446744073709551616 := by
  replace h : (((Ieee.double.read a).quotient 54 (Ieee.double.read b)).map Ieee.double.write) = some r := h
  cases hd : (Ieee.double.read a).quotient 54 (Ieee.double.read b) with
  | none => rw [hd] at h; cases h
  | some d =>
    rw [hd] at h
    have e : Ieee.double.write d = r := Option.some.inj h
    rw [← e]
    refine write_mag ?_
    revert hd
    cases Ieee.double.read a <;> cases Ieee.double.read b <;> simp only [Ieee.Datum.quotient] <;> (try split) <;> (try split) <;> intro hd <;> cases hd <;> rfl
theorem qN_nan {b : Nat} (h : 9218868437227405312 < mag b) : 9218868437227405312 < mag (cn b) := by rw [cn_nan h]; decide
theorem mulC_cn (a b : Nat) : flC .mul (cn a) (cn b) = flC .mul a b := by
  unfold flC
  by_cases ha : 9218868437227405312 < mag a
  · rw [mul_nan (Or.inl ha), mul_nan (Or.inl (qN_nan ha))]
  · by_cases hb : 9218868437227405312 < mag b
    · rw [mul_nan (Or.inr hb), mul_nan (Or.inr (qN_nan hb))]
    · rw [cn_id (by omega), cn_id (by omega)]
theorem quoC_cn (a b : Nat) : flC .quo a (cn b) = flC .quo a b := by
  unfold flC
  by_cases hb : 9218868437227405312 < mag b
  · rw [quo_nan (Or.inr hb), quo_nan (Or.inr (qN_nan hb))]
  · rw [cn_id (by omega)]
theorem nan_word {a b : Nat} (_ha : a < 2) (hb : b < 2 ^ 52 - 1) : 9218868437227405312 < mag (a * 2 ^ 63 + 0x7ff0000000000000 + 1 + b) := by
  unfold mag
  omega
/-- What a product or a quotient gives: some NaN, where it has no answer. -/
structure FlRun (P : Program) (op : BinOp) (t : TypeId) (a b : Nat) (φ : World → Nat) (d : Nat) : Prop where
  run : ∀ W, (binOp op t (.float .f64 a) (.float .f64 b)).run P W = .ok (.float .f64 (φ W)) (W.drewN d)
  val : ∀ W, cn (φ W) = flC op a b
  lt : ∀ W, φ W < 18446744073709551616
theorem run_fl (P : Program) (op : BinOp) (hop : op = .mul ∨ op = .quo) (t : TypeId) (a b : Nat) : ∃ φ d, FlRun P op t a b φ d := by
  cases h : floatBits op .f64 a b with
  | some r =>
    have hm : mag r ≤ 9218868437227405312 ∧ r < 18446744073709551616 := by
      rcases hop with rfl | rfl
      · exact mul_mag h
      · exact quo_mag h
    exact ⟨fun _ => r, 0, fun W => run_float_arith W op t .f64 a b r h, fun _ => by unfold flC; rw [h, cn_id hm.1], fun _ => hm.2⟩
  | none =>
    refine ⟨fun W => Question.cut (.nanBits .f64 a b) (W.tape W.drawn (.nanBits .f64 a b)), 1, fun W => ?_, fun W => ?_, fun W => ?_⟩
    · rcases hop with rfl | rfl
      · have h' : FloatKind.f64.format.mul a b = none := h
        simp [binOp, Op.floatArith, h', Question.forced]
        rfl
      · have h' : FloatKind.f64.format.div a b = none := h
        simp [binOp, Op.floatArith, h', Question.forced]
        rfl
    · unfold flC
      rw [h, cn_nan]
      show 9218868437227405312 < mag (W.tape W.drawn (.nanBits .f64 a b) % 2 * 2 ^ 63 + 0x7ff0000000000000 + 1 + W.tape W.drawn (.nanBits .f64 a b) / 2 % (2 ^ 52 - 1))
      exact nan_word (Nat.mod_lt _ (by omega)) (Nat.mod_lt _ (by omega))
    · show W.tape W.drawn (.nanBits .f64 a b) % 2 * 2 ^ 63 + 0x7ff0000000000000 + 1 + W.tape W.drawn (.nanBits .f64 a b) / 2 % (2 ^ 52 - 1) < 18446744073709551616
      omega
def powF : Nat → Nat → Nat → Nat → Nat
  | 0, p, _, _ => p
  | f + 1, p, x, n => if n = 0 then p else powF f (if n % 2 = 1 then flC .mul p x else p) (flC .mul x x) (n / 2)
theorem powF_zero (f p x : Nat) : powF f p x 0 = p := by cases f <;> rfl
/-- A float to a whole power. -/
def powR (x y : Nat) : Nat := if sgn y = 0 ∨ mag y = 0 then powF 64 4607182418800017408 (cn x) (whQ (mag y)) else flC .quo 4607182418800017408 (powF 64 4607182418800017408 (cn x) (whQ (mag y)))
theorem uint_of_wh {r : Nat} (h : r < 9218868437227405312) (hq : whQ r < 9223372036854775807) : floatToIntVal .f64 r .u64 = some (whQ r : Int) := by
  have h1 := toInt_wh (b := r) (by rw [mag_no h]; exact h)
  have hs : sgn r = 0 := by unfold sgn; omega
  rw [whZ, if_pos hs, mag_no h] at h1
  unfold floatToIntVal
  rw [h1]
  show (if 0 ≤ (whQ r : Int) ∧ (whQ r : Int) ≤ 18446744073709551615 then some (whQ r : Int) else none) = _
  rw [if_pos (by omega)]
theorem and_one (n : Nat) (h : n < 18446744073709551616) : bits .and .u64 (n : Int) 1 = ((n % 2 : Nat) : Int) := by
  have h1 := u64_and_nat n 1 h (by omega)
  rw [Nat.and_one_is_mod] at h1
  exact h1
def PowEnd (x y : Nat) (w : World) (e : Ending) (w' : World) : Prop := ∃ z, e = .returned (.tuple #[.float .f64 z, .bool true]) ∧ cn z = powR x y ∧ z < 18446744073709551616 ∧ Below w.heap.size w w'
def PowLoop (R : Nat) (w : World) (xv pv lv : Value) (W : World) : Prop :=
  ∃ x p n f : Nat, xv = .float .f64 x ∧ pv = .float .f64 p ∧ lv = .int .u64 (n : Int) ∧ n < 9007199254740992 ∧ n < 2 ^ f ∧ powF f (cn p) (cn x) n = R ∧ p < 18446744073709551616 ∧ x < 18446744073709551616 ∧ Below w.heap.size w W
set_option maxRecDepth 100000 in
set_option maxHeartbeats 4000000 in
theorem pow_yes (x y : Nat) (w : World) (hx : x < 18446744073709551616) (hy : y < 18446744073709551616) (h : wholeB y 4845873199050653696 = true) :
    Calls Tryz.prog 20 #[.float .f64 x, .float .f64 y] w (PowEnd x y w) := by
  have C1 := wholeBelow_any y 4845873199050653696 w hy (by omega)
  rw [h] at C1
  have hlt : mag y < 4845873199050653696 := by
    unfold wholeB at h
    exact of_decide_eq_true (Bool.and_eq_true_iff.1 h).1
  have hq := whQ_lt hlt e53_V
  have C2 := Lib.hid (fun W => abs_any y W hy)
  have hi := uint_of_wh (r := mag y) (by omega) (by omega)
  have hc : ∀ W, (convert 23 28 (.float .f64 (mag y))).run Tryz.prog W = .ok (.int .u64 (whQ (mag y) : Int)) W := fun W => run_convert_float_int W 23 28 .f64 .u64 _ _ (by rw [Tryz.underlying23]; rfl) Tryz.underlying28 hi
  have hS : powR x y = (if sgn y = 0 ∨ mag y = 0 then powF 64 4607182418800017408 (cn x) (whQ (mag y)) else flC .quo 4607182418800017408 (powF 64 4607182418800017408 (cn x) (whQ (mag y)))) := rfl
  have hord : ((sgn y = 0 ∨ mag y = 0) ∧ (FloatKind.f64.format.order y 0 == some .lt) = false) ∨ (¬ (sgn y = 0 ∨ mag y = 0) ∧ (FloatKind.f64.format.order y 0 == some .lt) = true) := by
    have hsm := sgn_mag y hy
    rcases (by unfold sgn; omega : sgn y = 0 ∨ sgn y = 9223372036854775808) with h0 | h0
    · left
      refine ⟨Or.inl h0, ?_⟩
      rcases Nat.eq_zero_or_pos (mag y) with h1 | h1
      · rw [show y = 0 by omega]; decide
      · rw [show y = mag y by omega]; exact ord_zero_lt h1 (by omega)
    · rcases Nat.eq_zero_or_pos (mag y) with h1 | h1
      · left
        refine ⟨Or.inr h1, ?_⟩
        rw [show y = 9223372036854775808 by omega]; decide
      · right
        refine ⟨by omega, ?_⟩
        rw [show y = 9223372036854775808 + mag y by omega, ord0_neg h1 (by omega)]
        rfl
  obtain ⟨M, hM⟩ : ∃ M, mag y = M := ⟨_, rfl⟩
  obtain ⟨n0, hn0⟩ : ∃ n0, whQ M = n0 := ⟨_, rfl⟩
  obtain ⟨R, hR⟩ : ∃ R, powF 64 4607182418800017408 (cn x) n0 = R := ⟨_, rfl⟩
  rw [hM] at hq C2 hc hS hord
  rw [hn0] at hq hc hS
  rw [hR] at hS
  have HR := Lib.hid (show powF 64 (cn 4607182418800017408) (cn x) n0 = R by rw [cn_id (by decide)]; exact hR)
  have HS := Lib.hid hS
  have C1 := Lib.hid C1
  have hb0 := Below.refl w.heap.size w
  clear h hlt hi hM hn0 hR hS
  rcases hord with ⟨hpos, ho⟩ | ⟨hneg, ho⟩
  · have HQ := Lib.hid (show powR x y = R by rw [HS.out, if_pos hpos])
    clear hpos
    go_enter Tryz.func20, Tryz.ntmps20
    go_wp2_with fail
    refine C1.out.mono ?_
    rintro e w' ⟨rfl, rfl⟩
    go_wp2_with fail
    refine (C2.out _).mono ?_
    rintro e w' ⟨rfl, rfl⟩
    go_wp2_with fail
    go_loopw [0, 6, 7] (fun xv pv lv wr => PowLoop R w xv pv lv wr) (fun _ _ lv _ => (RowKit.intOf lv).toNat)
    case atStart => exact ⟨x, 4607182418800017408, n0, 64, rfl, rfl, rfl, hq, by omega, HR.out, by omega, hx, hb0⟩
    case round =>
      obtain ⟨x1, p, n, f, rfl, rfl, rfl, hn, hf, hF, hp, hx1, hB⟩ := hrel
      have HF := Lib.hid hF
      have HFf := Lib.hid hf
      clear hF hf
      by_cases h0 : n = 0
      · have HE := Lib.hid (show cn p = R by have h := HF.out; rw [h0, powF_zero] at h; exact h)
        have hn0 : ¬ (0 : Int) < (n : Int) := by omega
        clear h0
        go_wp2_with fail
        go_ret2
        exact ⟨p, rfl, by rw [HE.out, HQ.out], hp, hB⟩
      · have hn0 : (0 : Int) < (n : Int) := by omega
        obtain ⟨g, rfl⟩ : ∃ g, f = g + 1 := by
          cases f with
          | zero => have := HFf.out; rw [Nat.pow_zero] at this; omega
          | succ g => exact ⟨g, rfl⟩
        have HG := Lib.hid (show n / 2 < 2 ^ g ∧ powF g (if n % 2 = 1 then flC .mul (cn p) (cn x1) else cn p) (flC .mul (cn x1) (cn x1)) (n / 2) = R by
          have h1 := HFf.out
          rw [Nat.pow_succ] at h1
          refine ⟨by omega, ?_⟩
          have h2 := HF.out
          rw [powF, if_neg h0] at h2
          exact h2)
        have hdiv : (n : Int) / 2 = ((n / 2 : Nat) : Int) := by omega
        have hand := and_one n (by omega)
        obtain ⟨φ2, d2, F2⟩ := run_fl Tryz.prog .mul (Or.inl rfl) 23 x1 x1
        have hm2 := F2.run
        have H2 := Lib.hid F2
        clear h0 F2
        rcases (by omega : n % 2 = 1 ∨ n % 2 = 0) with hpar | hpar
        · obtain ⟨φ1, d1, F1⟩ := run_fl Tryz.prog .mul (Or.inl rfl) 23 p x1
          have hm1 := F1.run
          have H1 := Lib.hid F1
          rw [hpar] at hand
          replace hand : bits .and .u64 (n : Int) 1 = 1 := hand
          have HG2 := Lib.hid (show powF g (flC .mul (cn p) (cn x1)) (flC .mul (cn x1) (cn x1)) (n / 2) = R by have h := HG.out.2; rw [if_pos hpar] at h; exact h)
          have HN := Lib.hid (show n / 2 < n by omega)
          clear hpar F1 hdiv
          go_wp2_with (simp only [hm1, hm2])
          go_roundw
          case rel => exact ⟨φ2 (wr.drewN d1), φ1 wr, n / 2, g, rfl, rfl, congrArg (Value.int .u64) (by omega), by omega, HG.out.1, by rw [H1.out.val, H2.out.val, ← mulC_cn p x1, ← mulC_cn x1 x1]; exact HG2.out, H1.out.lt _, H2.out.lt _, below_drewN hB (d1 + d2)⟩
          case measure => simp [RowKit.intOf]; omega
        · rw [hpar] at hand
          replace hand : bits .and .u64 (n : Int) 1 = 0 := hand
          have HG2 := Lib.hid (show powF g (cn p) (flC .mul (cn x1) (cn x1)) (n / 2) = R by have h := HG.out.2; rw [if_neg (by omega)] at h; exact h)
          clear hpar hdiv
          go_wp2_with (simp only [hm2])
          go_roundw
          case rel => exact ⟨φ2 wr, p, n / 2, g, rfl, rfl, congrArg (Value.int .u64) (by omega), by omega, HG.out.1, by rw [H2.out.val, ← mulC_cn x1 x1]; exact HG2.out, hp, H2.out.lt _, below_drewN hB d2⟩
          case measure => simp [RowKit.intOf]; omega
  · have HQ := Lib.hid (show powR x y = flC .quo 4607182418800017408 R by rw [HS.out, if_neg hneg])
    clear hneg
    go_enter Tryz.func20, Tryz.ntmps20
    go_wp2_with fail
    refine C1.out.mono ?_
    rintro e w' ⟨rfl, rfl⟩
    go_wp2_with fail
    refine (C2.out _).mono ?_
    rintro e w' ⟨rfl, rfl⟩
    go_wp2_with fail
    go_loopw [0, 6, 7] (fun xv pv lv wr => PowLoop R w xv pv lv wr) (fun _ _ lv _ => (RowKit.intOf lv).toNat)
    case atStart => exact ⟨x, 4607182418800017408, n0, 64, rfl, rfl, rfl, hq, by omega, HR.out, by omega, hx, hb0⟩
    case round =>
      obtain ⟨x1, p, n, f, rfl, rfl, rfl, hn, hf, hF, hp, hx1, hB⟩ := hrel
      have HF := Lib.hid hF
      have HFf := Lib.hid hf
      clear hF hf
      by_cases h0 : n = 0
      · have HE := Lib.hid (show cn p = R by have h := HF.out; rw [h0, powF_zero] at h; exact h)
        have hn0 : ¬ (0 : Int) < (n : Int) := by omega
        clear h0
        obtain ⟨φ, d, FQ⟩ := run_fl Tryz.prog .quo (Or.inr rfl) 23 4607182418800017408 p
        have hq1 := FQ.run
        have HV := Lib.hid FQ
        clear FQ
        go_wp2_with (simp only [hq1])
        go_ret2
        exact ⟨_, rfl, by rw [HV.out.val, HQ.out, ← HE.out, quoC_cn], HV.out.lt _, below_drewN hB d⟩
      · have hn0 : (0 : Int) < (n : Int) := by omega
        obtain ⟨g, rfl⟩ : ∃ g, f = g + 1 := by
          cases f with
          | zero => have := HFf.out; rw [Nat.pow_zero] at this; omega
          | succ g => exact ⟨g, rfl⟩
        have HG := Lib.hid (show n / 2 < 2 ^ g ∧ powF g (if n % 2 = 1 then flC .mul (cn p) (cn x1) else cn p) (flC .mul (cn x1) (cn x1)) (n / 2) = R by
          have h1 := HFf.out
          rw [Nat.pow_succ] at h1
          refine ⟨by omega, ?_⟩
          have h2 := HF.out
          rw [powF, if_neg h0] at h2
          exact h2)
        have hdiv : (n : Int) / 2 = ((n / 2 : Nat) : Int) := by omega
        have hand := and_one n (by omega)
        obtain ⟨φ2, d2, F2⟩ := run_fl Tryz.prog .mul (Or.inl rfl) 23 x1 x1
        have hm2 := F2.run
        have H2 := Lib.hid F2
        clear h0 F2
        rcases (by omega : n % 2 = 1 ∨ n % 2 = 0) with hpar | hpar
        · obtain ⟨φ1, d1, F1⟩ := run_fl Tryz.prog .mul (Or.inl rfl) 23 p x1
          have hm1 := F1.run
          have H1 := Lib.hid F1
          rw [hpar] at hand
          replace hand : bits .and .u64 (n : Int) 1 = 1 := hand
          have HG2 := Lib.hid (show powF g (flC .mul (cn p) (cn x1)) (flC .mul (cn x1) (cn x1)) (n / 2) = R by have h := HG.out.2; rw [if_pos hpar] at h; exact h)
          have HN := Lib.hid (show n / 2 < n by omega)
          clear hpar F1 hdiv
          go_wp2_with (simp only [hm1, hm2])
          go_roundw
          case rel => exact ⟨φ2 (wr.drewN d1), φ1 wr, n / 2, g, rfl, rfl, congrArg (Value.int .u64) (by omega), by omega, HG.out.1, by rw [H1.out.val, H2.out.val, ← mulC_cn p x1, ← mulC_cn x1 x1]; exact HG2.out, H1.out.lt _, H2.out.lt _, below_drewN hB (d1 + d2)⟩
          case measure => simp [RowKit.intOf]; omega
        · rw [hpar] at hand
          replace hand : bits .and .u64 (n : Int) 1 = 0 := hand
          have HG2 := Lib.hid (show powF g (cn p) (flC .mul (cn x1) (cn x1)) (n / 2) = R by have h := HG.out.2; rw [if_neg (by omega)] at h; exact h)
          clear hpar hdiv
          go_wp2_with (simp only [hm2])
          go_roundw
          case rel => exact ⟨φ2 wr, p, n / 2, g, rfl, rfl, congrArg (Value.int .u64) (by omega), by omega, HG.out.1, by rw [H2.out.val, ← mulC_cn x1 x1]; exact HG2.out, hp, H2.out.lt _, below_drewN hB d2⟩
          case measure => simp [RowKit.intOf]; omega
set_option maxRecDepth 100000 in
set_option maxHeartbeats 1000000 in
theorem pow_no (x y : Nat) (w : World) (hy : y < 18446744073709551616) (h : wholeB y 4845873199050653696 = false) :
    Calls Tryz.prog 20 #[.float .f64 x, .float .f64 y] w fun e w' => e = .returned (.tuple #[.float .f64 0, .bool false]) ∧ w = w' := by
  have C1 := wholeBelow_any y 4845873199050653696 w hy (by omega)
  rw [h] at C1
  have C1 := Lib.hid C1
  clear h
  go_enter Tryz.func20, Tryz.ntmps20
  go_wp2_with fail
  refine C1.out.mono ?_
  rintro e w' ⟨rfl, rfl⟩
  go_wp2_with fail
  go_ret2
  exact ⟨rfl, rfl⟩
end Go.Proofs.YtlpobomlnlakcaaGreatDoor
