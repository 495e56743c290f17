/- Several texts in one (Contracts of layer 4: Trunc; Plain: floats by a mantissa of 53 digits; exact differences; one step of what is left. No walk here; Contracts of layer 4: math.Frexp, math.Ldexp; Contracts of layer 4: math.Mod; Contracts of layer 4: whole numbers: wholeBelow, Whole; Plain: numerals of digits in texts; whole numbers as floats are the nearest. No walk here; Contracts of layer 5: the small ones (among, repeat, fill, Check, sign, boundless)). -/
import Derived.WalkSpells
import Derived.Lib.ItoaNum
import Derived.Lib.AppendIntMem
import Derived.Lib.SmallJoins
import Derived.Deep.RegionWith
import Derived.Test.YtohickpkkldmdaaGreatDoorPk6
namespace Go.Proofs.YtohickpkkldmdaaGreatDoor
open Go.RowKit Go.Lib

/-- The sign's bit. -/
def sgn (b : Nat) : Nat := b / 9223372036854775808 % 2 * 9223372036854775808
theorem sgn_mag (b : Nat) (hb : b < 18446744073709551616) : sgn b + mag b = b := by unfold sgn mag; omega
theorem word_sign (s : Bool) (r : Nat) : Ieee.double.word s r = (if s = true then 9223372036854775808 else 0) + r := by
  cases s
  · exact (word_pos r).trans (by simp)
  · show Ieee.double.signWeight + r = _
    rw [dbl_sign]
    rfl
theorem nearest_sign (s : Bool) (m : Nat) (p : Int) : Ieee.double.nearest s m p = (if s = true then 9223372036854775808 else 0) + Ieee.double.nearest false m p := by
  unfold Ieee.Format.nearest
  split
  · rw [word_sign, word_sign]; simp
  · simp only [word_sign]
    cases s
    · simp only [Bool.false_eq_true, if_false, Nat.zero_add]
    · simp only [Bool.false_eq_true, if_false, if_true, Nat.zero_add]
      rfl
/-- Without what stands behind the point. -/
def truncR (r : Nat) : Nat := if 0 ≤ expF r then r else fw (manF r / 2 ^ (-expF r).toNat)
theorem cut_zero (s : Bool) (n j : Nat) : Ieee.Toward.zero.cut s n j = n / 2 ^ j := by
  unfold Ieee.Toward.cut
  simp only [Nat.one_shiftLeft, Bool.toNat_false, Nat.add_zero]
  rcases Nat.le_total j (n.log2 + 2) with h | h
  · rw [Nat.min_eq_left h]
  · rw [Nat.min_eq_right h]
    have h1 : n < 2 ^ (n.log2 + 2) := by
      rcases Nat.eq_zero_or_pos n with h0 | h0
      · subst h0; exact Nat.pow_pos (by omega)
      · have := (log2_bd h0).2
        have h2 : 2 ^ (n.log2 + 1) ≤ 2 ^ (n.log2 + 2) := Nat.pow_le_pow_right (by omega) (by omega)
        omega
    have h2 : 2 ^ (n.log2 + 2) ≤ 2 ^ j := Nat.pow_le_pow_right (by omega) h
    rw [Nat.div_eq_of_lt h1, Nat.div_eq_of_lt (by omega)]
theorem trunc_val {b : Nat} (_hb : b < 18446744073709551616) (h : mag b < 9218868437227405312) : FloatKind.f64.encode ((FloatKind.f64.decode b).integral .zero) = sgn b + truncR (mag b) := by
  have hs : (if (b / 9223372036854775808 % 2 == 1) = true then 9223372036854775808 else 0) = sgn b := by
    unfold sgn
    rcases (by omega : b / 9223372036854775808 % 2 = 0 ∨ b / 9223372036854775808 % 2 = 1) with e | e
    · rw [e]; decide
    · rw [e]; decide
  show Ieee.double.write ((Ieee.double.read b).integral .zero) = _
  rw [read_fin h]
  show Ieee.double.nearest (b / 9223372036854775808 % 2 == 1) (Ieee.Toward.zero.cut (b / 9223372036854775808 % 2 == 1) (manF (mag b) <<< (expF (mag b)).toNat) (-expF (mag b)).toNat) 0 = _
  rw [nearest_sign, hs, cut_zero, Nat.shiftLeft_eq]
  have hml := manF_lt (r := mag b)
  unfold truncR
  by_cases he : 0 ≤ expF (mag b)
  · rw [if_pos he, show (-expF (mag b)).toNat = 0 by omega, Nat.pow_zero, Nat.div_one]
    obtain ⟨e, hee⟩ : ∃ e : Nat, expF (mag b) = (e : Int) := ⟨(expF (mag b)).toNat, by omega⟩
    have hr : 4503599627370496 ≤ mag b := by
      rcases Nat.lt_or_ge (mag b) 4503599627370496 with h1 | h1
      · rw [expF, if_pos h1] at he; omega
      · exact h1
    have hm : manF (mag b) = 4503599627370496 + mag b % 4503599627370496 := by rw [manF, if_neg (by omega)]
    have hx : expF (mag b) = -1074 + ((mag b / 4503599627370496 - 1 : Nat) : Int) := by rw [expF, if_neg (by omega)]
    have hn := nearest_exact (m := manF (mag b)) (j := e) (e := e + 1074) (place := 0) (by omega) hml (by omega) (Or.inr (by omega))
    rw [hee, Int.toNat_natCast, hn]
    congr 1
    rw [Nat.min_eq_left (by omega)]
    omega
  · rw [if_neg he, show (expF (mag b)).toNat = 0 by omega, Nat.pow_zero, Nat.mul_one]
    have hq : manF (mag b) / 2 ^ (-expF (mag b)).toNat < 9007199254740992 := Nat.lt_of_le_of_lt (Nat.div_le_self _ _) hml
    congr 1
    rcases Nat.eq_zero_or_pos (manF (mag b) / 2 ^ (-expF (mag b)).toNat) with h0 | h0
    · rw [h0]; decide
    · exact nearest_up h0 hq
attribute [local irreducible] FloatKind.decode in
theorem trunc_step (x : Nat) (s : Bool) (m : Nat) (p : Int) (hd : FloatKind.f64.decode x = .number s m p) : Extern.MathFloor.toIntegral "math.archTrunc" .zero #[.float .f64 x] = pure (.float .f64 (FloatKind.f64.encode ((FloatKind.f64.decode x).integral .zero))) := by
  conv => lhs; whnf
  rw [hd]
attribute [local irreducible] FloatKind.decode in
theorem trunc_step_inf (x : Nat) (s : Bool) (hd : FloatKind.f64.decode x = .infinity s) : Extern.MathFloor.toIntegral "math.archTrunc" .zero #[.float .f64 x] = pure (.float .f64 (FloatKind.f64.encode ((FloatKind.f64.decode x).integral .zero))) := by
  conv => lhs; whnf
  rw [hd]
theorem run_trunc (b : Nat) (W : World) (hb : b < 18446744073709551616) (h : mag b < 9218868437227405312) : (callFunc 101 #[.float .f64 b]).run Tryz.prog W = .ok (.value (.float .f64 (sgn b + truncR (mag b)))) W := by
  rw [run_callFunc_extern Tryz.func101 (by kernel_rfl) (by kernel_rfl) (by kernel_rfl) (e := Extern.MathFloor.toIntegral "math.archTrunc" .zero) (by kernel_rfl)]
  have hd : FloatKind.f64.decode b = .number (b / 9223372036854775808 % 2 == 1) (manF (mag b)) (expF (mag b)) := read_fin h
  rw [trunc_step b _ _ _ hd, trunc_val hb h]
  rfl
theorem trunc_any (b : Nat) (w : World) (hb : b < 18446744073709551616) (h : mag b < 9218868437227405312) : Calls Tryz.prog 57 #[.float .f64 b] w fun e w' => e = .returned (.float .f64 (sgn b + truncR (mag b))) ∧ w = w' := by
  have h1 := fun W => run_trunc b W hb h
  go_enter Tryz.func57, Tryz.ntmps57
  go_wp2
  go_ret
  exact ⟨rfl, rfl⟩
theorem numTrunc_fin (b : Nat) (w : World) (hb : b < 18446744073709551616) (h : mag b < 9218868437227405312) : Calls Tryz.prog 22 #[.float .f64 b] w fun e w' => e = .returned (.float .f64 (sgn b + truncR (mag b))) ∧ w = w' := by
  have C := Lib.hid (trunc_any b w hb h)
  go_enter Tryz.func22, Tryz.ntmps22
  go_wp2_with fail
  refine C.out.mono ?_
  rintro e w' ⟨rfl, rfl⟩
  go_wp2
  go_ret
  exact ⟨rfl, rfl⟩
end Go.Proofs.YtohickpkkldmdaaGreatDoor

namespace Go.Proofs.YtohickpkkldmdaaGreatDoor

/-- The place of the first digit of a float, counted in the least one. -/
def Lg (r : Nat) : Nat := if r < 4503599627370496 then r.log2 else r / 4503599627370496 + 51
/-- Its 53 digits. -/
def Mt (r : Nat) : Nat := if r < 4503599627370496 then r * 2 ^ (52 - r.log2) else 4503599627370496 + r % 4503599627370496
theorem Mt_bd {r : Nat} (h : 0 < r) : 4503599627370496 ≤ Mt r ∧ Mt r < 9007199254740992 := by
  unfold Mt
  split
  · exact full_bd h (by omega)
  · omega
theorem two52 : (4503599627370496 : Nat) = 2 ^ 52 := by decide
theorem V_Mt {r : Nat} (h : 0 < r) : V r * 4503599627370496 = Mt r * 2 ^ Lg r := by
  unfold V Mt Lg
  by_cases h1 : r < 4503599627370496
  · have hb := log2_le52 h (by omega)
    rw [if_pos h1, if_pos h1, if_pos h1, Nat.mul_assoc, ← Nat.pow_add, show 52 - r.log2 + r.log2 = 52 by omega]
  · rw [if_neg h1, if_neg h1, if_neg h1, show r / 4503599627370496 + 51 = r / 4503599627370496 - 1 + 52 by omega, Nat.pow_add, Nat.mul_assoc]
theorem nearest_fit {D : Nat} {p : Int} (hD : 0 < D) (hD2 : D < 9007199254740992) (hp : -1074 ≤ p) (hp2 : p ≤ 971) :
    ∃ t, Ieee.double.nearest false D p = t ∧ t < 9218868437227405312 ∧ V t = D * 2 ^ (p + 1074).toNat := by
  have hb := log2_le52 hD hD2
  obtain ⟨f1, f2⟩ := full_bd hD hD2
  obtain ⟨s, hs1, hs2, hs3⟩ : ∃ s : Nat, max (p + (D.log2 : Int) - ((52 : Nat) : Int)) (-1074) = p - (s : Int) ∧ s ≤ 52 - D.log2 ∧ (p - (s : Int) = -1074 ∨ s = 52 - D.log2) :=
    ⟨(p - max (p + (D.log2 : Int) - 52) (-1074)).toNat, by omega, by omega, by omega⟩
  obtain ⟨e, he⟩ : ∃ e : Nat, p - (s : Int) + 1074 = (e : Int) := ⟨(p - (s : Int) + 1074).toNat, by omega⟩
  have hm1 : 0 < D * 2 ^ s := Nat.mul_pos hD (Nat.pow_pos (by omega))
  have hm2 : D * 2 ^ s < 9007199254740992 := Nat.lt_of_le_of_lt (Nat.mul_le_mul_left _ (Nat.pow_le_pow_right (by omega) hs2)) f2
  have hm3 : e = 0 ∨ 4503599627370496 ≤ D * 2 ^ s := by
    rcases hs3 with h | h
    · left; omega
    · right; rw [h]; exact f1
  have hcut := cut_exact (D * 2 ^ s) 0 hm1
  rw [Nat.pow_zero, Nat.mul_one] at hcut
  refine ⟨e * 4503599627370496 + D * 2 ^ s, ?_, by omega, ?_⟩
  · unfold Ieee.Format.nearest
    rw [if_neg (by omega)]
    simp only [dbl_frac, dbl_least, dbl_binade, dbl_inf, hs1]
    rw [show (p - (p - (s : Int))).toNat = s by omega, show (p - (s : Int) - p).toNat = 0 by omega, Nat.shiftLeft_eq, hcut, show (p - (s : Int) - -1074).toNat = e by omega, word_pos, Nat.min_eq_left (by omega)]
  · rw [V_at _ _ (Nat.le_of_lt hm2) hm3, Nat.mul_assoc, ← Nat.pow_add]
    congr 2
    omega
theorem expF_mono {z r : Nat} (h : z ≤ r) : expF z ≤ expF r := by unfold expF; split <;> split <;> omega
theorem V_man {r : Nat} : V r = manF r * 2 ^ (expF r + 1074).toNat := by
  rw [← val_V, Nat.shiftLeft_eq]
  rfl
theorem sign_no {r : Nat} (h : r < 9218868437227405312) : (r / 9223372036854775808 % 2 == 1) = false := by rw [beq_eq_false_iff_ne]; omega
theorem mag_no {r : Nat} (h : r < 9218868437227405312) : mag r = r := Nat.mod_eq_of_lt (by omega)
/-- The difference of two floats of which the greater is at most twice the other one is exact. -/
theorem sub_exact {r z : Nat} (hr : r < 9218868437227405312) (_hz : 0 < z) (h1 : z ≤ r) (h2 : V r ≤ 2 * V z) :
    ∃ t, floatBits .sub .f64 r z = some t ∧ t < 9218868437227405312 ∧ V t = V r - V z := by
  have hz2 : z < 9218868437227405312 := by omega
  have hE := expF_mono h1
  have hEz := expF_bd hz2
  obtain ⟨k, hk⟩ : ∃ k : Nat, expF r - expF z = (k : Int) := ⟨(expF r - expF z).toNat, by omega⟩
  have hVz := V_man (r := z)
  have hVr := V_man (r := r)
  rw [show (expF r + 1074).toNat = k + (expF z + 1074).toNat by omega, Nat.pow_add, ← Nat.mul_assoc] at hVr
  have hc : 0 < 2 ^ (expF z + 1074).toNat := Nat.pow_pos (by omega)
  have hle := V_le h1
  rw [hVz, hVr] at hle h2
  rw [← Nat.mul_assoc] at h2
  have g1 := Nat.le_of_mul_le_mul_right hle hc
  have g2 := Nat.le_of_mul_le_mul_right h2 hc
  obtain ⟨D, hD⟩ : ∃ D, manF r * 2 ^ k - manF z = D := ⟨_, rfl⟩
  have hn := manF_lt (r := z)
  have hVD : V r - V z = D * 2 ^ (expF z + 1074).toNat := by rw [hVr, hVz, ← Nat.sub_mul, hD]
  rw [hVD]
  show ∃ t, (((Ieee.double.read r).sum (Ieee.double.read z).opposite).map Ieee.double.write) = some t ∧ _
  rw [read_fin (by rw [mag_no hr]; exact hr), read_fin (by rw [mag_no hz2]; exact hz2), mag_no hr, mag_no hz2, sign_no hr, sign_no hz2]
  have htot : Ieee.signed false (manF r) (expF r - min (expF r) (expF z)).toNat + Ieee.signed true (manF z) (expF z - min (expF r) (expF z)).toNat = (D : Int) := by
    rw [show min (expF r) (expF z) = expF z by omega, show (expF z - expF z).toNat = 0 by omega, show (expF r - expF z).toNat = k by omega]
    show ((manF r <<< k : Nat) : Int) + -((manF z <<< 0 : Nat) : Int) = _
    rw [Nat.shiftLeft_eq, Nat.shiftLeft_zero]
    omega
  show ∃ t, some (Ieee.double.write (.number (if Ieee.signed false (manF r) (expF r - min (expF r) (expF z)).toNat + Ieee.signed true (manF z) (expF z - min (expF r) (expF z)).toNat = 0 then false && true else decide (Ieee.signed false (manF r) (expF r - min (expF r) (expF z)).toNat + Ieee.signed true (manF z) (expF z - min (expF r) (expF z)).toNat < 0)) (Ieee.signed false (manF r) (expF r - min (expF r) (expF z)).toNat + Ieee.signed true (manF z) (expF z - min (expF r) (expF z)).toNat).natAbs (min (expF r) (expF z)))) = some t ∧ _
  rw [htot, Int.natAbs_natCast, show min (expF r) (expF z) = expF z by omega]
  rcases Nat.eq_zero_or_pos D with h0 | h0
  · refine ⟨0, ?_, by omega, ?_⟩
    · rw [h0]
      rfl
    · rw [h0, Nat.zero_mul]
      decide
  · rw [if_neg (by omega), decide_eq_false (by omega)]
    obtain ⟨t, h3, h4, h5⟩ := nearest_fit (D := D) (p := expF z) h0 (by omega) hEz.1 hEz.2
    exact ⟨t, congrArg some h3, h4, h5⟩
/-- A float times a power of two. -/
def ldR (y k : Nat) : Nat := if 52 ≤ Lg y + k then (Lg y + k - 51) * 4503599627370496 + (Mt y - 4503599627370496) else y * 2 ^ k
theorem low_fit {y k : Nat} (h : 0 < y) (h2 : Lg y + k < 52) : y < 4503599627370496 ∧ y * 2 ^ k < 4503599627370496 ∧ Lg y = y.log2 := by
  have hy : y < 4503599627370496 := by
    rcases Nat.lt_or_ge y 4503599627370496 with h1 | h1
    · exact h1
    · rw [Lg, if_neg (by omega)] at h2; omega
  have hl : Lg y = y.log2 := by rw [Lg, if_pos hy]
  refine ⟨hy, ?_, hl⟩
  have hb := (log2_bd h).2
  rw [hl] at h2
  have h3 : y * 2 ^ k < 2 ^ (y.log2 + 1) * 2 ^ k := Nat.mul_lt_mul_of_pos_right hb (Nat.pow_pos (by omega))
  rw [← Nat.pow_add] at h3
  refine Nat.lt_of_lt_of_le h3 ?_
  rw [two52]
  exact Nat.pow_le_pow_right (by omega) (by omega)
theorem shift_one {j m : Nat} (h : 4503599627370496 ≤ m) : (j + 1) * 4503599627370496 + (m - 4503599627370496) = j * 4503599627370496 + m := by omega
theorem pow_52 {n : Nat} (h : 52 ≤ n) : 2 ^ (n - 52) * 4503599627370496 = 2 ^ n := by
  have e : 2 ^ n = 2 ^ (n - 52) * 2 ^ 52 := by rw [← Nat.pow_add]; congr 1; omega
  rw [e, ← two52]
theorem V_ldR {y k : Nat} (h : 0 < y) : V (ldR y k) = V y * 2 ^ k := by
  unfold ldR
  by_cases hk : 52 ≤ Lg y + k
  · rw [if_pos hk]
    obtain ⟨b1, b2⟩ := Mt_bd h
    have e : (Lg y + k - 51) * 4503599627370496 + (Mt y - 4503599627370496) = (Lg y + k - 52) * 4503599627370496 + Mt y := by
      clear h
      obtain ⟨j, hj⟩ : ∃ j, Lg y + k - 52 = j := ⟨_, rfl⟩
      rw [hj, show Lg y + k - 51 = j + 1 by omega]
      exact shift_one b1
    rw [e, V_at _ _ (Nat.le_of_lt b2) (Or.inr b1)]
    have hm := V_Mt h
    refine Nat.eq_of_mul_eq_mul_right (show 0 < 4503599627370496 by omega) ?_
    rw [Nat.mul_right_comm (V y), hm, Nat.mul_assoc (Mt y) _ (2 ^ k), ← Nat.pow_add, Nat.mul_assoc]
    exact congrArg (Mt y * ·) (pow_52 hk)
  · rw [if_neg hk]
    obtain ⟨h1, h2, -⟩ := low_fit (k := k) h (by omega)
    rw [V, if_pos h2, V, if_pos h1]
/-- How often a float is doubled till it is next below another one. -/
def modK (r y : Nat) : Nat := Lg r - (Lg y + if Mt r < Mt y then 1 else 0)
theorem mod_step {r y : Nat} (hy : 0 < y) (h : y ≤ r) : Lg y + (if Mt r < Mt y then 1 else 0) ≤ Lg r ∧ 0 < ldR y (modK r y) ∧ ldR y (modK r y) ≤ r ∧ V r ≤ 2 * V (ldR y (modK r y)) := by
  have hr : 0 < r := by omega
  obtain ⟨a1, a2⟩ := Mt_bd hy
  obtain ⟨b1, b2⟩ := Mt_bd hr
  have e1 := V_Mt hy
  have e2 := V_Mt hr
  have hV := V_le h
  have hle : Lg y + (if Mt r < Mt y then 1 else 0) ≤ Lg r := by
    rcases Nat.lt_or_ge (Lg r) (Lg y + (if Mt r < Mt y then 1 else 0)) with hc | hc
    · exfalso
      have h3 : Mt r * 2 ^ Lg r < Mt y * 2 ^ Lg y := by
        split at hc
        · refine Nat.lt_of_lt_of_le (Nat.mul_lt_mul_of_pos_right ‹_› (Nat.pow_pos (by omega))) ?_
          exact Nat.mul_le_mul_left _ (Nat.pow_le_pow_right (by omega) (by omega))
        · have h4 : 2 ^ (Lg r + 1) ≤ 2 ^ Lg y := Nat.pow_le_pow_right (by omega) (by omega)
          rw [Nat.pow_succ] at h4
          have h5 : Mt y * (2 ^ Lg r * 2) ≤ Mt y * 2 ^ Lg y := Nat.mul_le_mul_left _ h4
          have h6 : Mt r * 2 ^ Lg r < Mt y * 2 * 2 ^ Lg r := Nat.mul_lt_mul_of_pos_right (by omega) (Nat.pow_pos (by omega))
          rw [Nat.mul_assoc, Nat.mul_comm 2] at h6
          exact Nat.lt_of_lt_of_le h6 h5
      rw [← e1, ← e2] at h3
      have := Nat.lt_of_mul_lt_mul_right h3
      omega
    · exact hc
  have hVk := V_ldR (y := y) (k := modK r y) hy
  have hsum : Mt y * 2 ^ Lg y * 2 ^ modK r y = Mt y * 2 ^ (Lg r - (if Mt r < Mt y then 1 else 0)) := by
    rw [Nat.mul_assoc, ← Nat.pow_add]
    congr 2
    unfold modK
    omega
  have hV2 : V (ldR y (modK r y)) * 4503599627370496 = Mt y * 2 ^ (Lg r - (if Mt r < Mt y then 1 else 0)) := by
    rw [hVk, Nat.mul_right_comm, e1, hsum]
  have hboth : V (ldR y (modK r y)) ≤ V r ∧ V r ≤ 2 * V (ldR y (modK r y)) := by
    constructor
    · refine Nat.le_of_mul_le_mul_right (c := 4503599627370496) ?_ (by omega)
      rw [hV2, e2]
      split
      · rename_i hlt
        rw [if_pos hlt] at hle
        have e3 : 2 ^ Lg r = 2 ^ (Lg r - 1) * 2 := by rw [← Nat.pow_succ]; congr 1; omega
        rw [e3, Nat.mul_comm (2 ^ (Lg r - 1)), ← Nat.mul_assoc]
        exact Nat.mul_le_mul_right _ (by omega)
      · exact Nat.mul_le_mul_right _ (by omega)
    · refine Nat.le_of_mul_le_mul_right (c := 4503599627370496) ?_ (by omega)
      rw [Nat.mul_assoc, hV2, e2]
      split
      · rename_i hlt
        rw [if_pos hlt] at hle
        have e3 : 2 ^ Lg r = 2 ^ (Lg r - 1) * 2 := by rw [← Nat.pow_succ]; congr 1; omega
        have g : Mt r * 2 ^ (Lg r - 1) ≤ Mt y * 2 ^ (Lg r - 1) := Nat.mul_le_mul_right _ (by omega)
        rw [e3, ← Nat.mul_assoc, Nat.mul_comm 2]
        exact Nat.mul_le_mul_right _ g
      · rw [Nat.sub_zero, ← Nat.mul_assoc]
        exact Nat.mul_le_mul_right _ (by omega)
  refine ⟨hle, ?_, ?_, hboth.2⟩
  · rcases Nat.eq_zero_or_pos (ldR y (modK r y)) with h0 | h0
    · exfalso
      have h1 := hboth.2
      rw [h0] at h1
      have h2 : V 0 = 0 := by decide
      have h3 := V_lt hr
      omega
    · exact h0
  · rcases Nat.lt_or_ge r (ldR y (modK r y)) with h1 | h1
    · have := V_lt h1; omega
    · exact h1
/-- One step takes the float times a power of two away: what is left of the division stays. -/
theorem mod_keep {r y t : Nat} (hy : 0 < y) (h : y ≤ r) (ht : V t = V r - V (ldR y (modK r y))) : t < r ∧ V t % V y = V r % V y := by
  obtain ⟨h1, h2, h3, h4⟩ := mod_step hy h
  have hV := V_le h3
  have hk := V_ldR (y := y) (k := modK r y) hy
  have h0 := V_lt h2
  constructor
  · rcases Nat.lt_or_ge t r with h5 | h5
    · exact h5
    · have := V_le h5
      omega
  · have e : V r = V t + V y * 2 ^ modK r y := by omega
    rw [e, Nat.add_mul_mod_self_left]
/-- Its fraction's bits. -/
def frB (r : Nat) : Nat := 1022 * 4503599627370496 + (Mt r - 4503599627370496)
theorem frB_bd {r : Nat} (h : 0 < r) : frB r < 9218868437227405312 := by
  have := Mt_bd h
  unfold frB
  omega
/-- A normal float: of a lesser one the one 2 to the 52 times as great. -/
def nrm (r : Nat) : Nat := if r < 4503599627370496 then (r.log2 + 1) * 4503599627370496 + (Mt r - 4503599627370496) else r
theorem nrm_split {r : Nat} (h : 0 < r) (h2 : r < 9218868437227405312) : ∃ e : Nat, nrm r = e * 4503599627370496 + (Mt r - 4503599627370496) ∧ 1 ≤ e ∧ e ≤ 2046 ∧ (r < 4503599627370496 → e = Lg r + 1 ∧ Lg r ≤ 51) ∧ (4503599627370496 ≤ r → e + 51 = Lg r) := by
  obtain ⟨b1, b2⟩ := Mt_bd h
  by_cases h1 : r < 4503599627370496
  · have hl := log2_le52 h (by omega)
    have hl2 : r.log2 ≤ 51 := by
      have h3 : 2 ^ r.log2 < 2 ^ 52 := Nat.lt_of_le_of_lt (log2_bd h).1 (by rw [← two52]; exact h1)
      have := (Nat.pow_lt_pow_iff_right (show 1 < 2 by omega)).1 h3
      omega
    refine ⟨r.log2 + 1, by rw [nrm, if_pos h1], by omega, by omega, fun _ => ?_, fun h => by omega⟩
    rw [Lg, if_pos h1]
    omega
  · refine ⟨r / 4503599627370496, ?_, by omega, by omega, fun h => by omega, fun _ => ?_⟩
    · rw [nrm, if_neg h1, Mt, if_neg h1]
      omega
    · rw [Lg, if_neg h1]
theorem mul_52 {r : Nat} (h : 0 < r) (h2 : r < 4503599627370496) : floatBits .mul .f64 r 4841369599423283200 = some (nrm r) := by
  obtain ⟨f1, f2⟩ := full_bd h (by omega)
  have hl := log2_le52 h (by omega)
  show (((Ieee.double.read r).product (Ieee.double.read 4841369599423283200)).map Ieee.double.write) = _
  have hr : r < 9218868437227405312 := by omega
  rw [read_fin (by rw [mag_no hr]; exact hr), mag_no hr, sign_no hr, show Ieee.double.read 4841369599423283200 = .number false 4503599627370496 0 by decide]
  show some (Ieee.double.nearest false (manF r * 4503599627370496) (expF r + 0)) = _
  have hman : manF r = r := by rw [manF, if_pos h2]
  have hexp : expF r = -1074 := by rw [expF, if_pos h2]
  have hx := nearest_exact (m := r * 2 ^ (52 - r.log2)) (j := r.log2) (e := r.log2) (place := -1074 + 0) (by omega) f2 (by omega) (Or.inr f1)
  have hp : r * 4503599627370496 = r * 2 ^ (52 - r.log2) * 2 ^ r.log2 := by
    rw [Nat.mul_assoc, ← Nat.pow_add, show 52 - r.log2 + r.log2 = 52 by omega]
  rw [hman, hexp, hp, hx, nrm, if_pos h2, Mt, if_pos h2, Nat.min_eq_left (by omega), shift_one f1]
end Go.Proofs.YtohickpkkldmdaaGreatDoor

namespace Go.Proofs.YtohickpkkldmdaaGreatDoor
open Go.RowKit Go.Lib

theorem and_expu : ∀ y : Nat, y < 2048 → bits .and .u64 (y : Int) 2047 = (y : Int) := by decide +kernel
def nrE (r : Nat) : Int := if r < 4503599627370496 then -52 else 0
set_option maxRecDepth 100000 in
set_option maxHeartbeats 1000000 in
theorem normalize_low (r : Nat) (w : World) (h0 : 0 < r) (h1 : r < 4503599627370496) : Calls Tryz.prog 238 #[.float .f64 r] w fun e w' => e = .returned (.tuple #[.float .f64 (nrm r), .int .i64 (-52)]) ∧ w = w' := by
  have CA := Lib.hid (abs_any r w (by omega))
  have hm : mag r = r := Nat.mod_eq_of_lt (by omega)
  rw [hm] at CA
  have ho : (FloatKind.f64.format.order r 4503599627370496 == some .lt) = true := by
    show (Ieee.double.order r 4503599627370496 == some .lt) = true
    rw [order_V (by omega) (by omega), Int.compare_eq_lt.2 (by omega)]
    rfl
  have hx := mul_52 h0 h1
  obtain ⟨X, hX⟩ : ∃ X, nrm r = X := ⟨_, rfl⟩
  rw [hX] at hx ⊢
  have hmul : ∀ t W, (binOp .mul t (.float .f64 r) (.float .f64 4841369599423283200)).run Tryz.prog W = .ok (.float .f64 X) W := fun t W => run_float_arith W .mul t .f64 _ _ _ hx
  clear hm hx hX h0 h1
  go_enter Tryz.func238, Tryz.ntmps238
  go_wp2_with fail
  refine CA.out.mono ?_
  rintro e w' ⟨rfl, rfl⟩
  go_wp2_with fail
  go_ret2
  exact ⟨rfl, rfl⟩
theorem normalize_all (r : Nat) (w : World) (h0 : 0 < r) (h : r < 9218868437227405312) : Calls Tryz.prog 238 #[.float .f64 r] w fun e w' => e = .returned (.tuple #[.float .f64 (nrm r), .int .i64 (nrE r)]) ∧ w = w' := by
  unfold nrE
  by_cases h1 : r < 4503599627370496
  · rw [if_pos h1]
    exact normalize_low r w h0 h1
  · rw [if_neg h1, nrm, if_neg h1]
    exact normalize_any r w (by omega) h
theorem from_half (f : Nat) (W : World) : (callFunc 16 #[.int .u64 (4602678819172646912 + (f : Int))]).run Tryz.prog W = .ok (.value (.float .f64 (4602678819172646912 + f))) W := by
  have h := run_f64from (4602678819172646912 + f) W
  rwa [Int.natCast_add] at h
/-- What normalize gives, in pieces. -/
theorem nrm_parts {r : Nat} (h0 : 0 < r) (h : r < 9218868437227405312) : ∃ y f : Nat, ∃ d : Int, nrm r = y * 4503599627370496 + f ∧ nrE r = d ∧ f < 4503599627370496 ∧ Mt r = 4503599627370496 + f ∧ 1 ≤ y ∧ y ≤ 2046 ∧ -52 ≤ d ∧ d ≤ 0 ∧ d + (y : Int) = (Lg r : Int) - 51 := by
  obtain ⟨y, hX, hy1, hy2, hlo, hhi⟩ := nrm_split h0 h
  obtain ⟨b1, b2⟩ := Mt_bd h0
  refine ⟨y, Mt r - 4503599627370496, nrE r, hX, rfl, by omega, by omega, hy1, hy2, ?_⟩
  unfold nrE
  split
  · rename_i h1
    have := hlo h1
    omega
  · rename_i h1
    have := hhi (by omega)
    omega
set_option maxRecDepth 100000 in
set_option maxHeartbeats 1000000 in
theorem frexp_in (r : Nat) (w : World) (h0 : 0 < r) (h : r < 9218868437227405312) : Calls Tryz.prog 198 #[.float .f64 r] w fun e w' => e = .returned (.tuple #[.float .f64 (frB r), .int .i64 ((Lg r : Int) - 1073)]) ∧ w = w' := by
  have C3 := fun W => normalize_all r W h0 h
  obtain ⟨y, f, d, hX, hd, hf, hM, hy1, hy2, hd1, hd2, hs⟩ := nrm_parts h0 h
  have HF := Lib.hid (show frB r = 4602678819172646912 + f by unfold frB; rw [hM]; omega)
  have HE := Lib.hid (show (Lg r : Int) - 1073 = d + ((y : Int) - 1023 + 1) by omega)
  obtain ⟨X, hXX⟩ : ∃ X, nrm r = X := ⟨_, rfl⟩
  rw [hXX, hd] at C3
  rw [hXX] at hX
  have C1 := fun W => isInf_any r W (by omega)
  have C2 := fun W => isNaN_any r W
  rw [inf_no (by rw [mag_no h]; exact h)] at C1
  rw [nan_no (by rw [mag_no h]; omega)] at C2
  have hz := ord_zero_eq h0 h
  have hbits := fun W => run_f64bits X W
  have han := low_andNot f y hf (by omega)
  rw [← hX] at han
  have had := and_expu y (by omega)
  have hdv : (X : Int) / 4503599627370496 = (y : Int) := by omega
  have hor := or_exp f 1022 hf (by omega)
  rw [show (((1022 : Nat) : Int) * 4503599627370496) = 4602678819172646912 by decide] at hor
  have hfr := fun W => from_half f W
  have CI := Lib.hid C1
  have CN := Lib.hid C2
  have CM := Lib.hid C3
  clear C1 C2 C3 hX hXX hd hM hs h h0 hf
  go_enter Tryz.func198, Tryz.ntmps198
  go_wp2_with fail
  refine (CI.out _).mono ?_
  rintro e w' ⟨rfl, rfl⟩
  go_wp2_with fail
  refine (CN.out _).mono ?_
  rintro e w' ⟨rfl, rfl⟩
  go_wp2_with fail
  refine (CM.out _).mono ?_
  rintro e w' ⟨rfl, rfl⟩
  go_wp2
  go_ret2
  exact ⟨by rw [HE.out, HF.out]; rfl, rfl⟩
set_option maxRecDepth 100000 in
theorem frexp_any (r : Nat) (w : World) (h0 : 0 < r) (h : r < 9218868437227405312) : Calls Tryz.prog 152 #[.float .f64 r] w fun e w' => e = .returned (.tuple #[.float .f64 (frB r), .int .i64 ((Lg r : Int) - 1073)]) ∧ w = w' := by
  have CL := Lib.hid (frexp_in r w h0 h)
  obtain ⟨X, hX⟩ : ∃ X, frB r = X := ⟨_, rfl⟩
  obtain ⟨L, hL⟩ : ∃ L, (Lg r : Int) - 1073 = L := ⟨_, rfl⟩
  rw [hX, hL] at CL ⊢
  clear hX hL h0 h
  go_enter Tryz.func152, Tryz.ntmps152
  go_wp2_with fail
  refine CL.out.mono ?_
  rintro e w' ⟨rfl, rfl⟩
  go_wp2
  go_ret2
  exact ⟨rfl, rfl⟩
set_option maxRecDepth 100000 in
set_option maxHeartbeats 1000000 in
theorem ldexp_in (r k : Nat) (w : World) (h0 : 0 < r) (h : r < 9218868437227405312) (hk : Lg r + k ≤ 2097) : Calls Tryz.prog 200 #[.float .f64 r, .int .i64 (k : Int)] w fun e w' => e = .returned (.float .f64 (ldR r k)) ∧ w = w' := by
  have C3 := fun W => normalize_all r W h0 h
  obtain ⟨y, f, d, hX, hd, hf, hM, hy1, hy2, hd1, hd2, hs⟩ := nrm_parts h0 h
  obtain ⟨X, hXX⟩ : ∃ X, nrm r = X := ⟨_, rfl⟩
  rw [hXX, hd] at C3
  rw [hXX] at hX
  have C1 := fun W => isInf_any r W (by omega)
  have C2 := fun W => isNaN_any r W
  rw [inf_no (by rw [mag_no h]; exact h)] at C1
  rw [nan_no (by rw [mag_no h]; omega)] at C2
  have hz := ord_zero_eq h0 h
  have hbits := fun W => run_f64bits X W
  have han := low_andNot f y hf (by omega)
  rw [← hX] at han
  have had := and_exp y (by omega)
  have hdv : (X : Int) / 4503599627370496 = (y : Int) := by omega
  have hp0 : ¬ (1023 : Int) < (k : Int) + d + ((y : Int) - 1023) := by omega
  have hp1 : ¬ (k : Int) + d + ((y : Int) - 1023) < -1075 := by omega
  have CI := Lib.hid C1
  have CN := Lib.hid C2
  have CM := Lib.hid C3
  by_cases hlow : 52 ≤ Lg r + k
  · obtain ⟨q, hq⟩ : ∃ q, Lg r + k - 51 = q := ⟨_, rfl⟩
    have HE := Lib.hid (show ldR r k = q * 4503599627370496 + f by rw [ldR, if_pos hlow, hq, hM]; omega)
    have hor := or_exp f q hf (by omega)
    have hke : (k : Int) + d + ((y : Int) - 1023) + 1023 = (q : Int) := by omega
    have hfr := fun W => from_sum q f W
    have hmo := mul_one (m := 4503599627370496 + f) (k := q) (by omega) (by omega) (by omega) (by omega)
    rw [Nat.add_sub_cancel_left] at hmo
    have hmul : ∀ t W, (binOp .mul t (.float .f64 4607182418800017408) (.float .f64 (q * 4503599627370496 + f))).run Tryz.prog W = .ok (.float .f64 (q * 4503599627370496 + f)) W := fun t W => run_float_arith W .mul t .f64 _ _ _ hmo
    have hp2 : ¬ (k : Int) + d + ((y : Int) - 1023) < -1022 := by omega
    clear C1 C2 C3 hX hXX hd hM hs h h0 hmo hq hlow hf
    go_enter Tryz.func200, Tryz.ntmps200
    go_wp2_with fail
    refine (CI.out _).mono ?_
    rintro e w' ⟨rfl, rfl⟩
    go_wp2_with fail
    refine (CN.out _).mono ?_
    rintro e w' ⟨rfl, rfl⟩
    go_wp2_with fail
    refine (CM.out _).mono ?_
    rintro e w' ⟨rfl, rfl⟩
    go_wp2_with fail
    go_ret
    exact ⟨by rw [HE.out]; rfl, rfl⟩
  · obtain ⟨q, hq⟩ : ∃ q, Lg r + k + 2 = q := ⟨_, rfl⟩
    obtain ⟨l1, l2, l3⟩ := low_fit (k := k) h0 (by omega)
    have HE := Lib.hid (show ldR r k = r * 2 ^ k by rw [ldR, if_neg hlow])
    have hor := or_exp f q hf (by omega)
    have hke : (k : Int) + d + ((y : Int) - 1023) + 53 + 1023 = (q : Int) := by omega
    have hfr := fun W => from_sum q f W
    have hmo := mul_small (m := r * 2 ^ k) (Nat.mul_pos h0 (Nat.pow_pos (by omega))) l2
    have hlg := log2_mul k h0
    have hMr : Mt r = r * 2 ^ (52 - r.log2) := by rw [Mt, if_pos l1]
    rw [hlg, Nat.mul_assoc, ← Nat.pow_add, show k + (52 - (r.log2 + k)) = 52 - r.log2 by omega, ← hMr, hM, Nat.add_sub_cancel_left, ← l3, hq] at hmo
    obtain ⟨R, hR⟩ : ∃ R, r * 2 ^ k = R := ⟨_, rfl⟩
    rw [hR] at hmo HE
    have hmul : ∀ t W, (binOp .mul t (.float .f64 4368491638549381120) (.float .f64 (q * 4503599627370496 + f))).run Tryz.prog W = .ok (.float .f64 R) W := fun t W => run_float_arith W .mul t .f64 _ _ _ hmo
    have hp2 : (k : Int) + d + ((y : Int) - 1023) < -1022 := by omega
    clear C1 C2 C3 hX hXX hd hM hs h h0 hmo hq hlow hf l1 l2 l3 hlg hMr hR
    go_enter Tryz.func200, Tryz.ntmps200
    go_wp2_with fail
    refine (CI.out _).mono ?_
    rintro e w' ⟨rfl, rfl⟩
    go_wp2_with fail
    refine (CN.out _).mono ?_
    rintro e w' ⟨rfl, rfl⟩
    go_wp2_with fail
    refine (CM.out _).mono ?_
    rintro e w' ⟨rfl, rfl⟩
    go_wp2_with fail
    go_ret
    exact ⟨by rw [HE.out]; rfl, rfl⟩
set_option maxRecDepth 100000 in
theorem ldexp_up (r k : Nat) (w : World) (h0 : 0 < r) (h : r < 9218868437227405312) (hk : Lg r + k ≤ 2097) : Calls Tryz.prog 153 #[.float .f64 r, .int .i64 (k : Int)] w fun e w' => e = .returned (.float .f64 (ldR r k)) ∧ w = w' := by
  have CL := Lib.hid (ldexp_in r k w h0 h hk)
  obtain ⟨X, hX⟩ : ∃ X, ldR r k = X := ⟨_, rfl⟩
  rw [hX] at CL ⊢
  clear hX hk h0 h
  go_enter Tryz.func153, Tryz.ntmps153
  go_wp2_with fail
  refine CL.out.mono ?_
  rintro e w' ⟨rfl, rfl⟩
  go_wp2
  go_ret
  exact ⟨rfl, rfl⟩
end Go.Proofs.YtohickpkkldmdaaGreatDoor

namespace Go.Proofs.YtohickpkkldmdaaGreatDoor
open Go.RowKit Go.Lib

theorem xor_top {t : Nat} (h : t < 9223372036854775808) : t ^^^ 9223372036854775808 = 9223372036854775808 + t := by
  have e : (9223372036854775808 : Nat) = 2 ^ 63 := by decide
  apply Nat.eq_of_testBit_eq
  intro i
  rw [Nat.testBit_xor, e, Nat.testBit_two_pow]
  rw [e] at h
  rcases Nat.lt_trichotomy i 63 with h1 | rfl | h1
  · rw [Nat.testBit_two_pow_add_gt h1]
    simp [show ¬ 63 = i by omega]
  · rw [Nat.testBit_two_pow_add_eq, Nat.testBit_lt_two_pow h]
    rfl
  · have h2 : 2 ^ 63 + t < 2 ^ i := Nat.lt_of_lt_of_le (show 2 ^ 63 + t < 2 ^ 64 by omega) (Nat.pow_le_pow_right (by omega) h1)
    rw [Nat.testBit_lt_two_pow h2, Nat.testBit_lt_two_pow (show t < 2 ^ i by omega)]
    simp [show ¬ 63 = i by omega]
theorem neg_pos {t : Nat} (h : t < 9223372036854775808) : Op.negFloat .f64 t = 9223372036854775808 + t := xor_top h
theorem neg_neg' {t : Nat} (h : t < 9223372036854775808) : Op.negFloat .f64 (9223372036854775808 + t) = t := by
  show (9223372036854775808 + t) ^^^ 9223372036854775808 = t
  rw [← xor_top h, Nat.xor_assoc, Nat.xor_self, Nat.xor_zero]
/-- How a float stands to nought. -/
theorem ord0_pos {r : Nat} (h0 : 0 < r) (h : r < 9218868437227405312) : FloatKind.f64.format.order r 0 = some .gt := order_zero h0 h
theorem ord0_neg {r : Nat} (h0 : 0 < r) (h : r < 9218868437227405312) : FloatKind.f64.format.order (9223372036854775808 + r) 0 = some .lt := by
  have hm : mag (9223372036854775808 + r) = r := by unfold mag; omega
  show Ieee.double.order (9223372036854775808 + r) 0 = some .lt
  unfold Ieee.Format.order
  rw [read_fin (by rw [hm]; exact h), hm, show Ieee.double.read 0 = .number false 0 (-1074) by decide, show ((9223372036854775808 + r) / 9223372036854775808 % 2 == 1) = true by rw [beq_iff_eq]; omega]
  have he : -1074 ≤ expF r := (expF_lo r)
  have hp : 0 < manF r := by unfold manF; split <;> omega
  show some (compare _ _) = _
  rw [show min (expF r) (-1074) = -1074 by omega]
  have h1 : Ieee.signed false 0 ((-1074 : Int) - -1074).toNat = 0 := by decide
  have h2 : Ieee.signed true (manF r) (expF r - -1074).toNat < 0 := by
    show -((manF r <<< _ : Nat) : Int) < 0
    rw [Nat.shiftLeft_eq]
    have := Nat.mul_pos hp (Nat.pow_pos (n := (expF r - -1074).toNat) (show 0 < 2 by omega))
    omega
  rw [h1]
  exact congrArg some (Int.compare_eq_lt.2 h2)
theorem V_pos {r : Nat} (h : 0 < r) : 0 < V r := by
  have h1 := V_lt h
  have h2 : V 0 = 0 := by decide
  omega
theorem frB_lt {r s : Nat} (h : Mt r < Mt s) (hr : 0 < r) (hs : 0 < s) : FloatKind.f64.format.order (frB r) (frB s) = some .lt := by
  show Ieee.double.order (frB r) (frB s) = some .lt
  rw [order_V (frB_bd hr) (frB_bd hs)]
  have := Mt_bd hr
  have := Mt_bd hs
  exact congrArg some (Int.compare_eq_lt.2 (by unfold frB; omega))
theorem frB_ge {r s : Nat} (h : ¬ Mt r < Mt s) (hr : 0 < r) (hs : 0 < s) : (FloatKind.f64.format.order (frB r) (frB s) == some .lt) = false := by
  show (Ieee.double.order (frB r) (frB s) == some .lt) = false
  rw [order_V (frB_bd hr) (frB_bd hs)]
  have := Mt_bd hr
  have := Mt_bd hs
  rcases (by omega : Mt s < Mt r ∨ Mt s = Mt r) with h1 | h1
  · rw [Int.compare_eq_gt.2 (by unfold frB; omega)]; rfl
  · rw [Int.compare_eq_eq.2 (by unfold frB; omega)]; rfl
def flOf : Value → Nat | .float _ b => b | _ => 0
theorem Lg_le {r : Nat} (h : r < 9218868437227405312) : Lg r ≤ 2097 := by
  unfold Lg
  split
  · rcases Nat.eq_zero_or_pos r with h0 | h0
    · subst h0; decide
    · have := log2_le52 h0 (by omega); omega
  · omega
/-- One round of the division's loop. -/
structure ModStep (r y K Z t : Nat) : Prop where
  kk : Lg y + K + (if Mt r < Mt y then 1 else 0) = Lg r
  top : Lg y + K ≤ 2097
  z : ldR y K = Z
  sub : floatBits .sub .f64 r Z = some t
  t1 : t < 9218868437227405312
  lt : t < r
  keep : V t % V y = V r % V y
theorem mod_one {r y : Nat} (hy : 0 < y) (h : y ≤ r) (hr : r < 9218868437227405312) : ∃ K Z t, ModStep r y K Z t := by
  obtain ⟨h1, h2, h3, h4⟩ := mod_step hy h
  obtain ⟨t, g1, g2, g3⟩ := sub_exact hr h2 h3 h4
  obtain ⟨g4, g5⟩ := mod_keep hy h g3
  have hl := Lg_le hr
  refine ⟨modK r y, ldR y (modK r y), t, ⟨?_, ?_, rfl, g1, g2, g4, g5⟩⟩
  · unfold modK; omega
  · unfold modK; omega
def ModLoop (v : Nat) (y : Nat) (rv : Value) : Prop := ∃ r, rv = .float .f64 r ∧ r < 9218868437227405312 ∧ V r % V y = v
def ModEnd (w : World) (s v : Nat) (e : Ending) (w' : World) : Prop := ∃ t, e = .returned (.float .f64 (s + t)) ∧ t < 9218868437227405312 ∧ V t = v ∧ w = w'
theorem order_c0 {c : Nat} (h0 : 0 < mag c) (h : mag c ≤ 9218868437227405312) : (FloatKind.f64.format.order c 0 == some .eq) = false := by
  rcases (by omega : mag c < 9218868437227405312 ∨ mag c = 9218868437227405312) with h1 | h1
  · exact order_nz h0 h1
  · show (Ieee.double.order c 0 == some .eq) = false
    unfold Ieee.Format.order
    rw [read_inf h1, show Ieee.double.read 0 = .number false 0 (-1074) by decide]
    show ((some (if (c / 9223372036854775808 % 2 == 1) = true then Ordering.lt else .gt)) == some .eq) = false
    split <;> rfl
theorem order_c0_nan {c : Nat} (h : 9218868437227405312 < mag c) : (FloatKind.f64.format.order c 0 == some .eq) = false := by
  show (Ieee.double.order c 0 == some .eq) = false
  unfold Ieee.Format.order
  rw [read_nan h]
  rfl
theorem order_c0_zero {c : Nat} (h : mag c = 0) : (FloatKind.f64.format.order c 0 == some .eq) = true := zero_read h
theorem ord0_mz : FloatKind.f64.format.order 9223372036854775808 0 = some .eq := by decide
theorem ordmz_pos {y : Nat} (h0 : 0 < y) (h : y ≤ 9218868437227405312) : FloatKind.f64.format.order 9223372036854775808 y = some .lt := by
  show Ieee.double.order 9223372036854775808 y = some .lt
  unfold Ieee.Format.order
  rw [show Ieee.double.read 9223372036854775808 = .number true 0 (-1074) by decide]
  rcases (by omega : y < 9218868437227405312 ∨ y = 9218868437227405312) with h1 | h1
  · rw [read_fin (by rw [mag_no h1]; exact h1), mag_no h1, sign_no h1]
    show some (compare _ _) = _
    have he : -1074 ≤ expF y := (expF_lo y)
    have hp : 0 < manF y := by unfold manF; split <;> omega
    rw [show min (-1074) (expF y) = -1074 by omega]
    have h1 : Ieee.signed true 0 ((-1074 : Int) - -1074).toNat = 0 := by decide
    have h2 : 0 < Ieee.signed false (manF y) (expF y - -1074).toNat := by
      show (0 : Int) < ((manF y <<< _ : Nat) : Int)
      rw [Nat.shiftLeft_eq]
      have := Nat.mul_pos hp (Nat.pow_pos (n := (expF y - -1074).toNat) (show 0 < 2 by omega))
      omega
    rw [h1]
    exact congrArg some (Int.compare_eq_lt.2 h2)
  · subst h1; decide
set_option maxRecDepth 100000 in
set_option maxHeartbeats 1000000 in
theorem frexp_inf (w : World) : Calls Tryz.prog 152 #[.float .f64 9218868437227405312] w fun e w' => e = .returned (.tuple #[.float .f64 9218868437227405312, .int .i64 0]) ∧ w = w' := by
  have C1 := fun W => isInf_any 9218868437227405312 W (by omega)
  rw [inf_yes (by decide)] at C1
  have z1 : (FloatKind.f64.format.order 9218868437227405312 0 == some .eq) = false := by decide
  have CI := Lib.hid C1
  clear C1
  have CL : ∀ W, Calls Tryz.prog 198 #[.float .f64 9218868437227405312] W fun e w' => e = .returned (.tuple #[.float .f64 9218868437227405312, .int .i64 0]) ∧ W = w' := fun W => by
    go_enter Tryz.func198, Tryz.ntmps198
    go_wp2_with fail
    refine (CI.out _).mono ?_
    rintro e w' ⟨rfl, rfl⟩
    go_wp2
    go_ret2
    exact ⟨rfl, rfl⟩
  have CL := Lib.hid CL
  go_enter Tryz.func152, Tryz.ntmps152
  go_wp2_with fail
  refine (CL.out _).mono ?_
  rintro e w' ⟨rfl, rfl⟩
  go_wp2
  go_ret2
  exact ⟨rfl, rfl⟩
theorem frexp_le (y : Nat) (h0 : 0 < y) (h : y ≤ 9218868437227405312) : ∃ F : Nat, ∃ L : Int, (∀ w, Calls Tryz.prog 152 #[.float .f64 y] w fun e w' => e = .returned (.tuple #[.float .f64 F, .int .i64 L]) ∧ w = w') ∧ -1073 ≤ L ∧ L ≤ 1024 ∧ (y < 9218868437227405312 → frB y = F ∧ (Lg y : Int) - 1073 = L) := by
  rcases (by omega : y < 9218868437227405312 ∨ y = 9218868437227405312) with h1 | h1
  · have := Lg_le h1
    exact ⟨_, _, fun w => frexp_any y w h0 h1, by omega, by omega, fun _ => ⟨rfl, rfl⟩⟩
  · subst h1
    exact ⟨_, _, fun w => frexp_inf w, by omega, by omega, fun h => absurd h (by omega)⟩
set_option maxRecDepth 100000 in
set_option maxHeartbeats 4000000 in
theorem mod_pos (a c y : Nat) (w : World) (ha : a < 9218868437227405312) (hc : c < 18446744073709551616) (hy : mag c = y) (hy0 : 0 < y) (hyi : y ≤ 9218868437227405312) :
    Calls Tryz.prog 105 #[.float .f64 a, .float .f64 c] w (ModEnd w 0 (V a % V y)) := by
  have z1 := order_c0 (c := c) (by rw [hy]; exact hy0) (by rw [hy]; exact hyi)
  have hma : mag a = a := by exact mag_no ha
  have hab : a < 18446744073709551616 := by omega
  have hmi := ha
  have C1 := Lib.hid (fun W => isInf_any a W hab)
  have C2 := Lib.hid (fun W => isNaN_any a W)
  have C3 := Lib.hid (fun W => isNaN_any c W)
  rw [inf_no (by rw [hma]; exact hmi)] at C1
  rw [nan_no (by rw [hma]; omega)] at C2
  rw [nan_no (by rw [hy]; exact hyi)] at C3
  have CA := Lib.hid (fun W => abs_any c W hc)
  rw [hy] at CA
  have z2 : (FloatKind.f64.format.order a 0 == some .lt) = false := by
    rcases Nat.eq_zero_or_pos a with h | h
    · subst h; decide
    · exact ord_zero_lt h ha
  obtain ⟨F, L, fy, hL1, hL2, hFL⟩ := frexp_le y hy0 hyi
  have FY := Lib.hid fy
  have HFL := Lib.hid hFL
  obtain ⟨v, hv⟩ : ∃ v, V a % V y = v := ⟨_, rfl⟩
  rw [hv]
  have HV := Lib.hid hv
  clear hy hFL fy hv hma hmi
  go_enter Tryz.func105, Tryz.ntmps105
  go_wp2_with fail
  refine (C1.out _).mono ?_
  rintro e w' ⟨rfl, rfl⟩
  go_wp2_with fail
  refine (C2.out _).mono ?_
  rintro e w' ⟨rfl, rfl⟩
  go_wp2_with fail
  refine (C3.out _).mono ?_
  rintro e w' ⟨rfl, rfl⟩
  go_wp2_with fail
  refine (CA.out _).mono ?_
  rintro e w' ⟨rfl, rfl⟩
  go_wp2_with fail
  refine (FY.out _).mono ?_
  rintro e w' ⟨rfl, rfl⟩
  go_wp2_with fail
  go_loop [7] (ModLoop v y) (fun rv => flOf rv)
  case atStart => exact ⟨a, rfl, ha, HV.out⟩
  case round =>
    obtain ⟨r, rfl, hr, hk⟩ := hrel
    have HK := Lib.hid hk
    clear hk
    by_cases hle : y ≤ r
    · have hyf : y < 9218868437227405312 := by omega
      obtain ⟨hF, hL⟩ := HFL.out hyf
      obtain ⟨K, Z, t, S⟩ := mod_one hy0 hle hr
      have hord : FloatKind.f64.format.order r y = some .gt ∨ FloatKind.f64.format.order r y = some .eq := by
        have ho : FloatKind.f64.format.order r y = some (compare (r : Int) (y : Int)) := order_V hr hyf
        rw [ho]
        rcases (by omega : y < r ∨ y = r) with h1 | h1
        · left; rw [Int.compare_eq_gt.2 (by omega)]
        · right; rw [Int.compare_eq_eq.2 (by omega)]
      have fr := fun W => frexp_any r W (by omega) hr
      obtain ⟨G, hG⟩ : ∃ G, frB r = G := ⟨_, rfl⟩
      obtain ⟨M, hM⟩ : ∃ M, (Lg r : Int) - 1073 = M := ⟨_, rfl⟩
      have hMb : -1073 ≤ M ∧ M ≤ 1024 := by have := Lg_le hr; omega
      obtain ⟨hM1, hM2⟩ := hMb
      rw [hG, hM] at fr
      have FR := Lib.hid fr
      have ld := fun W => ldexp_up y K W hy0 hyf S.top
      rw [S.z] at ld
      have LD := Lib.hid ld
      have hsub : ∀ T W, (binOp .sub T (.float .f64 r) (.float .f64 Z)).run Tryz.prog W = .ok (.float .f64 t) W := fun T W => run_float_arith W .sub T .f64 _ _ _ S.sub
      have HS := Lib.hid S
      have hk := S.kk
      have hrp : 0 < r := by omega
      by_cases hlt : Mt r < Mt y
      · rw [if_pos hlt] at hk
        have hkk : M - 1 - L = (K : Int) := by omega
        have hfl : FloatKind.f64.format.order G F = some .lt := by
          rw [← hG, ← hF]
          exact frB_lt hlt hrp hy0
        clear fr hG hM ld hk hlt S hF hL hyf
        rcases hord with ho | ho
        all_goals
          go_wp2_with fail
          refine (FR.out _).mono ?_
          rintro e w' ⟨rfl, rfl⟩
          go_wp2_with fail
          refine (LD.out _).mono ?_
          rintro e w' ⟨rfl, rfl⟩
          go_wp2_with fail
          go_round
          case rel => exact ⟨t, rfl, HS.out.t1, HS.out.keep.trans HK.out⟩
          case measure => exact HS.out.lt
      · rw [if_neg hlt] at hk
        have hkk : M - L = (K : Int) := by omega
        have hfl : (FloatKind.f64.format.order G F == some .lt) = false := by
          rw [← hG, ← hF]
          exact frB_ge hlt hrp hy0
        clear fr hG hM ld hk hlt S hF hL hyf
        rcases hord with ho | ho
        all_goals
          go_wp2_with fail
          refine (FR.out _).mono ?_
          rintro e w' ⟨rfl, rfl⟩
          go_wp2_with fail
          refine (LD.out _).mono ?_
          rintro e w' ⟨rfl, rfl⟩
          go_wp2_with fail
          go_round
          case rel => exact ⟨t, rfl, HS.out.t1, HS.out.keep.trans HK.out⟩
          case measure => exact HS.out.lt
    · have hord : FloatKind.f64.format.order r y = some .lt := by
        have ho : FloatKind.f64.format.order r y = some (compare (r : Int) (y : Int)) := order_le (by omega) hyi
        rw [ho, Int.compare_eq_lt.2 (by omega)]
      have HE := Lib.hid (show V r = v by have h := HK.out; rwa [Nat.mod_eq_of_lt (V_lt (by omega))] at h)
      go_wp2_with fail
      go_ret
      exact ⟨r, by rw [Nat.zero_add]; rfl, hr, HE.out, rfl⟩
set_option maxRecDepth 100000 in
set_option maxHeartbeats 4000000 in
theorem mod_neg (a r0 c y : Nat) (w : World) (hr0 : 0 < r0) (hr1 : r0 < 9218868437227405312) (hA : a = 9223372036854775808 + r0) (hc : c < 18446744073709551616) (hy : mag c = y) (hy0 : 0 < y) (hyi : y ≤ 9218868437227405312) :
    Calls Tryz.prog 105 #[.float .f64 a, .float .f64 c] w (ModEnd w 9223372036854775808 (V r0 % V y)) := by
  have z1 := order_c0 (c := c) (by rw [hy]; exact hy0) (by rw [hy]; exact hyi)
  have hma : mag a = r0 := by rw [hA]; unfold mag; omega
  have hab : a < 18446744073709551616 := by omega
  have hmi := hr1
  have C1 := Lib.hid (fun W => isInf_any a W hab)
  have C2 := Lib.hid (fun W => isNaN_any a W)
  have C3 := Lib.hid (fun W => isNaN_any c W)
  rw [inf_no (by rw [hma]; exact hmi)] at C1
  rw [nan_no (by rw [hma]; omega)] at C2
  rw [nan_no (by rw [hy]; exact hyi)] at C3
  have CA := Lib.hid (fun W => abs_any c W hc)
  rw [hy] at CA
  have z2 : FloatKind.f64.format.order a 0 = some .lt := by rw [hA]; exact ord0_neg hr0 hr1
  have hng : Op.negFloat .f64 a = r0 := by rw [hA]; exact neg_neg' (by omega)
  obtain ⟨F, L, fy, hL1, hL2, hFL⟩ := frexp_le y hy0 hyi
  have FY := Lib.hid fy
  have HFL := Lib.hid hFL
  obtain ⟨v, hv⟩ : ∃ v, V r0 % V y = v := ⟨_, rfl⟩
  rw [hv]
  have HV := Lib.hid hv
  clear hy hFL fy hv hma hmi
  clear hA hab
  go_enter Tryz.func105, Tryz.ntmps105
  go_wp2_with fail
  refine (C1.out _).mono ?_
  rintro e w' ⟨rfl, rfl⟩
  go_wp2_with fail
  refine (C2.out _).mono ?_
  rintro e w' ⟨rfl, rfl⟩
  go_wp2_with fail
  refine (C3.out _).mono ?_
  rintro e w' ⟨rfl, rfl⟩
  go_wp2_with fail
  refine (CA.out _).mono ?_
  rintro e w' ⟨rfl, rfl⟩
  go_wp2_with fail
  refine (FY.out _).mono ?_
  rintro e w' ⟨rfl, rfl⟩
  go_wp2_with (simp only [run_neg, hng])
  go_loop [7] (ModLoop v y) (fun rv => flOf rv)
  case atStart => exact ⟨r0, rfl, hr1, HV.out⟩
  case round =>
    obtain ⟨r, rfl, hr, hk⟩ := hrel
    have HK := Lib.hid hk
    clear hk
    by_cases hle : y ≤ r
    · have hyf : y < 9218868437227405312 := by omega
      obtain ⟨hF, hL⟩ := HFL.out hyf
      obtain ⟨K, Z, t, S⟩ := mod_one hy0 hle hr
      have hord : FloatKind.f64.format.order r y = some .gt ∨ FloatKind.f64.format.order r y = some .eq := by
        have ho : FloatKind.f64.format.order r y = some (compare (r : Int) (y : Int)) := order_V hr hyf
        rw [ho]
        rcases (by omega : y < r ∨ y = r) with h1 | h1
        · left; rw [Int.compare_eq_gt.2 (by omega)]
        · right; rw [Int.compare_eq_eq.2 (by omega)]
      have fr := fun W => frexp_any r W (by omega) hr
      obtain ⟨G, hG⟩ : ∃ G, frB r = G := ⟨_, rfl⟩
      obtain ⟨M, hM⟩ : ∃ M, (Lg r : Int) - 1073 = M := ⟨_, rfl⟩
      have hMb : -1073 ≤ M ∧ M ≤ 1024 := by have := Lg_le hr; omega
      obtain ⟨hM1, hM2⟩ := hMb
      rw [hG, hM] at fr
      have FR := Lib.hid fr
      have ld := fun W => ldexp_up y K W hy0 hyf S.top
      rw [S.z] at ld
      have LD := Lib.hid ld
      have hsub : ∀ T W, (binOp .sub T (.float .f64 r) (.float .f64 Z)).run Tryz.prog W = .ok (.float .f64 t) W := fun T W => run_float_arith W .sub T .f64 _ _ _ S.sub
      have HS := Lib.hid S
      have hk := S.kk
      have hrp : 0 < r := by omega
      by_cases hlt : Mt r < Mt y
      · rw [if_pos hlt] at hk
        have hkk : M - 1 - L = (K : Int) := by omega
        have hfl : FloatKind.f64.format.order G F = some .lt := by
          rw [← hG, ← hF]
          exact frB_lt hlt hrp hy0
        clear fr hG hM ld hk hlt S hF hL hyf
        rcases hord with ho | ho
        all_goals
          go_wp2_with fail
          refine (FR.out _).mono ?_
          rintro e w' ⟨rfl, rfl⟩
          go_wp2_with fail
          refine (LD.out _).mono ?_
          rintro e w' ⟨rfl, rfl⟩
          go_wp2_with fail
          go_round
          case rel => exact ⟨t, rfl, HS.out.t1, HS.out.keep.trans HK.out⟩
          case measure => exact HS.out.lt
      · rw [if_neg hlt] at hk
        have hkk : M - L = (K : Int) := by omega
        have hfl : (FloatKind.f64.format.order G F == some .lt) = false := by
          rw [← hG, ← hF]
          exact frB_ge hlt hrp hy0
        clear fr hG hM ld hk hlt S hF hL hyf
        rcases hord with ho | ho
        all_goals
          go_wp2_with fail
          refine (FR.out _).mono ?_
          rintro e w' ⟨rfl, rfl⟩
          go_wp2_with fail
          refine (LD.out _).mono ?_
          rintro e w' ⟨rfl, rfl⟩
          go_wp2_with fail
          go_round
          case rel => exact ⟨t, rfl, HS.out.t1, HS.out.keep.trans HK.out⟩
          case measure => exact HS.out.lt
    · have hord : FloatKind.f64.format.order r y = some .lt := by
        have ho : FloatKind.f64.format.order r y = some (compare (r : Int) (y : Int)) := order_le (by omega) hyi
        rw [ho, Int.compare_eq_lt.2 (by omega)]
      have HE := Lib.hid (show V r = v by have h := HK.out; rwa [Nat.mod_eq_of_lt (V_lt (by omega))] at h)
      have hn2 : Op.negFloat .f64 r = 9223372036854775808 + r := neg_pos (by omega)
      go_wp2_with (simp only [run_neg, hn2])
      go_ret
      exact ⟨r, rfl, hr, HE.out, rfl⟩
set_option maxRecDepth 100000 in
set_option maxHeartbeats 4000000 in
theorem mod_nz (a c y : Nat) (w : World) (hA : a = 9223372036854775808) (hc : c < 18446744073709551616) (hy : mag c = y) (hy0 : 0 < y) (hyi : y ≤ 9218868437227405312) :
    Calls Tryz.prog 105 #[.float .f64 a, .float .f64 c] w (ModEnd w 9223372036854775808 (V 0 % V y)) := by
  have z1 := order_c0 (c := c) (by rw [hy]; exact hy0) (by rw [hy]; exact hyi)
  have hma : mag a = 0 := by rw [hA]; decide
  have hab : a < 18446744073709551616 := by omega
  have hmi : 0 < 9218868437227405312 := by omega
  have C1 := Lib.hid (fun W => isInf_any a W hab)
  have C2 := Lib.hid (fun W => isNaN_any a W)
  have C3 := Lib.hid (fun W => isNaN_any c W)
  rw [inf_no (by rw [hma]; exact hmi)] at C1
  rw [nan_no (by rw [hma]; omega)] at C2
  rw [nan_no (by rw [hy]; exact hyi)] at C3
  have CA := Lib.hid (fun W => abs_any c W hc)
  rw [hy] at CA
  have z2 : FloatKind.f64.format.order a 0 = some .eq := by rw [hA]; exact ord0_mz
  have z3 : FloatKind.f64.format.order a y = some .lt := by rw [hA]; exact ordmz_pos hy0 hyi
  obtain ⟨F, L, fy, hL1, hL2, hFL⟩ := frexp_le y hy0 hyi
  have FY := Lib.hid fy
  have HFL := Lib.hid hFL
  obtain ⟨v, hv⟩ : ∃ v, V 0 % V y = v := ⟨_, rfl⟩
  rw [hv]
  have HV := Lib.hid hv
  clear hy hFL fy hv hma hmi
  have HA := Lib.hid hA
  clear hA
  go_enter Tryz.func105, Tryz.ntmps105
  go_wp2_with fail
  refine (C1.out _).mono ?_
  rintro e w' ⟨rfl, rfl⟩
  go_wp2_with fail
  refine (C2.out _).mono ?_
  rintro e w' ⟨rfl, rfl⟩
  go_wp2_with fail
  refine (C3.out _).mono ?_
  rintro e w' ⟨rfl, rfl⟩
  go_wp2_with fail
  refine (CA.out _).mono ?_
  rintro e w' ⟨rfl, rfl⟩
  go_wp2_with fail
  refine (FY.out _).mono ?_
  rintro e w' ⟨rfl, rfl⟩
  go_wp2_with fail
  go_loop [7] (fun rv => rv = .float .f64 a) (fun rv => flOf rv)
  case atStart => exact rfl
  case round =>
    obtain rfl := hrel
    go_wp2_with fail
    go_ret
    exact ⟨0, by rw [HA.out]; rfl, by omega, by rw [← HV.out, Nat.mod_eq_of_lt (V_lt hy0)], rfl⟩
theorem mod_in (a c : Nat) (w : World) (ha : a < 18446744073709551616) (hc : c < 18446744073709551616) (hma : mag a < 9218868437227405312) (h0 : 0 < mag c) (h1 : mag c ≤ 9218868437227405312) :
    Calls Tryz.prog 105 #[.float .f64 a, .float .f64 c] w (ModEnd w (sgn a) (V (mag a) % V (mag c))) := by
  have hs := sgn_mag a ha
  rcases (by unfold sgn; omega : sgn a = 0 ∨ sgn a = 9223372036854775808) with h | h
  · rw [h]
    have e : mag a = a := by omega
    rw [e] at hma ⊢
    exact mod_pos a c _ w hma hc rfl h0 h1
  · rw [h]
    rcases Nat.eq_zero_or_pos (mag a) with hz | hz
    · rw [hz]
      exact mod_nz a c _ w (by omega) hc rfl h0 h1
    · exact mod_neg a (mag a) c _ w hz hma (by omega) hc rfl h0 h1
set_option maxRecDepth 100000 in
theorem nan_call (w : World) : Calls Tryz.prog 151 #[] w fun e w' => e = .returned (.float .f64 9221120237041090561) ∧ w = w' := by
  have h1 : ∀ W : World, (callFunc 16 #[.int .u64 9221120237041090561]).run Tryz.prog W = .ok (.value (.float .f64 9221120237041090561)) W := fun W => run_f64from 9221120237041090561 W
  go_enter Tryz.func151, Tryz.ntmps151
  go_wp2
  go_ret
  exact ⟨rfl, rfl⟩
set_option maxRecDepth 100000 in
set_option maxHeartbeats 4000000 in
theorem mod_no (a c : Nat) (w : World) (ha : a < 18446744073709551616) (h : (FloatKind.f64.format.order c 0 == some .eq) = true ∨ infB a = true ∨ nanB a = true ∨ nanB c = true) :
    Calls Tryz.prog 105 #[.float .f64 a, .float .f64 c] w fun e w' => e = .returned (.float .f64 9221120237041090561) ∧ w = w' := by
  have C1 := fun W => isInf_any a W ha
  have C2 := fun W => isNaN_any a W
  have C3 := fun W => isNaN_any c W
  have CN := Lib.hid (fun W => nan_call W)
  cases e0 : (FloatKind.f64.format.order c 0 == some .eq) with
  | true =>
    clear C1 C2 C3 h
    go_enter Tryz.func105, Tryz.ntmps105
    go_wp2_with fail
    refine (CN.out _).mono ?_
    rintro e w' ⟨rfl, rfl⟩
    go_wp2_with fail
    go_ret
    exact ⟨rfl, rfl⟩
  | false =>
    cases e1 : infB a with
    | true =>
      rw [e1] at C1
      have C1 := Lib.hid C1
      clear C2 C3 h e1
      go_enter Tryz.func105, Tryz.ntmps105
      go_wp2_with fail
      refine (C1.out _).mono ?_
      rintro e w' ⟨rfl, rfl⟩
      go_wp2_with fail
      refine (CN.out _).mono ?_
      rintro e w' ⟨rfl, rfl⟩
      go_wp2_with fail
      go_ret
      exact ⟨rfl, rfl⟩
    | false =>
      cases e2 : nanB a with
      | true =>
        rw [e1] at C1
        rw [e2] at C2
        have C1 := Lib.hid C1
        have C2 := Lib.hid C2
        clear C3 h e1 e2
        go_enter Tryz.func105, Tryz.ntmps105
        go_wp2_with fail
        refine (C1.out _).mono ?_
        rintro e w' ⟨rfl, rfl⟩
        go_wp2_with fail
        refine (C2.out _).mono ?_
        rintro e w' ⟨rfl, rfl⟩
        go_wp2_with fail
        refine (CN.out _).mono ?_
        rintro e w' ⟨rfl, rfl⟩
        go_wp2_with fail
        go_ret
        exact ⟨rfl, rfl⟩
      | false =>
        have e3 : nanB c = true := by
          rcases h with h | h | h | h
          · rw [e0] at h; cases h
          · rw [e1] at h; cases h
          · rw [e2] at h; cases h
          · exact h
        rw [e1] at C1
        rw [e2] at C2
        rw [e3] at C3
        have C1 := Lib.hid C1
        have C2 := Lib.hid C2
        have C3 := Lib.hid C3
        clear h e1 e2 e3
        go_enter Tryz.func105, Tryz.ntmps105
        go_wp2_with fail
        refine (C1.out _).mono ?_
        rintro e w' ⟨rfl, rfl⟩
        go_wp2_with fail
        refine (C2.out _).mono ?_
        rintro e w' ⟨rfl, rfl⟩
        go_wp2_with fail
        refine (C3.out _).mono ?_
        rintro e w' ⟨rfl, rfl⟩
        go_wp2_with fail
        refine (CN.out _).mono ?_
        rintro e w' ⟨rfl, rfl⟩
        go_wp2_with fail
        go_ret
        exact ⟨rfl, rfl⟩
/-- What is left of a division: one of the two answers. -/
def ModRes (a c : Nat) (w : World) (e : Ending) (w' : World) : Prop :=
  ∃ z, e = .returned (.float .f64 z) ∧ w = w' ∧ ((mag a < 9218868437227405312 ∧ 0 < mag c ∧ mag c ≤ 9218868437227405312 ∧ ∃ t, z = sgn a + t ∧ t < 9218868437227405312 ∧ V t = V (mag a) % V (mag c)) ∨
    ((mag c = 0 ∨ 9218868437227405312 ≤ mag a ∨ 9218868437227405312 < mag c) ∧ z = 9221120237041090561))
theorem mod_all (a c : Nat) (w : World) (ha : a < 18446744073709551616) (hc : c < 18446744073709551616) : Calls Tryz.prog 105 #[.float .f64 a, .float .f64 c] w (ModRes a c w) := by
  by_cases h : mag a < 9218868437227405312 ∧ 0 < mag c ∧ mag c ≤ 9218868437227405312
  · refine (mod_in a c w ha hc h.1 h.2.1 h.2.2).mono ?_
    rintro e w' ⟨t, rfl, h1, h2, rfl⟩
    exact ⟨_, rfl, rfl, Or.inl ⟨h.1, h.2.1, h.2.2, t, rfl, h1, h2⟩⟩
  · have hz : mag c = 0 ∨ 9218868437227405312 ≤ mag a ∨ 9218868437227405312 < mag c := by omega
    have hcase : (FloatKind.f64.format.order c 0 == some .eq) = true ∨ infB a = true ∨ nanB a = true ∨ nanB c = true := by
      rcases hz with h1 | h1 | h1
      · exact Or.inl (order_c0_zero h1)
      · rcases (by omega : mag a = 9218868437227405312 ∨ 9218868437227405312 < mag a) with h2 | h2
        · exact Or.inr (Or.inl (inf_yes h2))
        · exact Or.inr (Or.inr (Or.inl (nan_yes h2)))
      · exact Or.inr (Or.inr (Or.inr (nan_yes h1)))
    refine (mod_no a c w ha hcase).mono ?_
    rintro e w' ⟨rfl, rfl⟩
    exact ⟨_, rfl, rfl, Or.inr ⟨hz, rfl⟩⟩
set_option maxRecDepth 100000 in
theorem mathMod_any (a c : Nat) (w : World) (ha : a < 18446744073709551616) (hc : c < 18446744073709551616) : Calls Tryz.prog 59 #[.float .f64 a, .float .f64 c] w (ModRes a c w) := by
  have C := Lib.hid (mod_all a c w ha hc)
  clear ha hc
  go_enter Tryz.func59, Tryz.ntmps59
  go_wp2_with fail
  refine C.out.mono ?_
  rintro e w' ⟨z, rfl, rfl, hz⟩
  have HZ := Lib.hid hz
  clear hz
  go_wp2
  go_ret
  exact ⟨z, rfl, rfl, HZ.out⟩
set_option maxRecDepth 100000 in
theorem numMod_any (a c : Nat) (w : World) (ha : a < 18446744073709551616) (hc : c < 18446744073709551616) : Calls Tryz.prog 24 #[.float .f64 a, .float .f64 c] w (ModRes a c w) := by
  have C := Lib.hid (mathMod_any a c w ha hc)
  clear ha hc
  go_enter Tryz.func24, Tryz.ntmps24
  go_wp2_with fail
  refine C.out.mono ?_
  rintro e w' ⟨z, rfl, rfl, hz⟩
  have HZ := Lib.hid hz
  clear hz
  go_wp2
  go_ret
  exact ⟨z, rfl, rfl, HZ.out⟩
end Go.Proofs.YtohickpkkldmdaaGreatDoor

namespace Go.Proofs.YtohickpkkldmdaaGreatDoor
open Go.RowKit Go.Lib

theorem decD (u : Nat) : Lib.decDigits u = decs u := by
  induction u using Nat.strongRecOn with
  | _ u ih =>
    rw [Lib.decDigits]
    by_cases h : u < 10
    · rw [dif_pos h, decs_one h, Nat.mod_eq_of_lt h]; rfl
    · rw [dif_neg h, ih (u / 10) (by omega), decs_step (m := u) (by omega)]; rfl
/-- What stands ahead of a float's point. -/
def whQ (r : Nat) : Nat := amN r / amD r
def isWh (r : Nat) : Bool := decide (amN r % amD r = 0)
theorem whQ_V {r : Nat} (h : isWh r = true) : V r = whQ r * S1074 := by
  have h1 := of_decide_eq_true h
  have h2 := V_am (r := r)
  have h3 : amN r = whQ r * amD r := by
    have := Nat.div_add_mod (amN r) (amD r)
    rw [h1, Nat.add_zero, Nat.mul_comm] at this
    exact this.symm
  rw [h3, Nat.mul_right_comm] at h2
  exact Nat.eq_of_mul_eq_mul_right (amD_pos r) h2
theorem whQ_le (r : Nat) : whQ r * S1074 ≤ V r := by
  refine Nat.le_of_mul_le_mul_right (c := amD r) ?_ (amD_pos r)
  rw [V_am, Nat.mul_right_comm]
  exact Nat.mul_le_mul_right _ (Nat.div_mul_le_self _ _)
theorem trunc_wh {r : Nat} (_h : r < 9218868437227405312) : (truncR r = r) ↔ isWh r = true := by
  unfold truncR
  by_cases he : 0 ≤ expF r
  · rw [if_pos he]
    have : amD r = 1 := by unfold amD; rw [show (-expF r).toNat = 0 by omega, Nat.pow_zero]
    refine ⟨fun _ => ?_, fun _ => rfl⟩
    unfold isWh
    rw [this, Nat.mod_one]
    rfl
  · rw [if_neg he]
    have ha : amN r = manF r := by unfold amN; rw [show (expF r).toNat = 0 by omega, Nat.pow_zero, Nat.mul_one]
    have hq : manF r / 2 ^ (-expF r).toNat = whQ r := by unfold whQ; rw [ha]; rfl
    have hlt : whQ r < 9007199254740992 := by rw [← hq]; exact Nat.lt_of_le_of_lt (Nat.div_le_self _ _) manF_lt
    rw [hq]
    constructor
    · intro h1
      have h2 := fw_V hlt
      rw [h1] at h2
      have h3 := V_am (r := r)
      rw [h2, Nat.mul_right_comm] at h3
      have h4 := Nat.eq_of_mul_eq_mul_right S_pos h3
      unfold isWh
      rw [← h4, Nat.mul_mod_left]
      rfl
    · intro h1
      refine V_inj ?_
      rw [fw_V hlt, whQ_V h1]
theorem cmp_neg (a b : Int) : compare (-a) (-b) = compare b a := by
  rcases Int.lt_trichotomy a b with h | h | h
  · rw [Int.compare_eq_gt.2 (show -b < -a by omega), Int.compare_eq_gt.2 h]
  · subst h
    rw [Int.compare_eq_eq.2 rfl, Int.compare_eq_eq.2 rfl]
  · rw [Int.compare_eq_lt.2 (show -a < -b by omega), Int.compare_eq_lt.2 h]
theorem order_neg {r s : Nat} (hr : r < 9218868437227405312) (hs : s < 9218868437227405312) : Ieee.double.order (9223372036854775808 + r) (9223372036854775808 + s) = some (compare (s : Int) (r : Int)) := by
  have h := order_V hs hr
  have hm : ∀ x, x < 9218868437227405312 → mag (9223372036854775808 + x) = x := fun x h => by unfold mag; omega
  have hg : ∀ x, x < 9218868437227405312 → ((9223372036854775808 + x) / 9223372036854775808 % 2 == 1) = true := fun x h => by rw [beq_iff_eq]; omega
  unfold Ieee.Format.order at h ⊢
  rw [read_fin (b := s) (by rw [mag_no hs]; exact hs), mag_no hs, read_fin (b := r) (by rw [mag_no hr]; exact hr), mag_no hr, sign_no hr, sign_no hs] at h
  rw [read_fin (b := 9223372036854775808 + r) (by rw [hm r hr]; exact hr), hm r hr, read_fin (b := 9223372036854775808 + s) (by rw [hm s hs]; exact hs), hm s hs, hg r hr, hg s hs]
  change some (compare (Ieee.signed false (manF s) (expF s - min (expF s) (expF r)).toNat) (Ieee.signed false (manF r) (expF r - min (expF s) (expF r)).toNat)) = _ at h
  change some (compare (-Ieee.signed false (manF r) (expF r - min (expF r) (expF s)).toNat) (-Ieee.signed false (manF s) (expF s - min (expF r) (expF s)).toNat)) = _
  rw [cmp_neg, ← h, show min (expF r) (expF s) = min (expF s) (expF r) by omega]
/-- Two floats of one sign are equal just if their bits are. -/
theorem order_eq_ss {b t : Nat} (hb : b < 18446744073709551616) (h : mag b < 9218868437227405312) (ht : t < 9218868437227405312) : (FloatKind.f64.format.order (sgn b + t) b == some .eq) = decide (t = mag b) := by
  have hs := sgn_mag b hb
  have key : ∀ x y : Nat, ((some (compare (x : Int) (y : Int))) == some Ordering.eq) = decide (x = y) := fun x y => by
    by_cases e : x = y
    · subst e
      rw [Int.compare_eq_eq.2 rfl, decide_eq_true rfl]; rfl
    · rw [decide_eq_false e]
      rcases (by omega : x < y ∨ y < x) with h1 | h1
      · rw [Int.compare_eq_lt.2 (by omega)]; rfl
      · rw [Int.compare_eq_gt.2 (by omega)]; rfl
  show (Ieee.double.order (sgn b + t) b == some .eq) = _
  obtain ⟨m, hm⟩ : ∃ m, mag b = m := ⟨_, rfl⟩
  have h01 : sgn b = 0 ∨ sgn b = 9223372036854775808 := by unfold sgn; omega
  rw [hm] at h hs ⊢
  rcases h01 with h0 | h0
  · rw [h0, Nat.zero_add] at hs ⊢
    subst hs
    rw [order_V ht h, key]
  · rw [h0] at hs ⊢
    subst hs
    rw [order_neg ht h, key]
    exact decide_eq_decide.2 eq_comm
theorem order_lt_B {r B : Nat} (hr : r < 9218868437227405312) (hB : B < 9218868437227405312) : (FloatKind.f64.format.order r B == some .lt) = decide (r < B) := by
  show (Ieee.double.order r B == some .lt) = _
  rw [order_V hr hB]
  rcases Nat.lt_trichotomy r B with h | h | h
  · rw [Int.compare_eq_lt.2 (by omega), decide_eq_true h]; rfl
  · rw [Int.compare_eq_eq.2 (by omega), decide_eq_false (by omega)]; rfl
  · rw [Int.compare_eq_gt.2 (by omega), decide_eq_false (by omega)]; rfl
theorem order_far {r B : Nat} (hr : 9218868437227405312 ≤ r) (hr2 : r < 9223372036854775808) (hB : B < 9218868437227405312) : (FloatKind.f64.format.order r B == some .lt) = false := by
  have hm : mag r = r := Nat.mod_eq_of_lt hr2
  show (Ieee.double.order r B == some .lt) = false
  unfold Ieee.Format.order
  rw [read_fin (b := B) (by rw [mag_no hB]; exact hB)]
  rcases (by omega : r = 9218868437227405312 ∨ 9218868437227405312 < r) with h1 | h1
  · rw [read_inf (by rw [hm]; exact h1), show (r / 9223372036854775808 % 2 == 1) = false by rw [beq_eq_false_iff_ne]; omega]
    rfl
  · rw [read_nan (by rw [hm]; exact h1)]
    rfl
/-- Is it a whole number, nearer to nought than the bound? -/
def wholeB (b B : Nat) : Bool := decide (mag b < B) && isWh (mag b)
theorem mag_lt (b : Nat) : mag b < 9223372036854775808 := by unfold mag; omega
theorem truncR_lt {r : Nat} (h : r < 9218868437227405312) : truncR r < 9218868437227405312 := by
  unfold truncR
  split
  · exact h
  · have := fw_bd (m := manF r / 2 ^ (-expF r).toNat) (Nat.lt_of_le_of_lt (Nat.div_le_self _ _) manF_lt)
    omega
set_option maxRecDepth 100000 in
set_option maxHeartbeats 1000000 in
theorem wholeBelow_any (b B : Nat) (w : World) (hb : b < 18446744073709551616) (hB : B < 9218868437227405312) :
    Calls Tryz.prog 52 #[.float .f64 b, .float .f64 B] w fun e w' => e = .returned (.bool (wholeB b B)) ∧ w = w' := by
  have CA := Lib.hid (abs_any b w hb)
  have hml := mag_lt b
  unfold wholeB
  by_cases hlt : mag b < B
  · have hf : mag b < 9218868437227405312 := by omega
    have ho : (FloatKind.f64.format.order (mag b) B == some .lt) = true := by rw [order_lt_B hf hB]; exact decide_eq_true hlt
    have CT := fun W => trunc_any b W hb hf
    have he := order_eq_ss hb hf (truncR_lt hf)
    have hw : decide (truncR (mag b) = mag b) = isWh (mag b) := by
      cases h : isWh (mag b) with
      | true => exact decide_eq_true ((trunc_wh hf).2 h)
      | false => exact decide_eq_false fun e => by rw [(trunc_wh hf).1 e] at h; cases h
    rw [hw] at he
    rw [decide_eq_true hlt, Bool.true_and]
    obtain ⟨q, hq⟩ : ∃ q, isWh (mag b) = q := ⟨_, rfl⟩
    rw [hq] at he ⊢
    obtain ⟨T, hT⟩ : ∃ T, sgn b + truncR (mag b) = T := ⟨_, rfl⟩
    rw [hT] at CT he
    obtain ⟨M, hM⟩ : ∃ M, mag b = M := ⟨_, rfl⟩
    rw [hM] at CA ho
    have CT := Lib.hid CT
    clear hw hq hT hM hlt hf hml
    go_enter Tryz.func52, Tryz.ntmps52
    go_wp2_with fail
    refine CA.out.mono ?_
    rintro e w' ⟨rfl, rfl⟩
    go_wp2_with fail
    refine (CT.out _).mono ?_
    rintro e w' ⟨rfl, rfl⟩
    cases q
    · go_wp2_with fail
      go_ret
      exact ⟨rfl, rfl⟩
    · go_wp2_with fail
      go_ret
      exact ⟨rfl, rfl⟩
  · have ho : (FloatKind.f64.format.order (mag b) B == some .lt) = false := by
      rcases Nat.lt_or_ge (mag b) 9218868437227405312 with h | h
      · rw [order_lt_B h hB]; exact decide_eq_false hlt
      · exact order_far h hml hB
    rw [decide_eq_false hlt, Bool.false_and]
    obtain ⟨M, hM⟩ : ∃ M, mag b = M := ⟨_, rfl⟩
    rw [hM] at CA ho
    clear hlt hM hml
    go_enter Tryz.func52, Tryz.ntmps52
    go_wp2_with fail
    refine CA.out.mono ?_
    rintro e w' ⟨rfl, rfl⟩
    go_wp2_with fail
    go_ret
    exact ⟨rfl, rfl⟩
/-- The whole number that a float is. -/
def whZ (b : Nat) : Int := if sgn b = 0 then (whQ (mag b) : Int) else -(whQ (mag b) : Int)
theorem toInt_wh {b : Nat} (h : mag b < 9218868437227405312) : (FloatKind.f64.decode b).toInt .zero = some (whZ b) := by
  show (Ieee.double.read b).toInt .zero = _
  rw [read_fin h]
  show some (Ieee.signed (b / 9223372036854775808 % 2 == 1) (Ieee.Toward.zero.cut (b / 9223372036854775808 % 2 == 1) (manF (mag b) <<< (expF (mag b)).toNat) (-expF (mag b)).toNat) 0) = _
  rw [cut_zero, Nat.shiftLeft_eq]
  show some (Ieee.signed _ (whQ (mag b)) 0) = _
  unfold whZ sgn Ieee.signed
  rcases (by omega : b / 9223372036854775808 % 2 = 0 ∨ b / 9223372036854775808 % 2 = 1) with e | e
  · rw [e]
    simp
  · rw [e]
    simp
theorem e16_V : V 4846369599423283200 = 10000000000000000 * S1074 := by decide +kernel
theorem e53_V : V 4845873199050653696 = 9007199254740992 * S1074 := by decide +kernel
theorem whQ_lt {r B Q : Nat} (h : r < B) (hB : V B = Q * S1074) : whQ r < Q := by
  have h1 := V_lt h
  rw [hB] at h1
  exact Nat.lt_of_mul_lt_mul_right (Nat.lt_of_le_of_lt (whQ_le r) h1)
theorem whZ_bd {b : Nat} (Q : Nat) (h : whQ (mag b) < Q) : -(Q : Int) < whZ b ∧ whZ b < (Q : Int) := by
  unfold whZ
  split <;> omega
theorem int_of_wh {b : Nat} (h : mag b < 9218868437227405312) (hq : whQ (mag b) < 9223372036854775807) : floatToIntVal .f64 b .i64 = some (whZ b) := by
  have := whZ_bd _ hq
  unfold floatToIntVal
  rw [toInt_wh h]
  show (if IntKind.i64.min ≤ whZ b ∧ whZ b ≤ IntKind.i64.max then some (whZ b) else none) = _
  rw [if_pos]
  show -9223372036854775808 ≤ whZ b ∧ whZ b ≤ 9223372036854775807
  omega
abbrev PowTab (w : World) : Prop := Lib.TabIs Tryz.prog w "internal/strconv.uint64pow10" .u64 Lib.pow10Tab
/-- What Whole answers. -/
def wholeT (b : Nat) : List UInt8 := Lib.itoa (whZ b)
set_option maxRecDepth 100000 in
set_option maxHeartbeats 1000000 in
theorem whole_yes (b : Nat) (w : World) (hb : b < 18446744073709551616) (h : wholeB b 4846369599423283200 = true) (hT : PowTab w) :
    Calls Tryz.prog 17 #[.float .f64 b] w fun e w' => e = .returned (.tuple #[.string ⟨(wholeT b).toArray⟩, .bool true]) ∧ Below w.heap.size w w' := by
  have C1 := wholeBelow_any b 4846369599423283200 w hb (by omega)
  rw [h] at C1
  have hlt : mag b < 4846369599423283200 := by
    unfold wholeB at h
    exact of_decide_eq_true (Bool.and_eq_true_iff.1 h).1
  have hq := whQ_lt hlt e16_V
  have hi := int_of_wh (b := b) (by omega) (by omega)
  have hz := whZ_bd _ hq
  unfold wholeT
  obtain ⟨n, hn⟩ : ∃ n, whZ b = n := ⟨_, rfl⟩
  rw [hn] at hi hz ⊢
  obtain ⟨hz1, hz2⟩ := hz
  have hc : ∀ W, (convert 24 2 (.float .f64 b)).run Tryz.prog W = .ok (.int .i64 n) W := fun W => run_convert_float_int W 24 2 .f64 .i64 _ _ (by rw [Tryz.underlying24]; rfl) Tryz.underlying2 hi
  have C2 := fun W h => Tryz.strconv_FormatInt_10 n (by omega) (by omega) W h
  have C1 := Lib.hid C1
  have C2 := Lib.hid C2
  have HT := Lib.hid hT
  clear h hlt hq hi hn hz1 hz2 hT
  go_enter Tryz.func17, Tryz.ntmps17
  go_wp2_with fail
  refine C1.out.mono ?_
  rintro e w' ⟨rfl, rfl⟩
  go_wp2_with fail
  refine (C2.out _ HT.out).mono ?_
  rintro e W2 ⟨rfl, k, os, hw⟩
  have hB : Below w.heap.size w W2 := by rw [hw]; exact Lib.below_grow w.heap.size w (Nat.le_refl _) k os
  clear hw
  go_wp2_with fail
  go_ret2
  exact ⟨rfl, hB⟩
set_option maxRecDepth 100000 in
set_option maxHeartbeats 1000000 in
theorem whole_no (b : Nat) (w : World) (hb : b < 18446744073709551616) (h : wholeB b 4846369599423283200 = false) :
    Calls Tryz.prog 17 #[.float .f64 b] w fun e w' => e = .returned (.tuple #[.string ⟨#[]⟩, .bool false]) ∧ w = w' := by
  have C1 := wholeBelow_any b 4846369599423283200 w hb (by omega)
  rw [h] at C1
  have C1 := Lib.hid C1
  clear h
  go_enter Tryz.func17, Tryz.ntmps17
  go_wp2_with fail
  refine C1.out.mono ?_
  rintro e w' ⟨rfl, rfl⟩
  go_wp2_with fail
  go_ret2
  exact ⟨rfl, rfl⟩
end Go.Proofs.YtohickpkkldmdaaGreatDoor

namespace Go.Proofs.YtohickpkkldmdaaGreatDoor
open Go.RowKit Go.Lib

theorem isD_of {c : UInt8} (h : 48 ≤ c.toNat ∧ c.toNat ≤ 57) : isD c = true := isD_iff.2 h
theorem take_app {D tail : List UInt8} (hD : Dec D) (ht : ∀ c t, tail = c :: t → isD c = false) : (D ++ tail).takeWhile isD = D ∧ (D ++ tail).dropWhile isD = tail := by
  induction D with
  | nil =>
    cases tail with
    | nil => exact ⟨rfl, rfl⟩
    | cons c t =>
      have h := ht c t rfl
      rw [List.nil_append, List.takeWhile_cons, List.dropWhile_cons, h]
      exact ⟨rfl, rfl⟩
  | cons d D ih =>
    have h := isD_of (hD d (List.mem_cons_self))
    have hi := ih (fun c hc => hD c (List.mem_cons_of_mem _ hc))
    rw [List.cons_append, List.takeWhile_cons, List.dropWhile_cons, h]
    exact ⟨by rw [if_pos rfl, hi.1], by rw [if_pos rfl, hi.2]⟩
def Calm (tail : List UInt8) : Prop := ∀ c t, tail = c :: t → isD c = false ∧ c ≠ 46 ∧ c ≠ 101 ∧ c ≠ 69
theorem expL_calm {tail : List UInt8} (h : Calm tail) : expL tail = (0, tail) := by
  cases tail with
  | nil => rfl
  | cons c t =>
    obtain ⟨-, -, h1, h2⟩ := h c t rfl
    show (if c = 101 ∨ c = 69 then _ else _) = _
    rw [if_neg]
    rintro (h | h)
    · exact h1 h
    · exact h2 h
theorem numL_whole {D tail : List UInt8} (hD : Dec D) (hne : D ≠ []) (ht : Calm tail) : numL (D ++ tail) = (D, [], 0, (D.length : Int)) := by
  obtain ⟨h1, h2⟩ := take_app hD (fun c t e => (ht c t e).1)
  have hP : numP (D ++ tail) = (D, [], tail) := by
    rw [numP_none, h1, h2]
    rw [h2]
    intro h
    cases tail with
    | nil => cases h
    | cons c t => exact (ht c t rfl).2.1 (Option.some.inj h)
  rw [numL_yes (by rw [hP]; exact fun h => hne h.1), hP]
  show (D, [], (expL tail).1, ((D ++ tail).length : Int) - ((expL tail).2.length : Int)) = _
  rw [expL_calm ht, List.length_append]
  refine Prod.ext rfl (Prod.ext rfl (Prod.ext rfl ?_))
  show ((D.length + tail.length : Nat) : Int) - (tail.length : Int) = (D.length : Int)
  omega
theorem sgnL_digit {c : UInt8} {t : List UInt8} (h : isD c = true) : sgnL (c :: t) = (false, c :: t) := by
  have h1 := isD_iff.1 h
  have e1 : c ≠ 45 := by rintro rfl; exact absurd h1.1 (by decide)
  have e2 : c ≠ 43 := by rintro rfl; exact absurd h1.1 (by decide)
  unfold sgnL
  split
  · rename_i h; exact absurd (List.cons.inj h).1 e1
  · rename_i h; exact absurd (List.cons.inj h).1 e2
  · rfl
theorem noBlanks_keep {c : UInt8} {t : List UInt8} (h : ([32, 9, 10] : List UInt8).contains c = false) : noBlanks (c :: t) = c :: t := by
  unfold noBlanks
  rw [List.dropWhile_cons, h]
  rfl
theorem noBlanks_step {c : UInt8} {t : List UInt8} (h : ([32, 9, 10] : List UInt8).contains c = true) : noBlanks (c :: t) = noBlanks t := by
  unfold noBlanks
  rw [List.dropWhile_cons, h]
  rfl
theorem noBlanks_rep {c : UInt8} (h : ([32, 9, 10] : List UInt8).contains c = true) (k : Nat) (l : List UInt8) : noBlanks (List.replicate k c ++ l) = noBlanks l := by
  induction k with
  | zero => rfl
  | succ k ih => rw [List.replicate_succ, List.cons_append, noBlanks_step h, ih]
theorem digit_blank {c : UInt8} (h : isD c = true) : ([32, 9, 10] : List UInt8).contains c = false := by
  have h1 := isD_iff.1 h
  rw [List.contains_eq_mem, decide_eq_false_iff_not]
  intro hm
  rcases List.mem_cons.1 hm with rfl | hm
  · exact absurd h1.1 (by decide)
  · rcases List.mem_cons.1 hm with rfl | hm
    · exact absurd h1.1 (by decide)
    · rw [List.mem_singleton.1 hm] at h1
      exact absurd h1.1 (by decide)
theorem sigL_of {l m r : List UInt8} {b : Bool} (h1 : noBlanks l = m) (h2 : sgnL m = (b, r)) (hz : (numL r).2.2.2 ≠ 0) :
    sigL l = (b, (numL r).1, (numL r).2.1, (numL r).2.2.1, (numL r).2.2.2 + ((l.length : Int) - (r.length : Int))) := by
  have hr : sigR l = r := by unfold sigR; rw [h1, h2]
  unfold sigL
  rw [hr, h1, h2, if_neg hz]
/-- The digits of a whole number with blanks around and a sign ahead. -/
theorem sig_whole {K : Nat} {b : Bool} {D tail : List UInt8} (hD : Dec D) (hne : D ≠ []) (ht : Calm tail) :
    sigL (List.replicate K 32 ++ ((if b = true then [45] else []) ++ (D ++ tail))) = (b, D, [], 0, ((K + (if b = true then 1 else 0) + D.length : Nat) : Int)) := by
  obtain ⟨c, t, hc⟩ : ∃ c t, D = c :: t := by
    cases D with
    | nil => exact absurd rfl hne
    | cons c t => exact ⟨c, t, rfl⟩
  have hdig : isD c = true := isD_of (hD c (by rw [hc]; exact List.mem_cons_self))
  have hN := numL_whole hD hne ht
  have hz : (numL (D ++ tail)).2.2.2 ≠ 0 := by
    rw [hN]
    show (D.length : Int) ≠ 0
    rw [hc]
    simp
    omega
  cases b with
  | true =>
    have e := sigL_of (l := List.replicate K 32 ++ (45 :: (D ++ tail))) (m := 45 :: (D ++ tail)) (r := D ++ tail) (b := true) (by rw [noBlanks_rep (by decide), noBlanks_keep (by decide)]) rfl hz
    rw [hN] at e
    refine e.trans ?_
    refine Prod.ext rfl (Prod.ext rfl (Prod.ext rfl (Prod.ext rfl ?_)))
    show (D.length : Int) + (((List.replicate K (32 : UInt8) ++ (45 :: (D ++ tail))).length : Int) - ((D ++ tail).length : Int)) = ((K + 1 + D.length : Nat) : Int)
    simp only [List.length_append, List.length_replicate, List.length_cons]
    omega
  | false =>
    have e := sigL_of (l := List.replicate K 32 ++ (D ++ tail)) (m := D ++ tail) (r := D ++ tail) (b := false) (by rw [noBlanks_rep (by decide), hc, List.cons_append, noBlanks_keep (digit_blank hdig)]) (by rw [hc, List.cons_append, sgnL_digit hdig]) hz
    rw [hN] at e
    refine e.trans ?_
    refine Prod.ext rfl (Prod.ext rfl (Prod.ext rfl (Prod.ext rfl ?_)))
    show (D.length : Int) + (((List.replicate K (32 : UInt8) ++ (D ++ tail)).length : Int) - ((D ++ tail).length : Int)) = ((K + 0 + D.length : Nat) : Int)
    simp only [List.length_append, List.length_replicate]
    omega
theorem looks_whole {K : Nat} {b : Bool} {D tail : List UInt8} (hD : Dec D) (hne : D ≠ []) (ht : Calm tail) :
    looksL (List.replicate K 32 ++ ((if b = true then [45] else []) ++ (D ++ tail))) = (noBlanks tail).isEmpty := by
  unfold looksL
  rw [sig_whole hD hne ht]
  show (decide (0 < ((K + (if b = true then 1 else 0) + D.length : Nat) : Int)) && _) = _
  have hp : 0 < D.length := List.length_pos_iff.2 hne
  rw [decide_eq_true (by omega), Bool.true_and]
  show (noBlanks (List.drop (((K + (if b = true then 1 else 0) + D.length : Nat) : Int)).toNat _)).isEmpty = _
  rw [Int.toNat_natCast]
  congr 2
  rw [← List.append_assoc, ← List.append_assoc]
  refine List.drop_left' ?_
  cases b <;> simp only [List.length_append, List.length_replicate] <;> simp
theorem calm_blank (K : Nat) (X : List UInt8) (h : Calm X) : Calm (List.replicate K 10 ++ X) := by
  cases K with
  | zero => exact h
  | succ K =>
    intro c t e
    rw [List.replicate_succ, List.cons_append] at e
    rw [← (List.cons.inj e).1]
    decide
theorem calm_nil : Calm [] := fun c t e => by cases e
theorem calm_x : Calm [120] := fun c t e => by
  rw [← (List.cons.inj e).1]
  decide
end Go.Proofs.YtohickpkkldmdaaGreatDoor

namespace Go.Proofs.YtohickpkkldmdaaGreatDoor
open Go.RowKit Go.Lib

theorem idx_has (l : List UInt8) (x : UInt8) : decide (0 ≤ Lib.indexByte l x) = l.contains x := by
  induction l with
  | nil => rfl
  | cons d l ih =>
    have hge := Lib.indexByte_ge l x
    rw [List.contains_cons]
    have he : Lib.indexByte (d :: l) x = if (d == x) = true then 0 else if (Lib.indexByte l x == -1) = true then -1 else Lib.indexByte l x + 1 := rfl
    rw [he]
    by_cases h : d = x
    · subst h
      rw [beq_self_eq_true, if_pos rfl, Bool.true_or]
      rfl
    · have h1 : (d == x) = false := beq_eq_false_iff_ne.2 h
      have h2 : (x == d) = false := beq_eq_false_iff_ne.2 (fun e => h e.symm)
      rw [h1, h2, Bool.false_or, ← ih, if_neg (by decide)]
      generalize Lib.indexByte l x = y at *
      by_cases h3 : y = -1
      · subst h3; rfl
      · rw [if_neg (by rw [beq_iff_eq]; exact h3), decide_eq_true (by omega), decide_eq_true (by omega)]
set_option maxRecDepth 100000 in
theorem among_any (S : ByteArray) (c : Nat) (w : World) : Calls Tryz.prog 71 #[.string S, .int .u8 (c : Int)] w fun e w' => e = .returned (.bool (S.data.toList.contains c.toUInt8)) ∧ w = w' := by
  have C := Lib.hid (Tryz.strings_IndexByte S (c : Int) w)
  have hx := idx_has S.data.toList (c : Int).toNat.toUInt8
  obtain ⟨y, hy⟩ : ∃ y, Lib.indexByte S.data.toList (c : Int).toNat.toUInt8 = y := ⟨_, rfl⟩
  have H := Lib.hid hy
  rw [hy, Int.toNat_natCast] at hx
  have C := C.out
  rw [hy] at C
  have C := Lib.hid C
  have HX := Lib.hid hx
  clear hx hy
  go_enter Tryz.func71, Tryz.ntmps71
  go_wp2_with fail
  refine C.out.mono ?_
  rintro e w' ⟨rfl, rfl⟩
  go_wp2_with fail
  go_ret
  exact ⟨by show Ending.returned (.bool (decide (0 ≤ y))) = _; rw [HX.out], rfl⟩
theorem repeat_one (x : UInt8) (k : Nat) : Lib.repeatL [x] k = List.replicate k x := by
  induction k with
  | zero => rfl
  | succ k ih =>
    show [x] ++ Lib.repeatL [x] k = _
    rw [ih, List.replicate_succ]
    rfl
set_option maxRecDepth 100000 in
theorem rep_any (x : UInt8) (k : Int) (w : World) (h0 : -1099511627776 ≤ k) (h1 : k ≤ 1099511627776) : Calls Tryz.prog 118 #[.string ⟨#[x]⟩, .int .i64 k] w fun e w' => e = .returned (.string ⟨(List.replicate k.toNat x).toArray⟩) ∧ Below w.heap.size w w' := by
  obtain ⟨z, hz⟩ : ∃ z, k.toNat = z := ⟨_, rfl⟩
  have hmx : max (0 : Int) k = (z : Int) := by omega
  have cR := Tryz.strings_Repeat ⟨#[x]⟩ z w (by omega) (by show 1 * z ≤ _; omega)
  replace cR : Calls Tryz.prog 160 #[.string ⟨#[x]⟩, .int .i64 z] w fun e w' => e = .returned (.string ⟨(Lib.repeatL [x] z).toArray⟩) ∧ Below w.heap.size w w' := cR
  rw [repeat_one] at cR
  rw [hz]
  have CR := Lib.hid cR
  clear cR hz
  go_enter Tryz.func118, Tryz.ntmps118
  go_wp2_with fail
  refine CR.out.mono ?_
  rintro e w' ⟨rfl, hB⟩
  go_wp2_with fail
  go_ret
  exact ⟨rfl, hB⟩
/-- A text with so many blanks ahead of it or behind. -/
def fillL (s : List UInt8) (k : Int) (behind : Bool) : List UInt8 := if behind then s ++ List.replicate k.toNat 32 else List.replicate k.toNat 32 ++ s
theorem ba_cat (s : ByteArray) (l : List UInt8) : s ++ ⟨l.toArray⟩ = ⟨(s.data.toList ++ l).toArray⟩ := by
  apply ByteArray.ext
  apply Array.toList_inj.1
  rw [ByteArray.data_append, Array.toList_append]
theorem ba_cat2 (s : ByteArray) (l : List UInt8) : (⟨l.toArray⟩ : ByteArray) ++ s = ⟨(l ++ s.data.toList).toArray⟩ := by
  apply ByteArray.ext
  apply Array.toList_inj.1
  rw [ByteArray.data_append, Array.toList_append]
set_option maxRecDepth 100000 in
set_option maxHeartbeats 1000000 in
theorem fill_any (s : ByteArray) (k : Int) (bh : Bool) (w : World) (hs : s.size ≤ 1099511627776) (h0 : -1099511627776 ≤ k) (h1 : k ≤ 1099511627776) : Calls Tryz.prog 74 #[.string s, .int .i64 k, .bool bh] w fun e w' => e = .returned (.string ⟨(fillL s.data.toList k bh).toArray⟩) ∧ Below w.heap.size w w' := by
  have CR := Lib.hid (rep_any 32 k w h0 h1)
  have e1 := ba_cat s (List.replicate k.toNat 32)
  have e2 := ba_cat2 s (List.replicate k.toNat 32)
  obtain ⟨R, hR⟩ : ∃ R : ByteArray, (⟨(List.replicate k.toNat (32 : UInt8)).toArray⟩ : ByteArray) = R := ⟨_, rfl⟩
  have hRs : R.size ≤ 1099511627776 := by rw [← ba_len, ← hR]; show (List.replicate k.toNat (32 : UInt8)).length ≤ _; rw [List.length_replicate]; omega
  have g1 : ¬ 9223372036854775807 < s.size + R.size := by omega
  have g2 : ¬ 9223372036854775807 < R.size + s.size := by omega
  have CR := CR.out
  rw [hR] at CR e1 e2
  have CR := Lib.hid CR
  have E1 := Lib.hid e1
  have E2 := Lib.hid e2
  clear e1 e2 hR h0 h1 hs hRs
  cases bh with
  | true =>
    go_enter Tryz.func74, Tryz.ntmps74
    go_wp2_with fail
    refine CR.out.mono ?_
    rintro e w' ⟨rfl, hB⟩
    go_wp2_with fail
    go_ret
    exact ⟨by show Ending.returned (.string (s ++ R)) = _; rw [fillL, if_pos rfl, ← E1.out], hB⟩
  | false =>
    go_enter Tryz.func74, Tryz.ntmps74
    go_wp2_with fail
    refine CR.out.mono ?_
    rintro e w' ⟨rfl, hB⟩
    go_wp2_with fail
    go_ret
    exact ⟨by show Ending.returned (.string (R ++ s)) = _; rw [fillL, if_neg (by decide), ← E2.out], hB⟩
/-- The verbs: all; of numbers; of whole ones; of texts; those that write capitals; those that write a sign only below 0. -/
def vAll : List UInt8 := [100, 105, 111, 120, 88, 117, 101, 69, 102, 70, 103, 71, 99, 115, 37]
def vNum : List UInt8 := [100, 105, 111, 120, 88, 117, 101, 69, 102, 70, 103, 71]
def vWhole : List UInt8 := [100, 105, 111, 120, 88, 117]
def vText : List UInt8 := [99, 115]
def vCap : List UInt8 := [88, 69, 70, 71]
def vMin : List UInt8 := [111, 120, 88, 117]
/-- May a value be written so? -/
def chkB (wd pr : Int) (c : Nat) : Bool := (decide (0 ≤ wd) && decide (wd ≤ 1024)) && (decide (-1 ≤ pr) && decide (pr ≤ 190)) && vAll.contains c.toUInt8
set_option maxRecDepth 100000 in
set_option maxHeartbeats 1000000 in
theorem check_any (m p b a z : Bool) (wd pr : Int) (c : Nat) (w : World) : Calls Tryz.prog 70 #[.agg #[.bool m, .bool p, .bool b, .bool a, .bool z, .int .i64 wd, .int .i64 pr, .int .u8 (c : Int)]] w fun e w' => e = .returned (.int .i64 (if chkB wd pr c then 0 else 50)) ∧ Below w.heap.size w w' := by
  have cA := fun W => among_any ⟨#[100, 105, 111, 120, 88, 117, 101, 69, 102, 70, 103, 71, 99, 115, 37]⟩ c W
  replace cA : ∀ w : World, Calls Tryz.prog 71 #[.string ⟨#[100, 105, 111, 120, 88, 117, 101, 69, 102, 70, 103, 71, 99, 115, 37]⟩, .int .u8 (c : Int)] w fun e w' => e = .returned (.bool (vAll.contains c.toUInt8)) ∧ w = w' := cA
  unfold chkB
  obtain ⟨v, hv⟩ : ∃ v, vAll.contains c.toUInt8 = v := ⟨_, rfl⟩
  rw [hv] at cA ⊢
  have CA := Lib.hid cA
  clear cA hv
  by_cases h1 : 0 ≤ wd
  · by_cases h2 : wd ≤ 1024
    · by_cases h3 : -1 ≤ pr
      · by_cases h4 : pr ≤ 190
        · rw [decide_eq_true h1, decide_eq_true h2, decide_eq_true h3, decide_eq_true h4]
          cases v with
          | true =>
            go_enter Tryz.func70, Tryz.ntmps70
            go_wp2_with fail
            refine (CA.out _).mono ?_
            rintro e w' ⟨rfl, rfl⟩
            go_wp2_with fail
            go_ret
            exact ⟨rfl, (Below.refl _ _).alloc (Nat.le_refl _) _⟩
          | false =>
            go_enter Tryz.func70, Tryz.ntmps70
            go_wp2_with fail
            refine (CA.out _).mono ?_
            rintro e w' ⟨rfl, rfl⟩
            go_wp2_with fail
            go_ret
            exact ⟨rfl, (Below.refl _ _).alloc (Nat.le_refl _) _⟩
        · rw [decide_eq_false h4, Bool.and_false, Bool.and_false, Bool.false_and]
          go_enter Tryz.func70, Tryz.ntmps70
          go_wp2_with fail
          go_ret
          exact ⟨rfl, (Below.refl _ _).alloc (Nat.le_refl _) _⟩
      · rw [decide_eq_false h3, Bool.false_and, Bool.and_false, Bool.false_and]
        go_enter Tryz.func70, Tryz.ntmps70
        go_wp2_with fail
        go_ret
        exact ⟨rfl, (Below.refl _ _).alloc (Nat.le_refl _) _⟩
    · rw [decide_eq_false h2, Bool.and_false, Bool.false_and, Bool.false_and]
      by_cases h3 : -1 ≤ pr <;> by_cases h4 : pr ≤ 190
      all_goals first | (exfalso; omega) | skip
      all_goals
        go_enter Tryz.func70, Tryz.ntmps70
        go_wp2_with fail
        go_ret
        exact ⟨rfl, (Below.refl _ _).alloc (Nat.le_refl _) _⟩
  · rw [decide_eq_false h1, Bool.false_and, Bool.false_and, Bool.false_and]
    by_cases h3 : -1 ≤ pr <;> by_cases h4 : pr ≤ 190
    all_goals first | (exfalso; omega) | skip
    all_goals
      go_enter Tryz.func70, Tryz.ntmps70
      go_wp2_with fail
      go_ret
      exact ⟨rfl, (Below.refl _ _).alloc (Nat.le_refl _) _⟩
/-- What stands ahead of a number. -/
def signL (p b : Bool) (c : Nat) (below : Bool) : List UInt8 := if below then [45] else if vMin.contains c.toUInt8 then [] else if p then [43] else if b then [32] else []
set_option maxRecDepth 100000 in
set_option maxHeartbeats 1000000 in
theorem sign_any (m p b a z : Bool) (wd pr : Int) (c : Nat) (bl : Bool) (w : World) : Calls Tryz.prog 121 #[.agg #[.bool m, .bool p, .bool b, .bool a, .bool z, .int .i64 wd, .int .i64 pr, .int .u8 (c : Int)], .bool bl] w fun e w' => e = .returned (.string ⟨(signL p b c bl).toArray⟩) ∧ Below w.heap.size w w' := by
  have cA := fun W => among_any ⟨#[111, 120, 88, 117]⟩ c W
  replace cA : ∀ w : World, Calls Tryz.prog 71 #[.string ⟨#[111, 120, 88, 117]⟩, .int .u8 (c : Int)] w fun e w' => e = .returned (.bool (vMin.contains c.toUInt8)) ∧ w = w' := cA
  unfold signL
  obtain ⟨v, hv⟩ : ∃ v, vMin.contains c.toUInt8 = v := ⟨_, rfl⟩
  rw [hv] at cA ⊢
  have CA := Lib.hid cA
  clear cA hv
  cases bl with
  | true =>
    go_enter Tryz.func121, Tryz.ntmps121
    go_wp2_with fail
    go_ret
    exact ⟨rfl, (Below.refl _ _).alloc (Nat.le_refl _) _⟩
  | false =>
    cases v with
    | true =>
      go_enter Tryz.func121, Tryz.ntmps121
      go_wp2_with fail
      refine (CA.out _).mono ?_
      rintro e w' ⟨rfl, rfl⟩
      go_wp2_with fail
      go_ret
      exact ⟨rfl, (Below.refl _ _).alloc (Nat.le_refl _) _⟩
    | false =>
      cases p <;> cases b
      all_goals
        go_enter Tryz.func121, Tryz.ntmps121
        go_wp2_with fail
        refine (CA.out _).mono ?_
        rintro e w' ⟨rfl, rfl⟩
        go_wp2_with fail
        go_ret
        exact ⟨rfl, (Below.refl _ _).alloc (Nat.le_refl _) _⟩
end Go.Proofs.YtohickpkkldmdaaGreatDoor
