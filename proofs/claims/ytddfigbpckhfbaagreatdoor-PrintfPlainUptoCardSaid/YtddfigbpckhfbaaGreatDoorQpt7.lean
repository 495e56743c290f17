/- Several texts in one (Plain: floats by a mantissa of 53 digits; exact differences; one step of what is left. No walk here; Contracts of layer 4: math.Mod; Contracts of layer 4: whole numbers: wholeBelow, Whole; Contracts of layer 5: the small ones (among, repeat, fill, Check, sign, boundless); Contracts of layer 5: the reader's bytes (peek, take, flags, amount); Contracts of layer 5: the reader's flags and amounts; Contracts of layer 5: the reader's amounts; Plain: numerals with a point and an exponent in texts. No walk here; Contracts of layer 4: cutHex; The definition of layer 2: trim, Small, Add; The definition of layer 2: Text; The definition of layer 4: value, of no more than 1000 digits; Plain: the texts of a float by e, f and g, and what is read of them. No walk here). -/
import Derived.WalkSpells
import Derived.Lib.ItoaNum
import Derived.Lib.AppendIntMem
import Derived.Lib.SmallJoins
import Derived.Deep.RegionWith
import Derived.Deep.QuietTactic
import Derived.BigQuiet
import Derived.Test.YtddfigbpckhfbaaGreatDoorQpt2
import Derived.Test.YtddfigbpckhfbaaGreatDoorQpt3
import Derived.Test.YtddfigbpckhfbaaGreatDoorQpt4
import Derived.Test.YtddfigbpckhfbaaGreatDoorQpt5
import Derived.Test.YtddfigbpckhfbaaGreatDoorQpt6
namespace Go.Proofs.YtddfigbpckhfbaaGreatDoor

/-- The place of the first digit of a float, counted in the least one. -/
def Lg (r : Nat) : Nat := if r < 4503599627370496 then r.log2 else r / 4503599627370496 + 51
/-- Its 53 digits. -/
def Mt (r : Nat) : Nat := if r < 4503599627370496 then r * 2 ^ (52 - r.log2) else 4503599627370496 + r % 4503599627370496
theorem Mt_bd {r : Nat} (h : 0 < r) : 4503599627370496 ≤ Mt r ∧ Mt r < 9007199254740992 := by
  unfold Mt
  split
  · exact full_bd h (by omega)
  · omega
theorem two52 : (4503599627370496 : Nat) = 2 ^ 52 := by decide
theorem V_Mt {r : Nat} (h : 0 < r) : V r * 4503599627370496 = Mt r * 2 ^ Lg r := by
  unfold V Mt Lg
  by_cases h1 : r < 4503599627370496
  · have hb := log2_le52 h (by omega)
    rw [if_pos h1, if_pos h1, if_pos h1, Nat.mul_assoc, ← Nat.pow_add, show 52 - r.log2 + r.log2 = 52 by omega]
  · rw [if_neg h1, if_neg h1, if_neg h1, show r / 4503599627370496 + 51 = r / 4503599627370496 - 1 + 52 by omega, Nat.pow_add, Nat.mul_assoc]
theorem nearest_fit {D : Nat} {p : Int} (hD : 0 < D) (hD2 : D < 9007199254740992) (hp : -1074 ≤ p) (hp2 : p ≤ 971) :
    ∃ t, Ieee.double.nearest false D p = t ∧ t < 9218868437227405312 ∧ V t = D * 2 ^ (p + 1074).toNat := by
  have hb := log2_le52 hD hD2
  obtain ⟨f1, f2⟩ := full_bd hD hD2
  obtain ⟨s, hs1, hs2, hs3⟩ : ∃ s : Nat, max (p + (D.log2 : Int) - ((52 : Nat) : Int)) (-1074) = p - (s : Int) ∧ s ≤ 52 - D.log2 ∧ (p - (s : Int) = -1074 ∨ s = 52 - D.log2) :=
    ⟨(p - max (p + (D.log2 : Int) - 52) (-1074)).toNat, by omega, by omega, by omega⟩
  obtain ⟨e, he⟩ : ∃ e : Nat, p - (s : Int) + 1074 = (e : Int) := ⟨(p - (s : Int) + 1074).toNat, by omega⟩
  have hm1 : 0 < D * 2 ^ s := Nat.mul_pos hD (Nat.pow_pos (by omega))
  have hm2 : D * 2 ^ s < 9007199254740992 := Nat.lt_of_le_of_lt (Nat.mul_le_mul_left _ (Nat.pow_le_pow_right (by omega) hs2)) f2
  have hm3 : e = 0 ∨ 4503599627370496 ≤ D * 2 ^ s := by
    rcases hs3 with h | h
    · left; omega
    · right; rw [h]; exact f1
  have hcut := cut_exact (D * 2 ^ s) 0 hm1
  rw [Nat.pow_zero, Nat.mul_one] at hcut
  refine ⟨e * 4503599627370496 + D * 2 ^ s, ?_, by omega, ?_⟩
  · unfold Ieee.Format.nearest
    rw [if_neg (by omega)]
    simp only [dbl_frac, dbl_least, dbl_binade, dbl_inf, hs1]
    rw [show (p - (p - (s : Int))).toNat = s by omega, show (p - (s : Int) - p).toNat = 0 by omega, Nat.shiftLeft_eq, hcut, show (p - (s : Int) - -1074).toNat = e by omega, word_pos, Nat.min_eq_left (by omega)]
  · rw [V_at _ _ (Nat.le_of_lt hm2) hm3, Nat.mul_assoc, ← Nat.pow_add]
    congr 2
    omega
theorem expF_mono {z r : Nat} (h : z ≤ r) : expF z ≤ expF r := by unfold expF; split <;> split <;> omega
theorem V_man {r : Nat} : V r = manF r * 2 ^ (expF r + 1074).toNat := by
  rw [← val_V, Nat.shiftLeft_eq]
  rfl
theorem sign_no {r : Nat} (h : r < 9218868437227405312) : (r / 9223372036854775808 % 2 == 1) = false := by rw [beq_eq_false_iff_ne]; omega
theorem mag_no {r : Nat} (h : r < 9218868437227405312) : mag r = r := Nat.mod_eq_of_lt (by omega)
/-- The difference of two floats of which the greater is at most twice the other one is exact. -/
theorem sub_exact {r z : Nat} (hr : r < 9218868437227405312) (_hz : 0 < z) (h1 : z ≤ r) (h2 : V r ≤ 2 * V z) :
    ∃ t, floatBits .sub .f64 r z = some t ∧ t < 9218868437227405312 ∧ V t = V r - V z := by
  have hz2 : z < 9218868437227405312 := by omega
  have hE := expF_mono h1
  have hEz := expF_bd hz2
  obtain ⟨k, hk⟩ : ∃ k : Nat, expF r - expF z = (k : Int) := ⟨(expF r - expF z).toNat, by omega⟩
  have hVz := V_man (r := z)
  have hVr := V_man (r := r)
  rw [show (expF r + 1074).toNat = k + (expF z + 1074).toNat by omega, Nat.pow_add, ← Nat.mul_assoc] at hVr
  have hc : 0 < 2 ^ (expF z + 1074).toNat := Nat.pow_pos (by omega)
  have hle := V_le h1
  rw [hVz, hVr] at hle h2
  rw [← Nat.mul_assoc] at h2
  have g1 := Nat.le_of_mul_le_mul_right hle hc
  have g2 := Nat.le_of_mul_le_mul_right h2 hc
  obtain ⟨D, hD⟩ : ∃ D, manF r * 2 ^ k - manF z = D := ⟨_, rfl⟩
  have hn := manF_lt (r := z)
  have hVD : V r - V z = D * 2 ^ (expF z + 1074).toNat := by rw [hVr, hVz, ← Nat.sub_mul, hD]
  rw [hVD]
  show ∃ t, (((Ieee.double.read r).sum (Ieee.double.read z).opposite).map Ieee.double.write) = some t ∧ _
  rw [read_fin (by rw [mag_no hr]; exact hr), read_fin (by rw [mag_no hz2]; exact hz2), mag_no hr, mag_no hz2, sign_no hr, sign_no hz2]
  have htot : Ieee.signed false (manF r) (expF r - min (expF r) (expF z)).toNat + Ieee.signed true (manF z) (expF z - min (expF r) (expF z)).toNat = (D : Int) := by
    rw [show min (expF r) (expF z) = expF z by omega, show (expF z - expF z).toNat = 0 by omega, show (expF r - expF z).toNat = k by omega]
    show ((manF r <<< k : Nat) : Int) + -((manF z <<< 0 : Nat) : Int) = _
    rw [Nat.shiftLeft_eq, Nat.shiftLeft_zero]
    omega
  show ∃ t, some (Ieee.double.write (.number (if Ieee.signed false (manF r) (expF r - min (expF r) (expF z)).toNat + Ieee.signed true (manF z) (expF z - min (expF r) (expF z)).toNat = 0 then false && true else decide (Ieee.signed false (manF r) (expF r - min (expF r) (expF z)).toNat + Ieee.signed true (manF z) (expF z - min (expF r) (expF z)).toNat < 0)) (Ieee.signed false (manF r) (expF r - min (expF r) (expF z)).toNat + Ieee.signed true (manF z) (expF z - min (expF r) (expF z)).toNat).natAbs (min (expF r) (expF z)))) = some t ∧ _
  rw [htot, Int.natAbs_natCast, show min (expF r) (expF z) = expF z by omega]
  rcases Nat.eq_zero_or_pos D with h0 | h0
  · refine ⟨0, ?_, by omega, ?_⟩
    · rw [h0]
      rfl
    · rw [h0, Nat.zero_mul]
      decide
  · rw [if_neg (by omega), decide_eq_false (by omega)]
    obtain ⟨t, h3, h4, h5⟩ := nearest_fit (D := D) (p := expF z) h0 (by omega) hEz.1 hEz.2
    exact ⟨t, congrArg some h3, h4, h5⟩
/-- A float times a power of two. -/
def ldR (y k : Nat) : Nat := if 52 ≤ Lg y + k then (Lg y + k - 51) * 4503599627370496 + (Mt y - 4503599627370496) else y * 2 ^ k
theorem low_fit {y k : Nat} (h : 0 < y) (h2 : Lg y + k < 52) : y < 4503599627370496 ∧ y * 2 ^ k < 4503599627370496 ∧ Lg y = y.log2 := by
  have hy : y < 4503599627370496 := by
    rcases Nat.lt_or_ge y 4503599627370496 with h1 | h1
    · exact h1
    · rw [Lg, if_neg (by omega)] at h2; omega
  have hl : Lg y = y.log2 := by rw [Lg, if_pos hy]
  refine ⟨hy, ?_, hl⟩
  have hb := (log2_bd h).2
  rw [hl] at h2
  have h3 : y * 2 ^ k < 2 ^ (y.log2 + 1) * 2 ^ k := Nat.mul_lt_mul_of_pos_right hb (Nat.pow_pos (by omega))
  rw [← Nat.pow_add] at h3
  refine Nat.lt_of_lt_of_le h3 ?_
  rw [two52]
  exact Nat.pow_le_pow_right (by omega) (by omega)
theorem shift_one {j m : Nat} (h : 4503599627370496 ≤ m) : (j + 1) * 4503599627370496 + (m - 4503599627370496) = j * 4503599627370496 + m := by omega
theorem pow_52 {n : Nat} (h : 52 ≤ n) : 2 ^ (n - 52) * 4503599627370496 = 2 ^ n := by
  have e : 2 ^ n = 2 ^ (n - 52) * 2 ^ 52 := by rw [← Nat.pow_add]; congr 1; omega
  rw [e, ← two52]
theorem V_ldR {y k : Nat} (h : 0 < y) : V (ldR y k) = V y * 2 ^ k := by
  unfold ldR
  by_cases hk : 52 ≤ Lg y + k
  · rw [if_pos hk]
    obtain ⟨b1, b2⟩ := Mt_bd h
    have e : (Lg y + k - 51) * 4503599627370496 + (Mt y - 4503599627370496) = (Lg y + k - 52) * 4503599627370496 + Mt y := by
      clear h
      obtain ⟨j, hj⟩ : ∃ j, Lg y + k - 52 = j := ⟨_, rfl⟩
      rw [hj, show Lg y + k - 51 = j + 1 by omega]
      exact shift_one b1
    rw [e, V_at _ _ (Nat.le_of_lt b2) (Or.inr b1)]
    have hm := V_Mt h
    refine Nat.eq_of_mul_eq_mul_right (show 0 < 4503599627370496 by omega) ?_
    rw [Nat.mul_right_comm (V y), hm, Nat.mul_assoc (Mt y) _ (2 ^ k), ← Nat.pow_add, Nat.mul_assoc]
    exact congrArg (Mt y * ·) (pow_52 hk)
  · rw [if_neg hk]
    obtain ⟨h1, h2, -⟩ := low_fit (k := k) h (by omega)
    rw [V, if_pos h2, V, if_pos h1]
/-- How often a float is doubled till it is next below another one. -/
def modK (r y : Nat) : Nat := Lg r - (Lg y + if Mt r < Mt y then 1 else 0)
theorem mod_step {r y : Nat} (hy : 0 < y) (h : y ≤ r) : Lg y + (if Mt r < Mt y then 1 else 0) ≤ Lg r ∧ 0 < ldR y (modK r y) ∧ ldR y (modK r y) ≤ r ∧ V r ≤ 2 * V (ldR y (modK r y)) := by
  have hr : 0 < r := by omega
  obtain ⟨a1, a2⟩ := Mt_bd hy
  obtain ⟨b1, b2⟩ := Mt_bd hr
  have e1 := V_Mt hy
  have e2 := V_Mt hr
  have hV := V_le h
  have hle : Lg y + (if Mt r < Mt y then 1 else 0) ≤ Lg r := by
    rcases Nat.lt_or_ge (Lg r) (Lg y + (if Mt r < Mt y then 1 else 0)) with hc | hc
    · exfalso
      have h3 : Mt r * 2 ^ Lg r < Mt y * 2 ^ Lg y := by
        split at hc
        · refine Nat.lt_of_lt_of_le (Nat.mul_lt_mul_of_pos_right ‹_› (Nat.pow_pos (by omega))) ?_
          exact Nat.mul_le_mul_left _ (Nat.pow_le_pow_right (by omega) (by omega))
        · have h4 : 2 ^ (Lg r + 1) ≤ 2 ^ Lg y := Nat.pow_le_pow_right (by omega) (by omega)
          rw [Nat.pow_succ] at h4
          have h5 : Mt y * (2 ^ Lg r * 2) ≤ Mt y * 2 ^ Lg y := Nat.mul_le_mul_left _ h4
          have h6 : Mt r * 2 ^ Lg r < Mt y * 2 * 2 ^ Lg r := Nat.mul_lt_mul_of_pos_right (by omega) (Nat.pow_pos (by omega))
          rw [Nat.mul_assoc, Nat.mul_comm 2] at h6
          exact Nat.lt_of_lt_of_le h6 h5
      rw [← e1, ← e2] at h3
      have := Nat.lt_of_mul_lt_mul_right h3
      omega
    · exact hc
  have hVk := V_ldR (y := y) (k := modK r y) hy
  have hsum : Mt y * 2 ^ Lg y * 2 ^ modK r y = Mt y * 2 ^ (Lg r - (if Mt r < Mt y then 1 else 0)) := by
    rw [Nat.mul_assoc, ← Nat.pow_add]
    congr 2
    unfold modK
    omega
  have hV2 : V (ldR y (modK r y)) * 4503599627370496 = Mt y * 2 ^ (Lg r - (if Mt r < Mt y then 1 else 0)) := by
    rw [hVk, Nat.mul_right_comm, e1, hsum]
  have hboth : V (ldR y (modK r y)) ≤ V r ∧ V r ≤ 2 * V (ldR y (modK r y)) := by
    constructor
    · refine Nat.le_of_mul_le_mul_right (c := 4503599627370496) ?_ (by omega)
      rw [hV2, e2]
      split
      · rename_i hlt
        rw [if_pos hlt] at hle
        have e3 : 2 ^ Lg r = 2 ^ (Lg r - 1) * 2 := by rw [← Nat.pow_succ]; congr 1; omega
        rw [e3, Nat.mul_comm (2 ^ (Lg r - 1)), ← Nat.mul_assoc]
        exact Nat.mul_le_mul_right _ (by omega)
      · exact Nat.mul_le_mul_right _ (by omega)
    · refine Nat.le_of_mul_le_mul_right (c := 4503599627370496) ?_ (by omega)
      rw [Nat.mul_assoc, hV2, e2]
      split
      · rename_i hlt
        rw [if_pos hlt] at hle
        have e3 : 2 ^ Lg r = 2 ^ (Lg r - 1) * 2 := by rw [← Nat.pow_succ]; congr 1; omega
        have g : Mt r * 2 ^ (Lg r - 1) ≤ Mt y * 2 ^ (Lg r - 1) := Nat.mul_le_mul_right _ (by omega)
        rw [e3, ← Nat.mul_assoc, Nat.mul_comm 2]
        exact Nat.mul_le_mul_right _ g
      · rw [Nat.sub_zero, ← Nat.mul_assoc]
        exact Nat.mul_le_mul_right _ (by omega)
  refine ⟨hle, ?_, ?_, hboth.2⟩
  · rcases Nat.eq_zero_or_pos (ldR y (modK r y)) with h0 | h0
    · exfalso
      have h1 := hboth.2
      rw [h0] at h1
      have h2 : V 0 = 0 := by decide
      have h3 := V_lt hr
      omega
    · exact h0
  · rcases Nat.lt_or_ge r (ldR y (modK r y)) with h1 | h1
    · have := V_lt h1; omega
    · exact h1
/-- One step takes the float times a power of two away: what is left of the division stays. -/
theorem mod_keep {r y t : Nat} (hy : 0 < y) (h : y ≤ r) (ht : V t = V r - V (ldR y (modK r y))) : t < r ∧ V t % V y = V r % V y := by
  obtain ⟨h1, h2, h3, h4⟩ := mod_step hy h
  have hV := V_le h3
  have hk := V_ldR (y := y) (k := modK r y) hy
  have h0 := V_lt h2
  constructor
  · rcases Nat.lt_or_ge t r with h5 | h5
    · exact h5
    · have := V_le h5
      omega
  · have e : V r = V t + V y * 2 ^ modK r y := by omega
    rw [e, Nat.add_mul_mod_self_left]
end Go.Proofs.YtddfigbpckhfbaaGreatDoor

namespace Go.Proofs.YtddfigbpckhfbaaGreatDoor
open Go.RowKit Go.Lib

theorem xor_top {t : Nat} (h : t < 9223372036854775808) : t ^^^ 9223372036854775808 = 9223372036854775808 + t := by
  have e : (9223372036854775808 : Nat) = 2 ^ 63 := by decide
  apply Nat.eq_of_testBit_eq
  intro i
  rw [Nat.testBit_xor, e, Nat.testBit_two_pow]
  rw [e] at h
  rcases Nat.lt_trichotomy i 63 with h1 | rfl | h1
  · rw [Nat.testBit_two_pow_add_gt h1]
    simp [show ¬ 63 = i by omega]
  · rw [Nat.testBit_two_pow_add_eq, Nat.testBit_lt_two_pow h]
    rfl
  · have h2 : 2 ^ 63 + t < 2 ^ i := Nat.lt_of_lt_of_le (show 2 ^ 63 + t < 2 ^ 64 by omega) (Nat.pow_le_pow_right (by omega) h1)
    rw [Nat.testBit_lt_two_pow h2, Nat.testBit_lt_two_pow (show t < 2 ^ i by omega)]
    simp [show ¬ 63 = i by omega]
theorem neg_pos {t : Nat} (h : t < 9223372036854775808) : Op.negFloat .f64 t = 9223372036854775808 + t := xor_top h
theorem neg_neg' {t : Nat} (h : t < 9223372036854775808) : Op.negFloat .f64 (9223372036854775808 + t) = t := by
  show (9223372036854775808 + t) ^^^ 9223372036854775808 = t
  rw [← xor_top h, Nat.xor_assoc, Nat.xor_self, Nat.xor_zero]
theorem Lg_le {r : Nat} (h : r < 9218868437227405312) : Lg r ≤ 2097 := by
  unfold Lg
  split
  · rcases Nat.eq_zero_or_pos r with h0 | h0
    · subst h0; decide
    · have := log2_le52 h0 (by omega); omega
  · omega
/-- One round of the division's loop. -/
structure ModStep (r y K Z t : Nat) : Prop where
  kk : Lg y + K + (if Mt r < Mt y then 1 else 0) = Lg r
  top : Lg y + K ≤ 2097
  z : ldR y K = Z
  sub : floatBits .sub .f64 r Z = some t
  t1 : t < 9218868437227405312
  lt : t < r
  keep : V t % V y = V r % V y
theorem mod_one {r y : Nat} (hy : 0 < y) (h : y ≤ r) (hr : r < 9218868437227405312) : ∃ K Z t, ModStep r y K Z t := by
  obtain ⟨h1, h2, h3, h4⟩ := mod_step hy h
  obtain ⟨t, g1, g2, g3⟩ := sub_exact hr h2 h3 h4
  obtain ⟨g4, g5⟩ := mod_keep hy h g3
  have hl := Lg_le hr
  refine ⟨modK r y, ldR y (modK r y), t, ⟨?_, ?_, rfl, g1, g2, g4, g5⟩⟩
  · unfold modK; omega
  · unfold modK; omega
end Go.Proofs.YtddfigbpckhfbaaGreatDoor

namespace Go.Proofs.YtddfigbpckhfbaaGreatDoor
open Go.RowKit Go.Lib

theorem decD (u : Nat) : Lib.decDigits u = decs u := by
  induction u using Nat.strongRecOn with
  | _ u ih =>
    rw [Lib.decDigits]
    by_cases h : u < 10
    · rw [dif_pos h, decs_one h, Nat.mod_eq_of_lt h]; rfl
    · rw [dif_neg h, ih (u / 10) (by omega), decs_step (m := u) (by omega)]; rfl
/-- What stands ahead of a float's point. -/
def whQ (r : Nat) : Nat := amN r / amD r
def isWh (r : Nat) : Bool := decide (amN r % amD r = 0)
theorem whQ_V {r : Nat} (h : isWh r = true) : V r = whQ r * S1074 := by
  have h1 := of_decide_eq_true h
  have h2 := V_am (r := r)
  have h3 : amN r = whQ r * amD r := by
    have := Nat.div_add_mod (amN r) (amD r)
    rw [h1, Nat.add_zero, Nat.mul_comm] at this
    exact this.symm
  rw [h3, Nat.mul_right_comm] at h2
  exact Nat.eq_of_mul_eq_mul_right (amD_pos r) h2
theorem whQ_le (r : Nat) : whQ r * S1074 ≤ V r := by
  refine Nat.le_of_mul_le_mul_right (c := amD r) ?_ (amD_pos r)
  rw [V_am, Nat.mul_right_comm]
  exact Nat.mul_le_mul_right _ (Nat.div_mul_le_self _ _)
theorem trunc_wh {r : Nat} (_h : r < 9218868437227405312) : (truncR r = r) ↔ isWh r = true := by
  unfold truncR
  by_cases he : 0 ≤ expF r
  · rw [if_pos he]
    have : amD r = 1 := by unfold amD; rw [show (-expF r).toNat = 0 by omega, Nat.pow_zero]
    refine ⟨fun _ => ?_, fun _ => rfl⟩
    unfold isWh
    rw [this, Nat.mod_one]
    rfl
  · rw [if_neg he]
    have ha : amN r = manF r := by unfold amN; rw [show (expF r).toNat = 0 by omega, Nat.pow_zero, Nat.mul_one]
    have hq : manF r / 2 ^ (-expF r).toNat = whQ r := by unfold whQ; rw [ha]; rfl
    have hlt : whQ r < 9007199254740992 := by rw [← hq]; exact Nat.lt_of_le_of_lt (Nat.div_le_self _ _) manF_lt
    rw [hq]
    constructor
    · intro h1
      have h2 := fw_V hlt
      rw [h1] at h2
      have h3 := V_am (r := r)
      rw [h2, Nat.mul_right_comm] at h3
      have h4 := Nat.eq_of_mul_eq_mul_right S_pos h3
      unfold isWh
      rw [← h4, Nat.mul_mod_left]
      rfl
    · intro h1
      refine V_inj ?_
      rw [fw_V hlt, whQ_V h1]
theorem cmp_neg (a b : Int) : compare (-a) (-b) = compare b a := by
  rcases Int.lt_trichotomy a b with h | h | h
  · rw [Int.compare_eq_gt.2 (show -b < -a by omega), Int.compare_eq_gt.2 h]
  · subst h
    rw [Int.compare_eq_eq.2 rfl, Int.compare_eq_eq.2 rfl]
  · rw [Int.compare_eq_lt.2 (show -a < -b by omega), Int.compare_eq_lt.2 h]
theorem order_neg {r s : Nat} (hr : r < 9218868437227405312) (hs : s < 9218868437227405312) : Ieee.double.order (9223372036854775808 + r) (9223372036854775808 + s) = some (compare (s : Int) (r : Int)) := by
  have h := order_V hs hr
  have hm : ∀ x, x < 9218868437227405312 → mag (9223372036854775808 + x) = x := fun x h => by unfold mag; omega
  have hg : ∀ x, x < 9218868437227405312 → ((9223372036854775808 + x) / 9223372036854775808 % 2 == 1) = true := fun x h => by rw [beq_iff_eq]; omega
  unfold Ieee.Format.order at h ⊢
  rw [read_fin (b := s) (by rw [mag_no hs]; exact hs), mag_no hs, read_fin (b := r) (by rw [mag_no hr]; exact hr), mag_no hr, sign_no hr, sign_no hs] at h
  rw [read_fin (b := 9223372036854775808 + r) (by rw [hm r hr]; exact hr), hm r hr, read_fin (b := 9223372036854775808 + s) (by rw [hm s hs]; exact hs), hm s hs, hg r hr, hg s hs]
  change some (compare (Ieee.signed false (manF s) (expF s - min (expF s) (expF r)).toNat) (Ieee.signed false (manF r) (expF r - min (expF s) (expF r)).toNat)) = _ at h
  change some (compare (-Ieee.signed false (manF r) (expF r - min (expF r) (expF s)).toNat) (-Ieee.signed false (manF s) (expF s - min (expF r) (expF s)).toNat)) = _
  rw [cmp_neg, ← h, show min (expF r) (expF s) = min (expF s) (expF r) by omega]
/-- Two floats of one sign are equal just if their bits are. -/
theorem order_eq_ss {b t : Nat} (hb : b < 18446744073709551616) (h : mag b < 9218868437227405312) (ht : t < 9218868437227405312) : (FloatKind.f64.format.order (sgn b + t) b == some .eq) = decide (t = mag b) := by
  have hs := sgn_mag b hb
  have key : ∀ x y : Nat, ((some (compare (x : Int) (y : Int))) == some Ordering.eq) = decide (x = y) := fun x y => by
    by_cases e : x = y
    · subst e
      rw [Int.compare_eq_eq.2 rfl, decide_eq_true rfl]; rfl
    · rw [decide_eq_false e]
      rcases (by omega : x < y ∨ y < x) with h1 | h1
      · rw [Int.compare_eq_lt.2 (by omega)]; rfl
      · rw [Int.compare_eq_gt.2 (by omega)]; rfl
  show (Ieee.double.order (sgn b + t) b == some .eq) = _
  obtain ⟨m, hm⟩ : ∃ m, mag b = m := ⟨_, rfl⟩
  have h01 : sgn b = 0 ∨ sgn b = 9223372036854775808 := by unfold sgn; omega
  rw [hm] at h hs ⊢
  rcases h01 with h0 | h0
  · rw [h0, Nat.zero_add] at hs ⊢
    subst hs
    rw [order_V ht h, key]
  · rw [h0] at hs ⊢
    subst hs
    rw [order_neg ht h, key]
    exact decide_eq_decide.2 eq_comm
theorem order_lt_B {r B : Nat} (hr : r < 9218868437227405312) (hB : B < 9218868437227405312) : (FloatKind.f64.format.order r B == some .lt) = decide (r < B) := by
  show (Ieee.double.order r B == some .lt) = _
  rw [order_V hr hB]
  rcases Nat.lt_trichotomy r B with h | h | h
  · rw [Int.compare_eq_lt.2 (by omega), decide_eq_true h]; rfl
  · rw [Int.compare_eq_eq.2 (by omega), decide_eq_false (by omega)]; rfl
  · rw [Int.compare_eq_gt.2 (by omega), decide_eq_false (by omega)]; rfl
theorem order_far {r B : Nat} (hr : 9218868437227405312 ≤ r) (hr2 : r < 9223372036854775808) (hB : B < 9218868437227405312) : (FloatKind.f64.format.order r B == some .lt) = false := by
  have hm : mag r = r := Nat.mod_eq_of_lt hr2
  show (Ieee.double.order r B == some .lt) = false
  unfold Ieee.Format.order
  rw [read_fin (b := B) (by rw [mag_no hB]; exact hB)]
  rcases (by omega : r = 9218868437227405312 ∨ 9218868437227405312 < r) with h1 | h1
  · rw [read_inf (by rw [hm]; exact h1), show (r / 9223372036854775808 % 2 == 1) = false by rw [beq_eq_false_iff_ne]; omega]
    rfl
  · rw [read_nan (by rw [hm]; exact h1)]
    rfl
/-- Is it a whole number, nearer to nought than the bound? -/
def wholeB (b B : Nat) : Bool := decide (mag b < B) && isWh (mag b)
theorem mag_lt (b : Nat) : mag b < 9223372036854775808 := by unfold mag; omega
theorem truncR_lt {r : Nat} (h : r < 9218868437227405312) : truncR r < 9218868437227405312 := by
  unfold truncR
  split
  · exact h
  · have := fw_bd (m := manF r / 2 ^ (-expF r).toNat) (Nat.lt_of_le_of_lt (Nat.div_le_self _ _) manF_lt)
    omega
set_option maxRecDepth 100000 in
set_option maxHeartbeats 1000000 in
theorem wholeBelow_any (b B : Nat) (w : World) (hb : b < 18446744073709551616) (hB : B < 9218868437227405312) :
    Calls Tryz.prog 35 #[.float .f64 b, .float .f64 B] w fun e w' => e = .returned (.bool (wholeB b B)) ∧ w = w' := by
  have CA := Lib.hid (abs_any b w hb)
  have hml := mag_lt b
  unfold wholeB
  by_cases hlt : mag b < B
  · have hf : mag b < 9218868437227405312 := by omega
    have ho : (FloatKind.f64.format.order (mag b) B == some .lt) = true := by rw [order_lt_B hf hB]; exact decide_eq_true hlt
    have CT := fun W => trunc_any b W hb hf
    have he := order_eq_ss hb hf (truncR_lt hf)
    have hw : decide (truncR (mag b) = mag b) = isWh (mag b) := by
      cases h : isWh (mag b) with
      | true => exact decide_eq_true ((trunc_wh hf).2 h)
      | false => exact decide_eq_false fun e => by rw [(trunc_wh hf).1 e] at h; cases h
    rw [hw] at he
    rw [decide_eq_true hlt, Bool.true_and]
    obtain ⟨q, hq⟩ : ∃ q, isWh (mag b) = q := ⟨_, rfl⟩
    rw [hq] at he ⊢
    obtain ⟨T, hT⟩ : ∃ T, sgn b + truncR (mag b) = T := ⟨_, rfl⟩
    rw [hT] at CT he
    obtain ⟨M, hM⟩ : ∃ M, mag b = M := ⟨_, rfl⟩
    rw [hM] at CA ho
    have CT := Lib.hid CT
    clear hw hq hT hM hlt hf hml
    go_enter Tryz.func35, Tryz.ntmps35
    go_wp2_with fail
    refine CA.out.mono ?_
    rintro e w' ⟨rfl, rfl⟩
    go_wp2_with fail
    refine (CT.out _).mono ?_
    rintro e w' ⟨rfl, rfl⟩
    cases q
    · go_wp2_with fail
      go_ret
      exact ⟨rfl, rfl⟩
    · go_wp2_with fail
      go_ret
      exact ⟨rfl, rfl⟩
  · have ho : (FloatKind.f64.format.order (mag b) B == some .lt) = false := by
      rcases Nat.lt_or_ge (mag b) 9218868437227405312 with h | h
      · rw [order_lt_B h hB]; exact decide_eq_false hlt
      · exact order_far h hml hB
    rw [decide_eq_false hlt, Bool.false_and]
    obtain ⟨M, hM⟩ : ∃ M, mag b = M := ⟨_, rfl⟩
    rw [hM] at CA ho
    clear hlt hM hml
    go_enter Tryz.func35, Tryz.ntmps35
    go_wp2_with fail
    refine CA.out.mono ?_
    rintro e w' ⟨rfl, rfl⟩
    go_wp2_with fail
    go_ret
    exact ⟨rfl, rfl⟩
/-- The whole number that a float is. -/
def whZ (b : Nat) : Int := if sgn b = 0 then (whQ (mag b) : Int) else -(whQ (mag b) : Int)
theorem toInt_wh {b : Nat} (h : mag b < 9218868437227405312) : (FloatKind.f64.decode b).toInt .zero = some (whZ b) := by
  show (Ieee.double.read b).toInt .zero = _
  rw [read_fin h]
  show some (Ieee.signed (b / 9223372036854775808 % 2 == 1) (Ieee.Toward.zero.cut (b / 9223372036854775808 % 2 == 1) (manF (mag b) <<< (expF (mag b)).toNat) (-expF (mag b)).toNat) 0) = _
  rw [cut_zero, Nat.shiftLeft_eq]
  show some (Ieee.signed _ (whQ (mag b)) 0) = _
  unfold whZ sgn Ieee.signed
  rcases (by omega : b / 9223372036854775808 % 2 = 0 ∨ b / 9223372036854775808 % 2 = 1) with e | e
  · rw [e]
    simp
  · rw [e]
    simp
theorem e16_V : V 4846369599423283200 = 10000000000000000 * S1074 := by decide +kernel
theorem whQ_lt {r B Q : Nat} (h : r < B) (hB : V B = Q * S1074) : whQ r < Q := by
  have h1 := V_lt h
  rw [hB] at h1
  exact Nat.lt_of_mul_lt_mul_right (Nat.lt_of_le_of_lt (whQ_le r) h1)
theorem whZ_bd {b : Nat} (Q : Nat) (h : whQ (mag b) < Q) : -(Q : Int) < whZ b ∧ whZ b < (Q : Int) := by
  unfold whZ
  split <;> omega
theorem int_of_wh {b : Nat} (h : mag b < 9218868437227405312) (hq : whQ (mag b) < 9223372036854775807) : floatToIntVal .f64 b .i64 = some (whZ b) := by
  have := whZ_bd _ hq
  unfold floatToIntVal
  rw [toInt_wh h]
  show (if IntKind.i64.min ≤ whZ b ∧ whZ b ≤ IntKind.i64.max then some (whZ b) else none) = _
  rw [if_pos]
  show -9223372036854775808 ≤ whZ b ∧ whZ b ≤ 9223372036854775807
  omega
abbrev PowTab (w : World) : Prop := Lib.TabIs Tryz.prog w "internal/strconv.uint64pow10" .u64 Lib.pow10Tab
/-- What Whole answers. -/
def wholeT (b : Nat) : List UInt8 := Lib.itoa (whZ b)
set_option maxRecDepth 100000 in
set_option maxHeartbeats 1000000 in
theorem whole_yes (b : Nat) (w : World) (hb : b < 18446744073709551616) (h : wholeB b 4846369599423283200 = true) (hT : PowTab w) :
    Calls Tryz.prog 11 #[.float .f64 b] w fun e w' => e = .returned (.tuple #[.string ⟨(wholeT b).toArray⟩, .bool true]) ∧ Below w.heap.size w w' := by
  have C1 := wholeBelow_any b 4846369599423283200 w hb (by omega)
  rw [h] at C1
  have hlt : mag b < 4846369599423283200 := by
    unfold wholeB at h
    exact of_decide_eq_true (Bool.and_eq_true_iff.1 h).1
  have hq := whQ_lt hlt e16_V
  have hi := int_of_wh (b := b) (by omega) (by omega)
  have hz := whZ_bd _ hq
  unfold wholeT
  obtain ⟨n, hn⟩ : ∃ n, whZ b = n := ⟨_, rfl⟩
  rw [hn] at hi hz ⊢
  obtain ⟨hz1, hz2⟩ := hz
  have hc : ∀ W, (convert 24 2 (.float .f64 b)).run Tryz.prog W = .ok (.int .i64 n) W := fun W => run_convert_float_int W 24 2 .f64 .i64 _ _ (by rw [Tryz.underlying24]; rfl) Tryz.underlying2 hi
  have C2 := fun W h => Tryz.strconv_FormatInt_10 n (by omega) (by omega) W h
  have C1 := Lib.hid C1
  have C2 := Lib.hid C2
  have HT := Lib.hid hT
  clear h hlt hq hi hn hz1 hz2 hT
  go_enter Tryz.func11, Tryz.ntmps11
  go_wp2_with fail
  refine C1.out.mono ?_
  rintro e w' ⟨rfl, rfl⟩
  go_wp2_with fail
  refine (C2.out _ HT.out).mono ?_
  rintro e W2 ⟨rfl, k, os, hw⟩
  have hB : Below w.heap.size w W2 := by rw [hw]; exact Lib.below_grow w.heap.size w (Nat.le_refl _) k os
  clear hw
  go_wp2_with fail
  go_ret2
  exact ⟨rfl, hB⟩
set_option maxRecDepth 100000 in
set_option maxHeartbeats 1000000 in
theorem whole_no (b : Nat) (w : World) (hb : b < 18446744073709551616) (h : wholeB b 4846369599423283200 = false) :
    Calls Tryz.prog 11 #[.float .f64 b] w fun e w' => e = .returned (.tuple #[.string ⟨#[]⟩, .bool false]) ∧ w = w' := by
  have C1 := wholeBelow_any b 4846369599423283200 w hb (by omega)
  rw [h] at C1
  have C1 := Lib.hid C1
  clear h
  go_enter Tryz.func11, Tryz.ntmps11
  go_wp2_with fail
  refine C1.out.mono ?_
  rintro e w' ⟨rfl, rfl⟩
  go_wp2_with fail
  go_ret2
  exact ⟨rfl, rfl⟩
end Go.Proofs.YtddfigbpckhfbaaGreatDoor

namespace Go.Proofs.YtddfigbpckhfbaaGreatDoor
open Go.RowKit Go.Lib

theorem idx_has (l : List UInt8) (x : UInt8) : decide (0 ≤ Lib.indexByte l x) = l.contains x := by
  induction l with
  | nil => rfl
  | cons d l ih =>
    have hge := Lib.indexByte_ge l x
    rw [List.contains_cons]
    have he : Lib.indexByte (d :: l) x = if (d == x) = true then 0 else if (Lib.indexByte l x == -1) = true then -1 else Lib.indexByte l x + 1 := rfl
    rw [he]
    by_cases h : d = x
    · subst h
      rw [beq_self_eq_true, if_pos rfl, Bool.true_or]
      rfl
    · have h1 : (d == x) = false := beq_eq_false_iff_ne.2 h
      have h2 : (x == d) = false := beq_eq_false_iff_ne.2 (fun e => h e.symm)
      rw [h1, h2, Bool.false_or, ← ih, if_neg (by decide)]
      generalize Lib.indexByte l x = y at *
      by_cases h3 : y = -1
      · subst h3; rfl
      · rw [if_neg (by rw [beq_iff_eq]; exact h3), decide_eq_true (by omega), decide_eq_true (by omega)]
set_option maxRecDepth 100000 in
theorem among_any (S : ByteArray) (c : Nat) (w : World) : Calls Tryz.prog 179 #[.string S, .int .u8 (c : Int)] w fun e w' => e = .returned (.bool (S.data.toList.contains c.toUInt8)) ∧ w = w' := by
  have C := Lib.hid (Tryz.strings_IndexByte S (c : Int) w)
  have hx := idx_has S.data.toList (c : Int).toNat.toUInt8
  obtain ⟨y, hy⟩ : ∃ y, Lib.indexByte S.data.toList (c : Int).toNat.toUInt8 = y := ⟨_, rfl⟩
  have H := Lib.hid hy
  rw [hy, Int.toNat_natCast] at hx
  have C := C.out
  rw [hy] at C
  have C := Lib.hid C
  have HX := Lib.hid hx
  clear hx hy
  go_enter Tryz.func179, Tryz.ntmps179
  go_wp2_with fail
  refine C.out.mono ?_
  rintro e w' ⟨rfl, rfl⟩
  go_wp2_with fail
  go_ret
  exact ⟨by show Ending.returned (.bool (decide (0 ≤ y))) = _; rw [HX.out], rfl⟩
theorem repeat_one (x : UInt8) (k : Nat) : Lib.repeatL [x] k = List.replicate k x := by
  induction k with
  | zero => rfl
  | succ k ih =>
    show [x] ++ Lib.repeatL [x] k = _
    rw [ih, List.replicate_succ]
    rfl
set_option maxRecDepth 100000 in
theorem rep_any (x : UInt8) (k : Int) (w : World) (h0 : -1099511627776 ≤ k) (h1 : k ≤ 1099511627776) : Calls Tryz.prog 216 #[.string ⟨#[x]⟩, .int .i64 k] w fun e w' => e = .returned (.string ⟨(List.replicate k.toNat x).toArray⟩) ∧ Below w.heap.size w w' := by
  obtain ⟨z, hz⟩ : ∃ z, k.toNat = z := ⟨_, rfl⟩
  have hmx : max (0 : Int) k = (z : Int) := by omega
  have cR := Tryz.strings_Repeat ⟨#[x]⟩ z w (by omega) (by show 1 * z ≤ _; omega)
  replace cR : Calls Tryz.prog 236 #[.string ⟨#[x]⟩, .int .i64 z] w fun e w' => e = .returned (.string ⟨(Lib.repeatL [x] z).toArray⟩) ∧ Below w.heap.size w w' := cR
  rw [repeat_one] at cR
  rw [hz]
  have CR := Lib.hid cR
  clear cR hz
  go_enter Tryz.func216, Tryz.ntmps216
  go_wp2_with fail
  refine CR.out.mono ?_
  rintro e w' ⟨rfl, hB⟩
  go_wp2_with fail
  go_ret
  exact ⟨rfl, hB⟩
/-- A text with so many blanks ahead of it or behind. -/
def fillL (s : List UInt8) (k : Int) (behind : Bool) : List UInt8 := if behind then s ++ List.replicate k.toNat 32 else List.replicate k.toNat 32 ++ s
theorem ba_cat (s : ByteArray) (l : List UInt8) : s ++ ⟨l.toArray⟩ = ⟨(s.data.toList ++ l).toArray⟩ := by
  apply ByteArray.ext
  apply Array.toList_inj.1
  rw [ByteArray.data_append, Array.toList_append]
theorem ba_cat2 (s : ByteArray) (l : List UInt8) : (⟨l.toArray⟩ : ByteArray) ++ s = ⟨(l ++ s.data.toList).toArray⟩ := by
  apply ByteArray.ext
  apply Array.toList_inj.1
  rw [ByteArray.data_append, Array.toList_append]
set_option maxRecDepth 100000 in
set_option maxHeartbeats 1000000 in
theorem fill_any (s : ByteArray) (k : Int) (bh : Bool) (w : World) (hs : s.size ≤ 1099511627776) (h0 : -1099511627776 ≤ k) (h1 : k ≤ 1099511627776) : Calls Tryz.prog 180 #[.string s, .int .i64 k, .bool bh] w fun e w' => e = .returned (.string ⟨(fillL s.data.toList k bh).toArray⟩) ∧ Below w.heap.size w w' := by
  have CR := Lib.hid (rep_any 32 k w h0 h1)
  have e1 := ba_cat s (List.replicate k.toNat 32)
  have e2 := ba_cat2 s (List.replicate k.toNat 32)
  obtain ⟨R, hR⟩ : ∃ R : ByteArray, (⟨(List.replicate k.toNat (32 : UInt8)).toArray⟩ : ByteArray) = R := ⟨_, rfl⟩
  have hRs : R.size ≤ 1099511627776 := by rw [← ba_len, ← hR]; show (List.replicate k.toNat (32 : UInt8)).length ≤ _; rw [List.length_replicate]; omega
  have g1 : ¬ 9223372036854775807 < s.size + R.size := by omega
  have g2 : ¬ 9223372036854775807 < R.size + s.size := by omega
  have CR := CR.out
  rw [hR] at CR e1 e2
  have CR := Lib.hid CR
  have E1 := Lib.hid e1
  have E2 := Lib.hid e2
  clear e1 e2 hR h0 h1 hs hRs
  cases bh with
  | true =>
    go_enter Tryz.func180, Tryz.ntmps180
    go_wp2_with fail
    refine CR.out.mono ?_
    rintro e w' ⟨rfl, hB⟩
    go_wp2_with fail
    go_ret
    exact ⟨by show Ending.returned (.string (s ++ R)) = _; rw [fillL, if_pos rfl, ← E1.out], hB⟩
  | false =>
    go_enter Tryz.func180, Tryz.ntmps180
    go_wp2_with fail
    refine CR.out.mono ?_
    rintro e w' ⟨rfl, hB⟩
    go_wp2_with fail
    go_ret
    exact ⟨by show Ending.returned (.string (R ++ s)) = _; rw [fillL, if_neg (by decide), ← E2.out], hB⟩
/-- The verbs: all; of numbers; of whole ones; of texts; those that write capitals; those that write a sign only below 0. -/
def vAll : List UInt8 := [100, 105, 111, 120, 88, 117, 101, 69, 102, 70, 103, 71, 99, 115, 37]
def vNum : List UInt8 := [100, 105, 111, 120, 88, 117, 101, 69, 102, 70, 103, 71]
def vWhole : List UInt8 := [100, 105, 111, 120, 88, 117]
def vText : List UInt8 := [99, 115]
def vCap : List UInt8 := [88, 69, 70, 71]
def vMin : List UInt8 := [111, 120, 88, 117]
/-- May a value be written so? -/
def chkB (wd pr : Int) (c : Nat) : Bool := (decide (0 ≤ wd) && decide (wd ≤ 1024)) && (decide (-1 ≤ pr) && decide (pr ≤ 190)) && vAll.contains c.toUInt8
set_option maxRecDepth 100000 in
set_option maxHeartbeats 1000000 in
theorem check_any (m p b a z : Bool) (wd pr : Int) (c : Nat) (w : World) : Calls Tryz.prog 144 #[.agg #[.bool m, .bool p, .bool b, .bool a, .bool z, .int .i64 wd, .int .i64 pr, .int .u8 (c : Int)]] w fun e w' => e = .returned (.int .i64 (if chkB wd pr c then 0 else 50)) ∧ Below w.heap.size w w' := by
  have cA := fun W => among_any ⟨#[100, 105, 111, 120, 88, 117, 101, 69, 102, 70, 103, 71, 99, 115, 37]⟩ c W
  replace cA : ∀ w : World, Calls Tryz.prog 179 #[.string ⟨#[100, 105, 111, 120, 88, 117, 101, 69, 102, 70, 103, 71, 99, 115, 37]⟩, .int .u8 (c : Int)] w fun e w' => e = .returned (.bool (vAll.contains c.toUInt8)) ∧ w = w' := cA
  unfold chkB
  obtain ⟨v, hv⟩ : ∃ v, vAll.contains c.toUInt8 = v := ⟨_, rfl⟩
  rw [hv] at cA ⊢
  have CA := Lib.hid cA
  clear cA hv
  by_cases h1 : 0 ≤ wd
  · by_cases h2 : wd ≤ 1024
    · by_cases h3 : -1 ≤ pr
      · by_cases h4 : pr ≤ 190
        · rw [decide_eq_true h1, decide_eq_true h2, decide_eq_true h3, decide_eq_true h4]
          cases v with
          | true =>
            go_enter Tryz.func144, Tryz.ntmps144
            go_wp2_with fail
            refine (CA.out _).mono ?_
            rintro e w' ⟨rfl, rfl⟩
            go_wp2_with fail
            go_ret
            exact ⟨rfl, (Below.refl _ _).alloc (Nat.le_refl _) _⟩
          | false =>
            go_enter Tryz.func144, Tryz.ntmps144
            go_wp2_with fail
            refine (CA.out _).mono ?_
            rintro e w' ⟨rfl, rfl⟩
            go_wp2_with fail
            go_ret
            exact ⟨rfl, (Below.refl _ _).alloc (Nat.le_refl _) _⟩
        · rw [decide_eq_false h4, Bool.and_false, Bool.and_false, Bool.false_and]
          go_enter Tryz.func144, Tryz.ntmps144
          go_wp2_with fail
          go_ret
          exact ⟨rfl, (Below.refl _ _).alloc (Nat.le_refl _) _⟩
      · rw [decide_eq_false h3, Bool.false_and, Bool.and_false, Bool.false_and]
        go_enter Tryz.func144, Tryz.ntmps144
        go_wp2_with fail
        go_ret
        exact ⟨rfl, (Below.refl _ _).alloc (Nat.le_refl _) _⟩
    · rw [decide_eq_false h2, Bool.and_false, Bool.false_and, Bool.false_and]
      by_cases h3 : -1 ≤ pr <;> by_cases h4 : pr ≤ 190
      all_goals first | (exfalso; omega) | skip
      all_goals
        go_enter Tryz.func144, Tryz.ntmps144
        go_wp2_with fail
        go_ret
        exact ⟨rfl, (Below.refl _ _).alloc (Nat.le_refl _) _⟩
  · rw [decide_eq_false h1, Bool.false_and, Bool.false_and, Bool.false_and]
    by_cases h3 : -1 ≤ pr <;> by_cases h4 : pr ≤ 190
    all_goals first | (exfalso; omega) | skip
    all_goals
      go_enter Tryz.func144, Tryz.ntmps144
      go_wp2_with fail
      go_ret
      exact ⟨rfl, (Below.refl _ _).alloc (Nat.le_refl _) _⟩
/-- What stands ahead of a number. -/
def signL (p b : Bool) (c : Nat) (below : Bool) : List UInt8 := if below then [45] else if vMin.contains c.toUInt8 then [] else if p then [43] else if b then [32] else []
set_option maxRecDepth 100000 in
set_option maxHeartbeats 1000000 in
theorem sign_any (m p b a z : Bool) (wd pr : Int) (c : Nat) (bl : Bool) (w : World) : Calls Tryz.prog 217 #[.agg #[.bool m, .bool p, .bool b, .bool a, .bool z, .int .i64 wd, .int .i64 pr, .int .u8 (c : Int)], .bool bl] w fun e w' => e = .returned (.string ⟨(signL p b c bl).toArray⟩) ∧ Below w.heap.size w w' := by
  have cA := fun W => among_any ⟨#[111, 120, 88, 117]⟩ c W
  replace cA : ∀ w : World, Calls Tryz.prog 179 #[.string ⟨#[111, 120, 88, 117]⟩, .int .u8 (c : Int)] w fun e w' => e = .returned (.bool (vMin.contains c.toUInt8)) ∧ w = w' := cA
  unfold signL
  obtain ⟨v, hv⟩ : ∃ v, vMin.contains c.toUInt8 = v := ⟨_, rfl⟩
  rw [hv] at cA ⊢
  have CA := Lib.hid cA
  clear cA hv
  cases bl with
  | true =>
    go_enter Tryz.func217, Tryz.ntmps217
    go_wp2_with fail
    go_ret
    exact ⟨rfl, (Below.refl _ _).alloc (Nat.le_refl _) _⟩
  | false =>
    cases v with
    | true =>
      go_enter Tryz.func217, Tryz.ntmps217
      go_wp2_with fail
      refine (CA.out _).mono ?_
      rintro e w' ⟨rfl, rfl⟩
      go_wp2_with fail
      go_ret
      exact ⟨rfl, (Below.refl _ _).alloc (Nat.le_refl _) _⟩
    | false =>
      cases p <;> cases b
      all_goals
        go_enter Tryz.func217, Tryz.ntmps217
        go_wp2_with fail
        refine (CA.out _).mono ?_
        rintro e w' ⟨rfl, rfl⟩
        go_wp2_with fail
        go_ret
        exact ⟨rfl, (Below.refl _ _).alloc (Nat.le_refl _) _⟩
end Go.Proofs.YtddfigbpckhfbaaGreatDoor

namespace Go.Proofs.YtddfigbpckhfbaaGreatDoor
open Go.RowKit Go.Lib

/-- Only the blocks of the list may have turned. -/
structure Out (G : List Nat) (w w' : World) : Prop where
  os : w'.os = w.os
  tape : w'.tape = w.tape
  output : w'.output = w.output
  size : w.heap.size ≤ w'.heap.size
  block : ∀ k, k ∉ G → k < w.heap.size → w'.heap[k]? = w.heap[k]?
theorem Out.refl (G : List Nat) (w : World) : Out G w w := ⟨rfl, rfl, rfl, Nat.le_refl _, fun _ _ _ => rfl⟩
theorem Out.trans {G : List Nat} {a b c : World} (h : Out G a b) (k : Out G b c) : Out G a c :=
  ⟨k.os.trans h.os, k.tape.trans h.tape, k.output.trans h.output, Nat.le_trans h.size k.size, fun i hi hl => (k.block i hi (Nat.lt_of_lt_of_le hl h.size)).trans (h.block i hi hl)⟩
theorem Out.more {G G' : List Nat} {a b : World} (h : Out G a b) (hs : ∀ x ∈ G, x ∈ G') : Out G' a b :=
  ⟨h.os, h.tape, h.output, h.size, fun k hk hl => h.block k (fun hx => hk (hs k hx)) hl⟩
theorem Out.below {G : List Nat} {a b : World} {B : Nat} (h : Out G a b) (hB : B ≤ a.heap.size) (hG : ∀ x ∈ G, B ≤ x) : Below B a b :=
  ⟨h.os, h.tape, h.output, h.size, fun k hk => h.block k (fun hx => by have := hG k hx; omega) (Nat.lt_of_lt_of_le hk hB)⟩
theorem Out.of_below {G : List Nat} {a b : World} (h : Below a.heap.size a b) : Out G a b :=
  ⟨h.os, h.tape, h.output, h.size, fun k _ hl => h.block k hl⟩
theorem Out.five {G : List Nat} {a b : World} {g : Nat} {cs : Array Value} {t : TypeId} (h : Out G a b) (f : Five a g cs t) (hg : g ∉ G) : Five b g cs t := ⟨(h.block g hg f.lt).trans f.row⟩
theorem Out.set {G : List Nat} {a w : World} (h : Out G a w) {p : Addr} (hp : p.block ∈ G) (u : Value) : Out G a (w.setCell p u) := by
  have hb := (Below.refl 0 w).setCell (p := p) (Nat.zero_le _) u
  refine ⟨hb.os.trans h.os, hb.tape.trans h.tape, hb.output.trans h.output, Nat.le_trans h.size hb.size, fun k hk hl => ?_⟩
  rw [Below.heap_setCell w p u k (fun e => hk (e ▸ hp))]
  exact h.block k hk hl
/-- The byte at a place; 0 behind the last one. -/
def atB (S : ByteArray) (k : Nat) : Nat := if h : k < S.size then (S[k]'h).toNat else 0
theorem atB_lt (S : ByteArray) (k : Nat) : atB S k < 256 := by
  unfold atB
  split
  · exact UInt8.toNat_lt _
  · omega
theorem atB_in {S : ByteArray} {k : Nat} (h : k < S.size) : atB S k = (S[k]'h).toNat := dif_pos h
theorem atB_out {S : ByteArray} {k : Nat} (h : ¬ k < S.size) : atB S k = 0 := dif_neg h
set_option maxRecDepth 100000 in
set_option maxHeartbeats 1000000 in
theorem peek_any (S : ByteArray) (k g : Nat) (w : World) (hk : k ≤ S.size) (_hS : S.size ≤ 4611686018427387904) (h : Five w g #[.string S, .int .i64 k] 166) :
    Calls Tryz.prog 190 #[.pointer (some ⟨g, 0, none⟩)] w fun e w' => e = .returned (.int .u8 (atB S k)) ∧ ∃ n, w' = w.drewN n := by
  have h0 := h.cell 0
  have h1 := h.cell 1
  have f0 := h.fro 0
  have f1 := h.fro 1
  by_cases hlt : k < S.size
  · rw [atB_in hlt]
    have hne : ((k : Int) == (S.size : Int)) = false := by rw [beq_eq_false_iff_ne]; omega
    go_enter Tryz.func190, Tryz.ntmps190
    go_wp2_with fail
    go_quiet (fail)
    go_wp2_with fail
    go_quiet (fail)
    go_wp2_with fail
    go_ret
    first | exact ⟨rfl, _, rfl⟩ | exact ⟨rfl, _, World.drewN_drewN _ _ _⟩
  · rw [atB_out hlt]
    have hne : ((k : Int) == (S.size : Int)) = true := by rw [beq_iff_eq]; omega
    go_enter Tryz.func190, Tryz.ntmps190
    go_wp2_with fail
    go_quiet (fail)
    go_wp2_with fail
    go_ret
    first | exact ⟨rfl, _, rfl⟩ | exact ⟨rfl, _, World.drewN_drewN _ _ _⟩
/-- The reader's block, its place told. -/
abbrev Rdr (w : World) (g : Nat) (S : ByteArray) (k : Nat) : Prop := Five w g #[.string S, .int .i64 k] 166
theorem Rdr.step {w : World} {g : Nat} {S : ByteArray} {k : Nat} (h : Rdr w g S k) (j : Nat) : Rdr (w.setCell ⟨g, 1, none⟩ (.int .i64 j)) g S j := by
  have h2 := Five.set (j := 1) (u := .int .i64 j) h
  exact h2
theorem Five.drew {W : World} {g : Nat} {cs : Array Value} {t : TypeId} (h : Five W g cs t) (n : Nat) : Five (W.drewN n) g cs t := ⟨h.row⟩
theorem Out.drew {G : List Nat} {a b : World} (h : Out G a b) (n : Nat) : Out G a (b.drewN n) := ⟨h.os, h.tape, h.output, h.size, h.block⟩
set_option maxRecDepth 100000 in
set_option maxHeartbeats 1000000 in
theorem take_any (S : ByteArray) (k g c : Nat) (w : World) (hk : k ≤ S.size) (hS : S.size ≤ 4611686018427387904) (hc : 0 < c) (h : Rdr w g S k) :
    Calls Tryz.prog 187 #[.pointer (some ⟨g, 0, none⟩), .int .u8 (c : Int)] w fun e w' => e = .returned (.bool (decide (atB S k = c))) ∧ Rdr w' g S (if atB S k = c then k + 1 else k) ∧ Out [g] w w' := by
  have CP := Lib.hid (peek_any S k g w hk hS h)
  have H := Lib.hid h
  by_cases he : atB S k = c
  · rw [if_pos he, decide_eq_true he]
    have hlt : k < S.size := by
      rcases Nat.lt_or_ge k S.size with h2 | h2
      · exact h2
      · rw [atB_out (by omega)] at he; omega
    have hw : wrap64 ((k : Int) + 1) = ((k + 1 : Nat) : Int) := by unfold wrap64; omega
    have HE := Lib.hid he
    clear h he
    rw [HE.out] at CP
    have hb : ((c : Int) == (c : Int)) = true := beq_self_eq_true _
    have hb2 : ((c : Int) != (c : Int)) = false := by rw [bne_eq_false_iff_eq]
    go_enter Tryz.func187, Tryz.ntmps187
    go_wp2_with fail
    refine CP.out.mono ?_
    rintro e w' ⟨rfl, n, rfl⟩
    have h1 := (H.out.drew n).cell 1
    have f1 := (H.out.drew n).fro 1
    go_wp2_with fail
    go_ret
    exact ⟨rfl, (show Rdr (w.drewN n) g S k from H.out.drew n).step (k + 1), ((Out.refl _ _).drew n).set (by simp) _⟩
  · rw [if_neg he, decide_eq_false he]
    obtain ⟨y, hy⟩ : ∃ y, atB S k = y := ⟨_, rfl⟩
    rw [hy] at CP he
    have hb : ((c : Int) == (y : Int)) = false := by rw [beq_eq_false_iff_ne]; omega
    have hb2 : ((c : Int) != (y : Int)) = true := by rw [bne_iff_ne]; omega
    have hb3 : ((y : Int) == (c : Int)) = false := by rw [beq_eq_false_iff_ne]; omega
    have hb4 : ((y : Int) != (c : Int)) = true := by rw [bne_iff_ne]; omega
    clear h hy he
    go_enter Tryz.func187, Tryz.ntmps187
    go_wp2_with fail
    refine CP.out.mono ?_
    rintro e w' ⟨rfl, n, rfl⟩
    go_wp2_with fail
    go_ret
    exact ⟨rfl, H.out.drew n, (Out.refl _ _).drew n⟩
end Go.Proofs.YtddfigbpckhfbaaGreatDoor

namespace Go.Proofs.YtddfigbpckhfbaaGreatDoor
open Go.RowKit Go.Lib

/-- How many bytes from a place on are of a kind. -/
def runP (p : Nat → Bool) (S : ByteArray) (k : Nat) : Nat → Nat
  | 0 => 0
  | f + 1 => if p (atB S k) = true then 1 + runP p S (k + 1) f else 0
theorem runP_at {p : Nat → Bool} {S : ByteArray} {k n f : Nat} (hn : n ≤ f) (h : ∀ i, i < n → p (atB S (k + i)) = true) (hs : p (atB S (k + n)) = false ∨ n = f) : runP p S k f = n := by
  induction f generalizing k n with
  | zero => rw [runP]; omega
  | succ f ih =>
    rw [runP]
    rcases Nat.eq_zero_or_pos n with rfl | h0
    · rcases hs with hs | hs
      · rw [Nat.add_zero] at hs
        rw [if_neg (by rw [hs]; decide)]
      · omega
    · obtain ⟨m, rfl⟩ : ∃ m, n = m + 1 := ⟨n - 1, by omega⟩
      have h1 := h 0 (by omega)
      rw [Nat.add_zero] at h1
      rw [if_pos h1, ih (n := m) (by omega) (fun i hi => by have := h (i + 1) (by omega); rwa [show k + (i + 1) = k + 1 + i by omega] at this) (by rcases hs with hs | hs
                                                                                                                                                   · left; rwa [show k + (m + 1) = k + 1 + m by omega] at hs
                                                                                                                                                   · right; omega)]
      omega
def isFl (c : Nat) : Bool := c == 45 || c == 43 || c == 32 || c == 35 || c == 48
def isDg (c : Nat) : Bool := decide (48 ≤ c) && decide (c ≤ 57)
/-- Where the flags end. -/
def flE (S : ByteArray) (k : Nat) : Nat := k + runP isFl S k (S.size - k)
/-- Does a byte stand among the n ones from k on? -/
def hasN (S : ByteArray) (k c : Nat) : Nat → Bool
  | 0 => false
  | n + 1 => hasN S k c n || atB S (k + n) == c
def flV (S : ByteArray) (k n : Nat) : Array Value := #[.bool (hasN S k 45 n), .bool (hasN S k 43 n), .bool (hasN S k 32 n), .bool (hasN S k 35 n), .bool (hasN S k 48 n), .int .i64 0, .int .i64 0, .int .u8 0, .bool false, .bool false, .int .i64 0]
def atOf (w : World) (g : Nat) : Nat := match w.cell? ⟨g, 1, none⟩ with
  | some (.int _ z) => z.toNat
  | _ => 0
theorem atOf_rdr {w : World} {g k : Nat} {S : ByteArray} (h : Rdr w g S k) : atOf w g = k := by
  unfold atOf
  rw [h.cell 1]
  rfl
theorem isFl_cases {c : Nat} : isFl c = true ↔ c = 45 ∨ c = 43 ∨ c = 32 ∨ c = 35 ∨ c = 48 := by
  unfold isFl
  simp [or_assoc]
theorem hasN_step {S : ByteArray} {k n x : Nat} (h : atB S (k + n) = x) (c : Nat) : hasN S k c (n + 1) = (hasN S k c n || x == c) := by
  rw [hasN, h]
theorem atB_size {S : ByteArray} {k : Nat} (h : 0 < atB S k) : k < S.size := by
  rcases Nat.lt_or_ge k S.size with h2 | h2
  · exact h2
  · rw [atB_out (by omega)] at h; omega
theorem run_end {p : Nat → Bool} (_h0 : p 0 = false) {S : ByteArray} {k n : Nat} (hk : k + n ≤ S.size) (h : ∀ i, i < n → p (atB S (k + i)) = true) (hs : p (atB S (k + n)) = false) : runP p S k (S.size - k) = n :=
  runP_at (by omega) h (Or.inl hs)
theorem flV_step {S : ByteArray} {k n x : Nat} (h : atB S (k + n) = x) : flV S k (n + 1) = #[.bool (hasN S k 45 n || x == 45), .bool (hasN S k 43 n || x == 43), .bool (hasN S k 32 n || x == 32), .bool (hasN S k 35 n || x == 35), .bool (hasN S k 48 n || x == 48), .int .i64 0, .int .i64 0, .int .u8 0, .bool false, .bool false, .int .i64 0] := by
  unfold flV
  rw [hasN_step h, hasN_step h, hasN_step h, hasN_step h, hasN_step h]
set_option maxRecDepth 100000 in
set_option maxHeartbeats 8000000 in
theorem flags_any (S : ByteArray) (k g h : Nat) (w : World) (hk : k ≤ S.size) (hS : S.size ≤ 4611686018427387904) (hR : Rdr w g S k) (hP : Five w h (flV S k 0) 96) (hne : g ≠ h) :
    Calls Tryz.prog 188 #[.pointer (some ⟨g, 0, none⟩), .pointer (some ⟨h, 0, none⟩)] w fun e w' => e = .returned (.tuple #[]) ∧ Rdr w' g S (flE S k) ∧ Five w' h (flV S k (flE S k - k)) 96 ∧ Out [g, h] w w' := by
  have CP := Lib.hid (fun (j : Nat) (W : World) (hj : j ≤ S.size) (H : Rdr W g S j) => peek_any S j g W hj hS H)
  have ne1 : ¬ g = h := hne
  have ne2 : ¬ h = g := fun e => hne e.symm
  clear hne
  go_enter Tryz.func188, Tryz.ntmps188
  go_wp2_with fail
  go_loopw [] (fun wr => ∃ n : Nat, k + n ≤ S.size ∧ Rdr wr g S (k + n) ∧ Five wr h (flV S k n) 96 ∧ Out [g, h] w wr ∧ ∀ i, i < n → isFl (atB S (k + i)) = true) (fun wr => S.size - atOf wr g)
  case atStart => exact ⟨0, hk, hR, hP, Out.refl _ _, fun i hi => absurd hi (Nat.not_lt_zero i)⟩
  case round =>
    obtain ⟨n, hn, hRr, hPr, hO, hall⟩ := hrel
    have CQ := Lib.hid (CP.out _ _ hn hRr)
    have HRr := Lib.hid hRr
    have HPr := Lib.hid hPr
    have HO := Lib.hid hO
    have HALL := Lib.hid hall
    obtain ⟨x, hx⟩ : ∃ x, atB S (k + n) = x := ⟨_, rfl⟩
    rw [hx] at CQ
    have HX := Lib.hid hx
    have HS := Lib.hid (flV_step hx)
    have HM := Lib.hid (atOf_rdr hRr)
    clear hR hP hRr hPr hO hall hx
    by_cases hfl : isFl x = true
    · have hlt : k + n < S.size := atB_size (by rw [HX.out]; rcases isFl_cases.1 hfl with h | h | h | h | h <;> omega)
      have hw : wrap64 (((k + n : Nat) : Int) + 1) = ((k + n + 1 : Nat) : Int) := by unfold wrap64; omega
      have hwI : wrap64 ((k : Int) + (n : Int) + 1) = ((k + n + 1 : Nat) : Int) := by unfold wrap64; omega
      have hall2 : ∀ i, i < n + 1 → isFl (atB S (k + i)) = true := fun i hi => by
        rcases Nat.lt_or_ge i n with h2 | h2
        · exact HALL.out i h2
        · obtain rfl : n = i := by omega
          rw [HX.out]; exact hfl
      have HALL2 := Lib.hid hall2
      have hcase := isFl_cases.1 hfl
      clear hall2 hfl
      rcases hcase with rfl | rfl | rfl | rfl | rfl
      · have e : flV S k (n + 1) = (flV S k n).setIfInBounds 0 (.bool true) := by rw [HS.out]; unfold flV; simp
        have HE := Lib.hid e
        clear e
        go_wp2_with fail
        refine CQ.out.mono ?_
        rintro e W1 ⟨rfl, q, rfl⟩
        have c0 := (HPr.out.drew q).cell 0
        have f0 := (HPr.out.drew q).fro 0
        have c1 := (HRr.out.drew q).cell 1
        have f1 := (HRr.out.drew q).fro 1
        go_wp2_with fail
        go_roundw
        case rel => exact ⟨n + 1, by omega, ((show Rdr _ g S (k + n) from (HRr.out.drew q).other (j := 0) (u := .bool true) ne1).step (k + n + 1)), by rw [HE.out]; exact ((HPr.out.drew q).set (j := 0) (u := .bool true)).other (j := 1) ne2, ((HO.out.drew q).set (p := ⟨h, 0, none⟩) (by simp) _).set (p := ⟨g, 1, none⟩) (by simp) _, HALL2.out⟩
        case measure =>
          rw [HM.out]
          have hm2 := atOf_rdr ((show Rdr _ g S (k + n) from (HRr.out.drew q).other (j := 0) (u := .bool true) ne1).step (k + n + 1))
          rw [show (k : Int) + (n : Int) + 1 = ((k + n + 1 : Nat) : Int) by omega, hm2]
          omega
      · have e : flV S k (n + 1) = (flV S k n).setIfInBounds 1 (.bool true) := by rw [HS.out]; unfold flV; simp
        have HE := Lib.hid e
        clear e
        go_wp2_with fail
        refine CQ.out.mono ?_
        rintro e W1 ⟨rfl, q, rfl⟩
        have c0 := (HPr.out.drew q).cell 1
        have f0 := (HPr.out.drew q).fro 1
        have c1 := (HRr.out.drew q).cell 1
        have f1 := (HRr.out.drew q).fro 1
        go_wp2_with fail
        go_roundw
        case rel => exact ⟨n + 1, by omega, ((show Rdr _ g S (k + n) from (HRr.out.drew q).other (j := 1) (u := .bool true) ne1).step (k + n + 1)), by rw [HE.out]; exact ((HPr.out.drew q).set (j := 1) (u := .bool true)).other (j := 1) ne2, ((HO.out.drew q).set (p := ⟨h, 1, none⟩) (by simp) _).set (p := ⟨g, 1, none⟩) (by simp) _, HALL2.out⟩
        case measure =>
          rw [HM.out]
          have hm2 := atOf_rdr ((show Rdr _ g S (k + n) from (HRr.out.drew q).other (j := 1) (u := .bool true) ne1).step (k + n + 1))
          rw [show (k : Int) + (n : Int) + 1 = ((k + n + 1 : Nat) : Int) by omega, hm2]
          omega
      · have e : flV S k (n + 1) = (flV S k n).setIfInBounds 2 (.bool true) := by rw [HS.out]; unfold flV; simp
        have HE := Lib.hid e
        clear e
        go_wp2_with fail
        refine CQ.out.mono ?_
        rintro e W1 ⟨rfl, q, rfl⟩
        have c0 := (HPr.out.drew q).cell 2
        have f0 := (HPr.out.drew q).fro 2
        have c1 := (HRr.out.drew q).cell 1
        have f1 := (HRr.out.drew q).fro 1
        go_wp2_with fail
        go_roundw
        case rel => exact ⟨n + 1, by omega, ((show Rdr _ g S (k + n) from (HRr.out.drew q).other (j := 2) (u := .bool true) ne1).step (k + n + 1)), by rw [HE.out]; exact ((HPr.out.drew q).set (j := 2) (u := .bool true)).other (j := 1) ne2, ((HO.out.drew q).set (p := ⟨h, 2, none⟩) (by simp) _).set (p := ⟨g, 1, none⟩) (by simp) _, HALL2.out⟩
        case measure =>
          rw [HM.out]
          have hm2 := atOf_rdr ((show Rdr _ g S (k + n) from (HRr.out.drew q).other (j := 2) (u := .bool true) ne1).step (k + n + 1))
          rw [show (k : Int) + (n : Int) + 1 = ((k + n + 1 : Nat) : Int) by omega, hm2]
          omega
      · have e : flV S k (n + 1) = (flV S k n).setIfInBounds 3 (.bool true) := by rw [HS.out]; unfold flV; simp
        have HE := Lib.hid e
        clear e
        go_wp2_with fail
        refine CQ.out.mono ?_
        rintro e W1 ⟨rfl, q, rfl⟩
        have c0 := (HPr.out.drew q).cell 3
        have f0 := (HPr.out.drew q).fro 3
        have c1 := (HRr.out.drew q).cell 1
        have f1 := (HRr.out.drew q).fro 1
        go_wp2_with fail
        go_roundw
        case rel => exact ⟨n + 1, by omega, ((show Rdr _ g S (k + n) from (HRr.out.drew q).other (j := 3) (u := .bool true) ne1).step (k + n + 1)), by rw [HE.out]; exact ((HPr.out.drew q).set (j := 3) (u := .bool true)).other (j := 1) ne2, ((HO.out.drew q).set (p := ⟨h, 3, none⟩) (by simp) _).set (p := ⟨g, 1, none⟩) (by simp) _, HALL2.out⟩
        case measure =>
          rw [HM.out]
          have hm2 := atOf_rdr ((show Rdr _ g S (k + n) from (HRr.out.drew q).other (j := 3) (u := .bool true) ne1).step (k + n + 1))
          rw [show (k : Int) + (n : Int) + 1 = ((k + n + 1 : Nat) : Int) by omega, hm2]
          omega
      · have e : flV S k (n + 1) = (flV S k n).setIfInBounds 4 (.bool true) := by rw [HS.out]; unfold flV; simp
        have HE := Lib.hid e
        clear e
        go_wp2_with fail
        refine CQ.out.mono ?_
        rintro e W1 ⟨rfl, q, rfl⟩
        have c0 := (HPr.out.drew q).cell 4
        have f0 := (HPr.out.drew q).fro 4
        have c1 := (HRr.out.drew q).cell 1
        have f1 := (HRr.out.drew q).fro 1
        go_wp2_with fail
        go_roundw
        case rel => exact ⟨n + 1, by omega, ((show Rdr _ g S (k + n) from (HRr.out.drew q).other (j := 4) (u := .bool true) ne1).step (k + n + 1)), by rw [HE.out]; exact ((HPr.out.drew q).set (j := 4) (u := .bool true)).other (j := 1) ne2, ((HO.out.drew q).set (p := ⟨h, 4, none⟩) (by simp) _).set (p := ⟨g, 1, none⟩) (by simp) _, HALL2.out⟩
        case measure =>
          rw [HM.out]
          have hm2 := atOf_rdr ((show Rdr _ g S (k + n) from (HRr.out.drew q).other (j := 4) (u := .bool true) ne1).step (k + n + 1))
          rw [show (k : Int) + (n : Int) + 1 = ((k + n + 1 : Nat) : Int) by omega, hm2]
          omega
    · have hfl2 : isFl x = false := by rw [Bool.not_eq_true] at hfl; exact hfl
      have hne : x ≠ 45 ∧ x ≠ 43 ∧ x ≠ 32 ∧ x ≠ 35 ∧ x ≠ 48 := by
        refine ⟨?_, ?_, ?_, ?_, ?_⟩ <;> (rintro rfl; exact hfl rfl)
      have b1 : ((x : Int) == 45) = false := by rw [beq_eq_false_iff_ne]; omega
      have b2 : ((x : Int) == 43) = false := by rw [beq_eq_false_iff_ne]; omega
      have b3 : ((x : Int) == 32) = false := by rw [beq_eq_false_iff_ne]; omega
      have b4 : ((x : Int) == 35) = false := by rw [beq_eq_false_iff_ne]; omega
      have b5 : ((x : Int) == 48) = false := by rw [beq_eq_false_iff_ne]; omega
      have HEND := Lib.hid (show flE S k = k + n by unfold flE; rw [run_end rfl hn HALL.out (by rw [HX.out]; exact hfl2)])
      clear hfl hfl2 hne
      go_wp2_with fail
      refine CQ.out.mono ?_
      rintro e W1 ⟨rfl, q, rfl⟩
      go_wp2_with fail
      refine bodyPost_ret (results_none rfl _ _ _) rfl ?_
      refine ⟨rfl, ?_, ?_, HO.out.drew q⟩
      · rw [HEND.out]; exact HRr.out.drew q
      · rw [HEND.out, Nat.add_sub_cancel_left]; exact HPr.out.drew q
end Go.Proofs.YtddfigbpckhfbaaGreatDoor

namespace Go.Proofs.YtddfigbpckhfbaaGreatDoor
open Go.RowKit Go.Lib

/-- The number that n digits from k on write. -/
def digV (S : ByteArray) (k : Nat) : Nat → Nat
  | 0 => 0
  | n + 1 => digV S k n * 10 + (atB S (k + n) - 48)
theorem digV_lt {S : ByteArray} {k n : Nat} (h : ∀ i, i < n → isDg (atB S (k + i)) = true) : digV S k n < 10 ^ n := by
  induction n with
  | zero => exact Nat.one_pos
  | succ n ih =>
    have h1 := ih (fun i hi => h i (by omega))
    have h2 := h n (by omega)
    unfold isDg at h2
    simp only [Bool.and_eq_true, decide_eq_true_eq] at h2
    rw [digV, Nat.pow_succ]
    omega
/-- How many digits a width or a precision takes here: at most five. -/
def dgN (S : ByteArray) (k : Nat) : Nat := min 5 (runP isDg S k (S.size - k))
/-- A width or a precision: the number, whether it is a star, where it ends. -/
def amt (S : ByteArray) (k : Nat) : Int × Bool × Nat := if atB S k = 42 then (0, true, k + 1) else ((digV S k (dgN S k) : Nat), false, k + dgN S k)
theorem run_le {p : Nat → Bool} {S : ByteArray} {k f n : Nat} (hn : n ≤ f) (h : ∀ i, i < n → p (atB S (k + i)) = true) : n ≤ runP p S k f := by
  induction f generalizing k n with
  | zero => omega
  | succ f ih =>
    rcases Nat.eq_zero_or_pos n with rfl | h0
    · omega
    · obtain ⟨m, rfl⟩ : ∃ m, n = m + 1 := ⟨n - 1, by omega⟩
      have h1 := h 0 (by omega)
      rw [Nat.add_zero] at h1
      rw [runP, if_pos h1]
      have := ih (k := k + 1) (n := m) (by omega) (fun i hi => by have := h (i + 1) (by omega); rwa [show k + (i + 1) = k + 1 + i by omega] at this)
      omega
theorem dgN_five {S : ByteArray} {k : Nat} (hk : k + 5 ≤ S.size) (h : ∀ i, i < 5 → isDg (atB S (k + i)) = true) : dgN S k = 5 := by
  have := run_le (p := isDg) (S := S) (k := k) (f := S.size - k) (n := 5) (by omega) h
  unfold dgN
  omega
theorem dgN_at {S : ByteArray} {k n : Nat} (hk : k + n ≤ S.size) (hn : n ≤ 5) (h : ∀ i, i < n → isDg (atB S (k + i)) = true) (hs : isDg (atB S (k + n)) = false) : dgN S k = n := by
  unfold dgN
  rw [run_end rfl hk h hs]
  omega
set_option maxRecDepth 100000 in
set_option maxHeartbeats 8000000 in
theorem amount_any (S : ByteArray) (k g : Nat) (w : World) (hk : k ≤ S.size) (hS : S.size ≤ 4611686018427387904) (hR : Rdr w g S k) :
    Calls Tryz.prog 189 #[.pointer (some ⟨g, 0, none⟩)] w fun e w' => e = .returned (.tuple #[.int .i64 (amt S k).1, .bool (amt S k).2.1]) ∧ Rdr w' g S (amt S k).2.2 ∧ Out [g] w w' := by
  have CT := Lib.hid (take_any S k g 42 w hk hS (by decide) hR)
  have CP := Lib.hid (fun (j : Nat) (W : World) (hj : j ≤ S.size) (H : Rdr W g S j) => peek_any S j g W hj hS H)
  obtain ⟨x, hx⟩ : ∃ x, atB S k = x := ⟨_, rfl⟩
  unfold amt
  rw [hx] at CT ⊢
  have HX := Lib.hid hx
  clear hx
  by_cases hs : x = 42
  · subst hs
    have CT := CT.out
    rw [if_pos rfl, decide_eq_true rfl] at CT
    rw [if_pos rfl]
    have CT := Lib.hid CT
    go_enter Tryz.func189, Tryz.ntmps189
    go_wp2_with fail
    refine CT.out.mono ?_
    rintro e w1 ⟨rfl, h1, h2⟩
    have H1 := Lib.hid h1
    clear h1
    go_wp2_with fail
    go_ret2
    exact ⟨rfl, H1.out, h2⟩
  · have CT := CT.out
    rw [if_neg hs, decide_eq_false hs] at CT
    rw [if_neg hs]
    have CT := Lib.hid CT
    clear hs
    go_enter Tryz.func189, Tryz.ntmps189
    go_wp2_with fail
    refine CT.out.mono ?_
    rintro e w1 ⟨rfl, h1, h2⟩
    have H1 := Lib.hid h1
    have HO1 := Lib.hid h2
    clear h1 h2
    go_wp2_with fail
    go_loopw [4, 8] (fun nv cv wr => ∃ i : Nat, i ≤ 5 ∧ nv = .int .i64 (digV S k i : Nat) ∧ cv = .int .i64 (i : Int) ∧ k + i ≤ S.size ∧ Rdr wr g S (k + i) ∧ Out [g] w wr ∧ ∀ j, j < i → isDg (atB S (k + j)) = true) (fun _ cv _ => 5 - (RowKit.intOf cv).toNat)
    case atStart => exact ⟨0, by omega, rfl, rfl, hk, H1.out, HO1.out, fun j hj => absurd hj (Nat.not_lt_zero j)⟩
    case round =>
      obtain ⟨i, hi, rfl, rfl, hn, hRr, hO, hall⟩ := hrel
      obtain ⟨v, hv⟩ : ∃ v, digV S k i = v := ⟨_, rfl⟩
      have hv2 : v < 100000 := by
        have h1 := digV_lt hall
        have h2 : 10 ^ i ≤ 10 ^ 5 := Nat.pow_le_pow_right (by omega) hi
        omega
      rw [hv]
      have HV := Lib.hid hv
      have HALL := Lib.hid hall
      have HRr := Lib.hid hRr
      have HO := Lib.hid hO
      have CQ := Lib.hid (CP.out _ _ hn hRr)
      obtain ⟨x, hx⟩ : ∃ x, atB S (k + i) = x := ⟨_, rfl⟩
      rw [hx] at CQ
      have HX2 := Lib.hid hx
      clear hv hall hRr hO hx CP CT H1 HO1
      have g0 : (0 : Int) ≤ (v : Int) := by omega
      have g1 : (v : Int) ≤ 100000 := by omega
      by_cases hlt : i < 5
      · by_cases hd : isDg x = true
        · have hxb : 48 ≤ x ∧ x ≤ 57 := by unfold isDg at hd; simp only [Bool.and_eq_true, decide_eq_true_eq] at hd; exact hd
          have g2 : (48 : Int) ≤ (x : Int) := by omega
          have g3 : (x : Int) ≤ 57 := by omega
          have hlt2 : k + i < S.size := atB_size (by rw [HX2.out]; omega)
          have hw : wrap64 (((k + i : Nat) : Int) + 1) = ((k + i + 1 : Nat) : Int) := by unfold wrap64; omega
          have hwI : wrap64 ((k : Int) + (i : Int) + 1) = ((k + i + 1 : Nat) : Int) := by unfold wrap64; omega
          have HD := Lib.hid hd
          clear hd hxb
          go_wp2_with fail
          refine CQ.out.mono ?_
          rintro e W1 ⟨rfl, q, rfl⟩
          have c1 := (HRr.out.drew q).cell 1
          have f1 := (HRr.out.drew q).fro 1
          go_wp2_with fail
          go_roundw
          case rel => exact ⟨i + 1, by omega, by rw [digV, HV.out, HX2.out]; congr 1; omega, by go_num, by omega, (show Rdr _ g S (k + i) from HRr.out.drew q).step (k + i + 1), (HO.out.drew q).set (p := ⟨g, 1, none⟩) (by simp) _, fun j hj => by
            rcases Nat.lt_or_ge j i with h2 | h2
            · exact HALL.out j h2
            · obtain rfl : i = j := by omega
              rw [HX2.out]; exact HD.out⟩
          case measure => simp [RowKit.intOf]; omega
        · have hd2 : isDg x = false := by rw [Bool.not_eq_true] at hd; exact hd
          have HE := Lib.hid (dgN_at hn hi HALL.out (by rw [HX2.out]; exact hd2))
          have hcase : x < 48 ∨ (48 ≤ x ∧ 57 < x) := by
            unfold isDg at hd
            simp only [Bool.and_eq_true, decide_eq_true_eq] at hd
            omega
          clear hd hd2
          rcases hcase with h1 | ⟨h1, h2⟩
          all_goals
            go_wp2_with fail
            refine CQ.out.mono ?_
            rintro e W1 ⟨rfl, q, rfl⟩
            go_wp2_with fail
            go_ret2
            exact ⟨by rw [HE.out, HV.out]; rfl, by rw [HE.out]; exact HRr.out.drew q, HO.out.drew q⟩
      · obtain rfl : 5 = i := by omega
        have HE := Lib.hid (dgN_five hn HALL.out)
        go_wp2_with fail
        go_ret2
        exact ⟨by rw [HE.out, HV.out]; rfl, by rw [HE.out]; exact HRr.out, HO.out⟩
end Go.Proofs.YtddfigbpckhfbaaGreatDoor

namespace Go.Proofs.YtddfigbpckhfbaaGreatDoor
open Go.RowKit Go.Lib

/-- What is cut off at the end is noughts. -/
theorem trim_split (l : List UInt8) (x : UInt8) : ∃ k, l = Lib.trimRightB l x ++ List.replicate k x := by
  have h1 : ∀ c ∈ l.reverse.takeWhile (· == x), c = x := fun c hc => eq_of_beq (List.all_eq_true.1 List.all_takeWhile c hc)
  refine ⟨(l.reverse.takeWhile (· == x)).length, ?_⟩
  have h2 := List.eq_replicate_of_mem h1
  have h3 := List.takeWhile_append_dropWhile (p := (· == x)) (l := l.reverse)
  have h4 := congrArg List.reverse h3
  rw [List.reverse_append, List.reverse_reverse] at h4
  unfold Lib.trimRightB
  have h5 : (l.reverse.takeWhile (· == x)).reverse = List.replicate (l.reverse.takeWhile (· == x)).length x := by
    conv => lhs; rw [h2]
    rw [List.reverse_replicate]
  rw [← h5]
  exact h4.symm
end Go.Proofs.YtddfigbpckhfbaaGreatDoor

namespace Go.Proofs.YtddfigbpckhfbaaGreatDoor
open Go.RowKit Go.Lib

def hvl (l : List UInt8) : Nat := l.foldl (fun a c => a * 16 + hexR c.toNat) 0
end Go.Proofs.YtddfigbpckhfbaaGreatDoor

namespace Go.Proofs.YtddfigbpckhfbaaGreatDoor
open Go.RowKit Go.Lib

/-- The unit of a piece. -/
abbrev D4 : Nat := 10000
end Go.Proofs.YtddfigbpckhfbaaGreatDoor

namespace Go.Proofs.YtddfigbpckhfbaaGreatDoor
open Go.RowKit Go.Lib

theorem Own.more {κ : IntKind} {w : World} {B : Nat} {t : TypeId} {v : Value} {xs ys : List Nat} {k m : Nat} {cs : List Value} (h : w.ownsRow B t 1 v (k + m) (nums κ xs ++ cs)) (hc : cs = nums κ ys) (hk : k = xs.length) (hm : m = ys.length) : Own κ w B t v (xs ++ ys) := by
  subst hc
  exact Own.append h hk hm
end Go.Proofs.YtddfigbpckhfbaaGreatDoor

namespace Go.Proofs.YtddfigbpckhfbaaGreatDoor
open Go.RowKit Go.Lib

/-- How many noughts stand ahead. -/
def nz (l : List UInt8) : Nat := l.length - (l.dropWhile (· == 48)).length
end Go.Proofs.YtddfigbpckhfbaaGreatDoor

namespace Go.Proofs.YtddfigbpckhfbaaGreatDoor
open Go.RowKit Go.Lib

/-- What Sci answers of the float r with p digits behind the first one. -/
noncomputable def sciX (r p : Nat) : List UInt8 × Int :=
  @dite _ (∃ x : Int × Nat, SciOk (amN r) (amD r) p x.1 x.2) (Classical.propDecidable _) (fun h => (decs (Classical.choose h).2, (Classical.choose h).1)) (fun _ => (List.replicate (p + 1) 48, 0))
theorem sciX_of {r p M : Nat} {P : Int} (ok : SciOk (amN r) (amD r) p P M) : sciX r p = (decs M, P) := by
  unfold sciX
  have h : ∃ x : Int × Nat, SciOk (amN r) (amD r) p x.1 x.2 := ⟨(P, M), ok⟩
  rw [dif_pos h]
  obtain ⟨e1, e2⟩ := (Classical.choose_spec h).uniq (amD_pos r) ok
  rw [e1, e2]
theorem amN_zero : amN 0 = 0 := by decide
theorem sciX_zero (p : Nat) : sciX 0 p = (List.replicate (p + 1) 48, 0) := by
  unfold sciX
  refine dif_neg ?_
  rintro ⟨⟨P, M⟩, ok⟩
  have h1 := ok.val
  have h2 := ok.low
  have h3 := Nat.pow_pos (n := p) (show 0 < 10 by omega)
  simp only at h1 h2
  rw [h1, amN_zero] at h2
  unfold sciM rnd at h2
  rw [Nat.zero_mul, Nat.zero_div, Nat.zero_mod] at h2
  rw [if_neg] at h2
  · omega
  · have := Nat.mul_pos (amD_pos 0) (Nat.pow_pos (n := (-((p : Int) - P)).toNat) (show 0 < 10 by omega))
    omega
theorem sci_has (w : World) {r p : Nat} (h0 : 0 < r) (hr : r < 9218868437227405312) (hp : p ≤ 200) : ∃ P M, SciOk (amN r) (amD r) p P M := by
  have hm : mag r = r := mag_no hr
  obtain ⟨e, w', fr, ⟨⟨P, M, ok, _⟩, _⟩, _⟩ := sci_yes r p w (by omega) (by rw [hm]; exact h0) (by rw [hm]; exact hr) hp []
  rw [hm] at ok
  exact ⟨P, M, ok⟩
theorem sciX_facts (w : World) {r p : Nat} (hr : r < 9218868437227405312) (hp : p ≤ 200) : (sciX r p).1.length = p + 1 ∧ Dec (sciX r p).1 ∧ -400 ≤ (sciX r p).2 ∧ (sciX r p).2 ≤ 400 := by
  rcases Nat.eq_zero_or_pos r with rfl | h0
  · rw [sciX_zero]
    exact ⟨List.length_replicate, dec_noughts _, show (-400 : Int) ≤ 0 by decide, show (0 : Int) ≤ 400 by decide⟩
  · obtain ⟨P, M, ok⟩ := sci_has w h0 hr hp
    rw [sciX_of ok]
    exact ⟨decs_len_of ok.low ok.high, dec_decs M, ok.bd.1, ok.bd.2⟩
/-- Digits with a point behind the first. -/
def ptT (d : List UInt8) (q : Bool) : List UInt8 := if q = true then d.take 1 ++ 46 :: d.drop 1 else d
/-- The power of ten. -/
def expT (P : Int) : List UInt8 := (if P < 0 then [101, 45] else [101, 43]) ++ ((if P.natAbs < 10 then [48] else []) ++ decs P.natAbs)
def fixP (r q : Nat) (full : Bool) : List UInt8 := fixT (decs (rnd (amN r * 10 ^ q) (amD r))) q ++ if q = 0 ∧ full = true then [46] else []
/-- Without noughts at the end, and without a point there. -/
def trimG (full : Bool) (d : List UInt8) : List UInt8 := if full = false ∧ d.contains 46 = true then Lib.trimSuffix (Lib.trimRightB d 48) [46] else d
noncomputable def genT (r n : Nat) (full : Bool) : List UInt8 :=
  if (sciX r n).2 < -4 ∨ ((n : Int) + 1 ≤ (sciX r n).2) then trimG full (ptT (sciX r n).1 (decide (0 < n) || full)) ++ expT (sciX r n).2
  else trimG full (fixP r ((n : Int) - (sciX r n).2).toNat full)
theorem padT_dec {d : List UInt8} (h : Dec d) (p : Nat) : Dec (padT d p) := dec_app (dec_noughts _) h
/-- The pieces as one, as wide as is asked for. -/
def laidL (sg base D : List UInt8) (wd : Int) (minus noughts : Bool) : List UInt8 :=
  if noughts = true ∧ minus = false then sg ++ (base ++ (List.replicate (wd - ((sg ++ base ++ D).length : Int)).toNat 48 ++ D))
  else fillL (sg ++ base ++ D) (wd - ((sg ++ base ++ D).length : Int)) minus
end Go.Proofs.YtddfigbpckhfbaaGreatDoor
