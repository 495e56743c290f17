/- Several texts in one (Plain: floats by a mantissa of 53 digits; exact differences; one step of what is left. No walk here; Contracts of layer 4: math.Mod; Contracts of layer 4: whole numbers: wholeBelow, Whole; Plain: numerals of digits in texts; whole numbers as floats are the nearest. No walk here; Contracts of layer 5: the small ones (among, repeat, fill, Check, sign, boundless); Contracts of layer 5: the reader's bytes (peek, take, flags, amount); Contracts of layer 5: the reader's flags and amounts; Contracts of layer 5: the reader's amounts; Plain: numerals with a point and an exponent in texts. No walk here; Contracts of layer 4: cutHex; Contracts of layer 4: Pow; The definition of layer 2: trim, Small, Add; The definition of layer 2: Times, Cmp; The definition of layer 2: Times; The definition of layer 2: Pow, of two, five and ten). -/
import Derived.WalkSpells
import Derived.Lib.ItoaNum
import Derived.Lib.AppendIntMem
import Derived.Lib.SmallJoins
import Derived.Deep.RegionWith
import Derived.Deep.QuietTactic
import Derived.BigQuiet
import Derived.Test.YtmceakbjholjpaaGreatDoorQci2
import Derived.Test.YtmceakbjholjpaaGreatDoorQci3
import Derived.Test.YtmceakbjholjpaaGreatDoorQci4
import Derived.Test.YtmceakbjholjpaaGreatDoorQci5
import Derived.Test.YtmceakbjholjpaaGreatDoorQci6
namespace Go.Proofs.YtmceakbjholjpaaGreatDoor

/-- The place of the first digit of a float, counted in the least one. -/
def Lg (r : Nat) : Nat := if r < 4503599627370496 then r.log2 else r / 4503599627370496 + 51
/-- Its 53 digits. -/
def Mt (r : Nat) : Nat := if r < 4503599627370496 then r * 2 ^ (52 - r.log2) else 4503599627370496 + r % 4503599627370496
theorem Mt_bd {r : Nat} (h : 0 < r) : 4503599627370496 ≤ Mt r ∧ Mt r < 9007199254740992 := by
  unfold Mt
  split
  · exact full_bd h (by omega)
  · omega
theorem two52 : (4503599627370496 : Nat) = 2 ^ 52 := by decide
theorem V_Mt {r : Nat} (h : 0 < r) : V r * 4503599627370496 = Mt r * 2 ^ Lg r := by
  unfold V Mt Lg
  by_cases h1 : r < 4503599627370496
  · have hb := log2_le52 h (by omega)
    rw [if_pos h1, if_pos h1, if_pos h1, Nat.mul_assoc, ← Nat.pow_add, show 52 - r.log2 + r.log2 = 52 by omega]
  · rw [if_neg h1, if_neg h1, if_neg h1, show r / 4503599627370496 + 51 = r / 4503599627370496 - 1 + 52 by omega, Nat.pow_add, Nat.mul_assoc]
theorem nearest_fit {D : Nat} {p : Int} (hD : 0 < D) (hD2 : D < 9007199254740992) (hp : -1074 ≤ p) (hp2 : p ≤ 971) :
    ∃ t, Ieee.double.nearest false D p = t ∧ t < 9218868437227405312 ∧ V t = D * 2 ^ (p + 1074).toNat := by
  have hb := log2_le52 hD hD2
  obtain ⟨f1, f2⟩ := full_bd hD hD2
  obtain ⟨s, hs1, hs2, hs3⟩ : ∃ s : Nat, max (p + (D.log2 : Int) - ((52 : Nat) : Int)) (-1074) = p - (s : Int) ∧ s ≤ 52 - D.log2 ∧ (p - (s : Int) = -1074 ∨ s = 52 - D.log2) :=
    ⟨(p - max (p + (D.log2 : Int) - 52) (-1074)).toNat, by omega, by omega, by omega⟩
  obtain ⟨e, he⟩ : ∃ e : Nat, p - (s : Int) + 1074 = (e : Int) := ⟨(p - (s : Int) + 1074).toNat, by omega⟩
  have hm1 : 0 < D * 2 ^ s := Nat.mul_pos hD (Nat.pow_pos (by omega))
  have hm2 : D * 2 ^ s < 9007199254740992 := Nat.lt_of_le_of_lt (Nat.mul_le_mul_left _ (Nat.pow_le_pow_right (by omega) hs2)) f2
  have hm3 : e = 0 ∨ 4503599627370496 ≤ D * 2 ^ s := by
    rcases hs3 with h | h
    · left; omega
    · right; rw [h]; exact f1
  have hcut := cut_exact (D * 2 ^ s) 0 hm1
  rw [Nat.pow_zero, Nat.mul_one] at hcut
  refine ⟨e * 4503599627370496 + D * 2 ^ s, ?_, by omega, ?_⟩
  · unfold Ieee.Format.nearest
    rw [if_neg (by omega)]
    simp only [dbl_frac, dbl_least, dbl_binade, dbl_inf, hs1]
    rw [show (p - (p - (s : Int))).toNat = s by omega, show (p - (s : Int) - p).toNat = 0 by omega, Nat.shiftLeft_eq, hcut, show (p - (s : Int) - -1074).toNat = e by omega, word_pos, Nat.min_eq_left (by omega)]
  · rw [V_at _ _ (Nat.le_of_lt hm2) hm3, Nat.mul_assoc, ← Nat.pow_add]
    congr 2
    omega
theorem expF_mono {z r : Nat} (h : z ≤ r) : expF z ≤ expF r := by unfold expF; split <;> split <;> omega
theorem V_man {r : Nat} : V r = manF r * 2 ^ (expF r + 1074).toNat := by
  rw [← val_V, Nat.shiftLeft_eq]
  rfl
theorem sign_no {r : Nat} (h : r < 9218868437227405312) : (r / 9223372036854775808 % 2 == 1) = false := by rw [beq_eq_false_iff_ne]; omega
theorem mag_no {r : Nat} (h : r < 9218868437227405312) : mag r = r := Nat.mod_eq_of_lt (by omega)
/-- The difference of two floats of which the greater is at most twice the other one is exact. -/
theorem sub_exact {r z : Nat} (hr : r < 9218868437227405312) (_hz : 0 < z) (h1 : z ≤ r) (h2 : V r ≤ 2 * V z) :
    ∃ t, floatBits .sub .f64 r z = some t ∧ t < 9218868437227405312 ∧ V t = V r - V z := by
  have hz2 : z < 9218868437227405312 := by omega
  have hE := expF_mono h1
  have hEz := expF_bd hz2
  obtain ⟨k, hk⟩ : ∃ k : Nat, expF r - expF z = (k : Int) := ⟨(expF r - expF z).toNat, by omega⟩
  have hVz := V_man (r := z)
  have hVr := V_man (r := r)
  rw [show (expF r + 1074).toNat = k + (expF z + 1074).toNat by omega, Nat.pow_add, ← Nat.mul_assoc] at hVr
  have hc : 0 < 2 ^ (expF z + 1074).toNat := Nat.pow_pos (by omega)
  have hle := V_le h1
  rw [hVz, hVr] at hle h2
  rw [← Nat.mul_assoc] at h2
  have g1 := Nat.le_of_mul_le_mul_right hle hc
  have g2 := Nat.le_of_mul_le_mul_right h2 hc
  obtain ⟨D, hD⟩ : ∃ D, manF r * 2 ^ k - manF z = D := ⟨_, rfl⟩
  have hn := manF_lt (r := z)
  have hVD : V r - V z = D * 2 ^ (expF z + 1074).toNat := by rw [hVr, hVz, ← Nat.sub_mul, hD]
  rw [hVD]
  show ∃ t, (((Ieee.double.read r).sum (Ieee.double.read z).opposite).map Ieee.double.write) = some t ∧ _
  rw [read_fin (by rw [mag_no hr]; exact hr), read_fin (by rw [mag_no hz2]; exact hz2), mag_no hr, mag_no hz2, sign_no hr, sign_no hz2]
  have htot : Ieee.signed false (manF r) (expF r - min (expF r) (expF z)).toNat + Ieee.signed true (manF z) (expF z - min (expF r) (expF z)).toNat = (D : Int) := by
    rw [show min (expF r) (expF z) = expF z by omega, show (expF z - expF z).toNat = 0 by omega, show (expF r - expF z).toNat = k by omega]
    show ((manF r <<< k : Nat) : Int) + -((manF z <<< 0 : Nat) : Int) = _
    rw [Nat.shiftLeft_eq, Nat.shiftLeft_zero]
    omega
  show ∃ t, some (Ieee.double.write (.number (if Ieee.signed false (manF r) (expF r - min (expF r) (expF z)).toNat + Ieee.signed true (manF z) (expF z - min (expF r) (expF z)).toNat = 0 then false && true else decide (Ieee.signed false (manF r) (expF r - min (expF r) (expF z)).toNat + Ieee.signed true (manF z) (expF z - min (expF r) (expF z)).toNat < 0)) (Ieee.signed false (manF r) (expF r - min (expF r) (expF z)).toNat + Ieee.signed true (manF z) (expF z - min (expF r) (expF z)).toNat).natAbs (min (expF r) (expF z)))) = some t ∧ _
  rw [htot, Int.natAbs_natCast, show min (expF r) (expF z) = expF z by omega]
  rcases Nat.eq_zero_or_pos D with h0 | h0
  · refine ⟨0, ?_, by omega, ?_⟩
    · rw [h0]
      rfl
    · rw [h0, Nat.zero_mul]
      decide
  · rw [if_neg (by omega), decide_eq_false (by omega)]
    obtain ⟨t, h3, h4, h5⟩ := nearest_fit (D := D) (p := expF z) h0 (by omega) hEz.1 hEz.2
    exact ⟨t, congrArg some h3, h4, h5⟩
/-- A float times a power of two. -/
def ldR (y k : Nat) : Nat := if 52 ≤ Lg y + k then (Lg y + k - 51) * 4503599627370496 + (Mt y - 4503599627370496) else y * 2 ^ k
theorem low_fit {y k : Nat} (h : 0 < y) (h2 : Lg y + k < 52) : y < 4503599627370496 ∧ y * 2 ^ k < 4503599627370496 ∧ Lg y = y.log2 := by
  have hy : y < 4503599627370496 := by
    rcases Nat.lt_or_ge y 4503599627370496 with h1 | h1
    · exact h1
    · rw [Lg, if_neg (by omega)] at h2; omega
  have hl : Lg y = y.log2 := by rw [Lg, if_pos hy]
  refine ⟨hy, ?_, hl⟩
  have hb := (log2_bd h).2
  rw [hl] at h2
  have h3 : y * 2 ^ k < 2 ^ (y.log2 + 1) * 2 ^ k := Nat.mul_lt_mul_of_pos_right hb (Nat.pow_pos (by omega))
  rw [← Nat.pow_add] at h3
  refine Nat.lt_of_lt_of_le h3 ?_
  rw [two52]
  exact Nat.pow_le_pow_right (by omega) (by omega)
theorem shift_one {j m : Nat} (h : 4503599627370496 ≤ m) : (j + 1) * 4503599627370496 + (m - 4503599627370496) = j * 4503599627370496 + m := by omega
theorem pow_52 {n : Nat} (h : 52 ≤ n) : 2 ^ (n - 52) * 4503599627370496 = 2 ^ n := by
  have e : 2 ^ n = 2 ^ (n - 52) * 2 ^ 52 := by rw [← Nat.pow_add]; congr 1; omega
  rw [e, ← two52]
theorem V_ldR {y k : Nat} (h : 0 < y) : V (ldR y k) = V y * 2 ^ k := by
  unfold ldR
  by_cases hk : 52 ≤ Lg y + k
  · rw [if_pos hk]
    obtain ⟨b1, b2⟩ := Mt_bd h
    have e : (Lg y + k - 51) * 4503599627370496 + (Mt y - 4503599627370496) = (Lg y + k - 52) * 4503599627370496 + Mt y := by
      clear h
      obtain ⟨j, hj⟩ : ∃ j, Lg y + k - 52 = j := ⟨_, rfl⟩
      rw [hj, show Lg y + k - 51 = j + 1 by omega]
      exact shift_one b1
    rw [e, V_at _ _ (Nat.le_of_lt b2) (Or.inr b1)]
    have hm := V_Mt h
    refine Nat.eq_of_mul_eq_mul_right (show 0 < 4503599627370496 by omega) ?_
    rw [Nat.mul_right_comm (V y), hm, Nat.mul_assoc (Mt y) _ (2 ^ k), ← Nat.pow_add, Nat.mul_assoc]
    exact congrArg (Mt y * ·) (pow_52 hk)
  · rw [if_neg hk]
    obtain ⟨h1, h2, -⟩ := low_fit (k := k) h (by omega)
    rw [V, if_pos h2, V, if_pos h1]
/-- How often a float is doubled till it is next below another one. -/
def modK (r y : Nat) : Nat := Lg r - (Lg y + if Mt r < Mt y then 1 else 0)
theorem mod_step {r y : Nat} (hy : 0 < y) (h : y ≤ r) : Lg y + (if Mt r < Mt y then 1 else 0) ≤ Lg r ∧ 0 < ldR y (modK r y) ∧ ldR y (modK r y) ≤ r ∧ V r ≤ 2 * V (ldR y (modK r y)) := by
  have hr : 0 < r := by omega
  obtain ⟨a1, a2⟩ := Mt_bd hy
  obtain ⟨b1, b2⟩ := Mt_bd hr
  have e1 := V_Mt hy
  have e2 := V_Mt hr
  have hV := V_le h
  have hle : Lg y + (if Mt r < Mt y then 1 else 0) ≤ Lg r := by
    rcases Nat.lt_or_ge (Lg r) (Lg y + (if Mt r < Mt y then 1 else 0)) with hc | hc
    · exfalso
      have h3 : Mt r * 2 ^ Lg r < Mt y * 2 ^ Lg y := by
        split at hc
        · refine Nat.lt_of_lt_of_le (Nat.mul_lt_mul_of_pos_right ‹_› (Nat.pow_pos (by omega))) ?_
          exact Nat.mul_le_mul_left _ (Nat.pow_le_pow_right (by omega) (by omega))
        · have h4 : 2 ^ (Lg r + 1) ≤ 2 ^ Lg y := Nat.pow_le_pow_right (by omega) (by omega)
          rw [Nat.pow_succ] at h4
          have h5 : Mt y * (2 ^ Lg r * 2) ≤ Mt y * 2 ^ Lg y := Nat.mul_le_mul_left _ h4
          have h6 : Mt r * 2 ^ Lg r < Mt y * 2 * 2 ^ Lg r := Nat.mul_lt_mul_of_pos_right (by omega) (Nat.pow_pos (by omega))
          rw [Nat.mul_assoc, Nat.mul_comm 2] at h6
          exact Nat.lt_of_lt_of_le h6 h5
      rw [← e1, ← e2] at h3
      have := Nat.lt_of_mul_lt_mul_right h3
      omega
    · exact hc
  have hVk := V_ldR (y := y) (k := modK r y) hy
  have hsum : Mt y * 2 ^ Lg y * 2 ^ modK r y = Mt y * 2 ^ (Lg r - (if Mt r < Mt y then 1 else 0)) := by
    rw [Nat.mul_assoc, ← Nat.pow_add]
    congr 2
    unfold modK
    omega
  have hV2 : V (ldR y (modK r y)) * 4503599627370496 = Mt y * 2 ^ (Lg r - (if Mt r < Mt y then 1 else 0)) := by
    rw [hVk, Nat.mul_right_comm, e1, hsum]
  have hboth : V (ldR y (modK r y)) ≤ V r ∧ V r ≤ 2 * V (ldR y (modK r y)) := by
    constructor
    · refine Nat.le_of_mul_le_mul_right (c := 4503599627370496) ?_ (by omega)
      rw [hV2, e2]
      split
      · rename_i hlt
        rw [if_pos hlt] at hle
        have e3 : 2 ^ Lg r = 2 ^ (Lg r - 1) * 2 := by rw [← Nat.pow_succ]; congr 1; omega
        rw [e3, Nat.mul_comm (2 ^ (Lg r - 1)), ← Nat.mul_assoc]
        exact Nat.mul_le_mul_right _ (by omega)
      · exact Nat.mul_le_mul_right _ (by omega)
    · refine Nat.le_of_mul_le_mul_right (c := 4503599627370496) ?_ (by omega)
      rw [Nat.mul_assoc, hV2, e2]
      split
      · rename_i hlt
        rw [if_pos hlt] at hle
        have e3 : 2 ^ Lg r = 2 ^ (Lg r - 1) * 2 := by rw [← Nat.pow_succ]; congr 1; omega
        have g : Mt r * 2 ^ (Lg r - 1) ≤ Mt y * 2 ^ (Lg r - 1) := Nat.mul_le_mul_right _ (by omega)
        rw [e3, ← Nat.mul_assoc, Nat.mul_comm 2]
        exact Nat.mul_le_mul_right _ g
      · rw [Nat.sub_zero, ← Nat.mul_assoc]
        exact Nat.mul_le_mul_right _ (by omega)
  refine ⟨hle, ?_, ?_, hboth.2⟩
  · rcases Nat.eq_zero_or_pos (ldR y (modK r y)) with h0 | h0
    · exfalso
      have h1 := hboth.2
      rw [h0] at h1
      have h2 : V 0 = 0 := by decide
      have h3 := V_lt hr
      omega
    · exact h0
  · rcases Nat.lt_or_ge r (ldR y (modK r y)) with h1 | h1
    · have := V_lt h1; omega
    · exact h1
/-- One step takes the float times a power of two away: what is left of the division stays. -/
theorem mod_keep {r y t : Nat} (hy : 0 < y) (h : y ≤ r) (ht : V t = V r - V (ldR y (modK r y))) : t < r ∧ V t % V y = V r % V y := by
  obtain ⟨h1, h2, h3, h4⟩ := mod_step hy h
  have hV := V_le h3
  have hk := V_ldR (y := y) (k := modK r y) hy
  have h0 := V_lt h2
  constructor
  · rcases Nat.lt_or_ge t r with h5 | h5
    · exact h5
    · have := V_le h5
      omega
  · have e : V r = V t + V y * 2 ^ modK r y := by omega
    rw [e, Nat.add_mul_mod_self_left]
end Go.Proofs.YtmceakbjholjpaaGreatDoor

namespace Go.Proofs.YtmceakbjholjpaaGreatDoor
open Go.RowKit Go.Lib

theorem xor_top {t : Nat} (h : t < 9223372036854775808) : t ^^^ 9223372036854775808 = 9223372036854775808 + t := by
  have e : (9223372036854775808 : Nat) = 2 ^ 63 := by decide
  apply Nat.eq_of_testBit_eq
  intro i
  rw [Nat.testBit_xor, e, Nat.testBit_two_pow]
  rw [e] at h
  rcases Nat.lt_trichotomy i 63 with h1 | rfl | h1
  · rw [Nat.testBit_two_pow_add_gt h1]
    simp [show ¬ 63 = i by omega]
  · rw [Nat.testBit_two_pow_add_eq, Nat.testBit_lt_two_pow h]
    rfl
  · have h2 : 2 ^ 63 + t < 2 ^ i := Nat.lt_of_lt_of_le (show 2 ^ 63 + t < 2 ^ 64 by omega) (Nat.pow_le_pow_right (by omega) h1)
    rw [Nat.testBit_lt_two_pow h2, Nat.testBit_lt_two_pow (show t < 2 ^ i by omega)]
    simp [show ¬ 63 = i by omega]
theorem neg_pos {t : Nat} (h : t < 9223372036854775808) : Op.negFloat .f64 t = 9223372036854775808 + t := xor_top h
theorem neg_neg' {t : Nat} (h : t < 9223372036854775808) : Op.negFloat .f64 (9223372036854775808 + t) = t := by
  show (9223372036854775808 + t) ^^^ 9223372036854775808 = t
  rw [← xor_top h, Nat.xor_assoc, Nat.xor_self, Nat.xor_zero]
theorem Lg_le {r : Nat} (h : r < 9218868437227405312) : Lg r ≤ 2097 := by
  unfold Lg
  split
  · rcases Nat.eq_zero_or_pos r with h0 | h0
    · subst h0; decide
    · have := log2_le52 h0 (by omega); omega
  · omega
/-- One round of the division's loop. -/
structure ModStep (r y K Z t : Nat) : Prop where
  kk : Lg y + K + (if Mt r < Mt y then 1 else 0) = Lg r
  top : Lg y + K ≤ 2097
  z : ldR y K = Z
  sub : floatBits .sub .f64 r Z = some t
  t1 : t < 9218868437227405312
  lt : t < r
  keep : V t % V y = V r % V y
theorem mod_one {r y : Nat} (hy : 0 < y) (h : y ≤ r) (hr : r < 9218868437227405312) : ∃ K Z t, ModStep r y K Z t := by
  obtain ⟨h1, h2, h3, h4⟩ := mod_step hy h
  obtain ⟨t, g1, g2, g3⟩ := sub_exact hr h2 h3 h4
  obtain ⟨g4, g5⟩ := mod_keep hy h g3
  have hl := Lg_le hr
  refine ⟨modK r y, ldR y (modK r y), t, ⟨?_, ?_, rfl, g1, g2, g4, g5⟩⟩
  · unfold modK; omega
  · unfold modK; omega
end Go.Proofs.YtmceakbjholjpaaGreatDoor

namespace Go.Proofs.YtmceakbjholjpaaGreatDoor
open Go.RowKit Go.Lib

theorem decD (u : Nat) : Lib.decDigits u = decs u := by
  induction u using Nat.strongRecOn with
  | _ u ih =>
    rw [Lib.decDigits]
    by_cases h : u < 10
    · rw [dif_pos h, decs_one h, Nat.mod_eq_of_lt h]; rfl
    · rw [dif_neg h, ih (u / 10) (by omega), decs_step (m := u) (by omega)]; rfl
/-- What stands ahead of a float's point. -/
def whQ (r : Nat) : Nat := amN r / amD r
def isWh (r : Nat) : Bool := decide (amN r % amD r = 0)
theorem whQ_V {r : Nat} (h : isWh r = true) : V r = whQ r * S1074 := by
  have h1 := of_decide_eq_true h
  have h2 := V_am (r := r)
  have h3 : amN r = whQ r * amD r := by
    have := Nat.div_add_mod (amN r) (amD r)
    rw [h1, Nat.add_zero, Nat.mul_comm] at this
    exact this.symm
  rw [h3, Nat.mul_right_comm] at h2
  exact Nat.eq_of_mul_eq_mul_right (amD_pos r) h2
theorem trunc_wh {r : Nat} (_h : r < 9218868437227405312) : (truncR r = r) ↔ isWh r = true := by
  unfold truncR
  by_cases he : 0 ≤ expF r
  · rw [if_pos he]
    have : amD r = 1 := by unfold amD; rw [show (-expF r).toNat = 0 by omega, Nat.pow_zero]
    refine ⟨fun _ => ?_, fun _ => rfl⟩
    unfold isWh
    rw [this, Nat.mod_one]
    rfl
  · rw [if_neg he]
    have ha : amN r = manF r := by unfold amN; rw [show (expF r).toNat = 0 by omega, Nat.pow_zero, Nat.mul_one]
    have hq : manF r / 2 ^ (-expF r).toNat = whQ r := by unfold whQ; rw [ha]; rfl
    have hlt : whQ r < 9007199254740992 := by rw [← hq]; exact Nat.lt_of_le_of_lt (Nat.div_le_self _ _) manF_lt
    rw [hq]
    constructor
    · intro h1
      have h2 := fw_V hlt
      rw [h1] at h2
      have h3 := V_am (r := r)
      rw [h2, Nat.mul_right_comm] at h3
      have h4 := Nat.eq_of_mul_eq_mul_right S_pos h3
      unfold isWh
      rw [← h4, Nat.mul_mod_left]
      rfl
    · intro h1
      refine V_inj ?_
      rw [fw_V hlt, whQ_V h1]
theorem cmp_neg (a b : Int) : compare (-a) (-b) = compare b a := by
  rcases Int.lt_trichotomy a b with h | h | h
  · rw [Int.compare_eq_gt.2 (show -b < -a by omega), Int.compare_eq_gt.2 h]
  · subst h
    rw [Int.compare_eq_eq.2 rfl, Int.compare_eq_eq.2 rfl]
  · rw [Int.compare_eq_lt.2 (show -a < -b by omega), Int.compare_eq_lt.2 h]
theorem order_neg {r s : Nat} (hr : r < 9218868437227405312) (hs : s < 9218868437227405312) : Ieee.double.order (9223372036854775808 + r) (9223372036854775808 + s) = some (compare (s : Int) (r : Int)) := by
  have h := order_V hs hr
  have hm : ∀ x, x < 9218868437227405312 → mag (9223372036854775808 + x) = x := fun x h => by unfold mag; omega
  have hg : ∀ x, x < 9218868437227405312 → ((9223372036854775808 + x) / 9223372036854775808 % 2 == 1) = true := fun x h => by rw [beq_iff_eq]; omega
  unfold Ieee.Format.order at h ⊢
  rw [read_fin (b := s) (by rw [mag_no hs]; exact hs), mag_no hs, read_fin (b := r) (by rw [mag_no hr]; exact hr), mag_no hr, sign_no hr, sign_no hs] at h
  rw [read_fin (b := 9223372036854775808 + r) (by rw [hm r hr]; exact hr), hm r hr, read_fin (b := 9223372036854775808 + s) (by rw [hm s hs]; exact hs), hm s hs, hg r hr, hg s hs]
  change some (compare (Ieee.signed false (manF s) (expF s - min (expF s) (expF r)).toNat) (Ieee.signed false (manF r) (expF r - min (expF s) (expF r)).toNat)) = _ at h
  change some (compare (-Ieee.signed false (manF r) (expF r - min (expF r) (expF s)).toNat) (-Ieee.signed false (manF s) (expF s - min (expF r) (expF s)).toNat)) = _
  rw [cmp_neg, ← h, show min (expF r) (expF s) = min (expF s) (expF r) by omega]
/-- Two floats of one sign are equal just if their bits are. -/
theorem order_eq_ss {b t : Nat} (hb : b < 18446744073709551616) (h : mag b < 9218868437227405312) (ht : t < 9218868437227405312) : (FloatKind.f64.format.order (sgn b + t) b == some .eq) = decide (t = mag b) := by
  have hs := sgn_mag b hb
  have key : ∀ x y : Nat, ((some (compare (x : Int) (y : Int))) == some Ordering.eq) = decide (x = y) := fun x y => by
    by_cases e : x = y
    · subst e
      rw [Int.compare_eq_eq.2 rfl, decide_eq_true rfl]; rfl
    · rw [decide_eq_false e]
      rcases (by omega : x < y ∨ y < x) with h1 | h1
      · rw [Int.compare_eq_lt.2 (by omega)]; rfl
      · rw [Int.compare_eq_gt.2 (by omega)]; rfl
  show (Ieee.double.order (sgn b + t) b == some .eq) = _
  obtain ⟨m, hm⟩ : ∃ m, mag b = m := ⟨_, rfl⟩
  have h01 : sgn b = 0 ∨ sgn b = 9223372036854775808 := by unfold sgn; omega
  rw [hm] at h hs ⊢
  rcases h01 with h0 | h0
  · rw [h0, Nat.zero_add] at hs ⊢
    subst hs
    rw [order_V ht h, key]
  · rw [h0] at hs ⊢
    subst hs
    rw [order_neg ht h, key]
    exact decide_eq_decide.2 eq_comm
theorem order_lt_B {r B : Nat} (hr : r < 9218868437227405312) (hB : B < 9218868437227405312) : (FloatKind.f64.format.order r B == some .lt) = decide (r < B) := by
  show (Ieee.double.order r B == some .lt) = _
  rw [order_V hr hB]
  rcases Nat.lt_trichotomy r B with h | h | h
  · rw [Int.compare_eq_lt.2 (by omega), decide_eq_true h]; rfl
  · rw [Int.compare_eq_eq.2 (by omega), decide_eq_false (by omega)]; rfl
  · rw [Int.compare_eq_gt.2 (by omega), decide_eq_false (by omega)]; rfl
theorem order_far {r B : Nat} (hr : 9218868437227405312 ≤ r) (hr2 : r < 9223372036854775808) (hB : B < 9218868437227405312) : (FloatKind.f64.format.order r B == some .lt) = false := by
  have hm : mag r = r := Nat.mod_eq_of_lt hr2
  show (Ieee.double.order r B == some .lt) = false
  unfold Ieee.Format.order
  rw [read_fin (b := B) (by rw [mag_no hB]; exact hB)]
  rcases (by omega : r = 9218868437227405312 ∨ 9218868437227405312 < r) with h1 | h1
  · rw [read_inf (by rw [hm]; exact h1), show (r / 9223372036854775808 % 2 == 1) = false by rw [beq_eq_false_iff_ne]; omega]
    rfl
  · rw [read_nan (by rw [hm]; exact h1)]
    rfl
/-- Is it a whole number, nearer to nought than the bound? -/
def wholeB (b B : Nat) : Bool := decide (mag b < B) && isWh (mag b)
theorem mag_lt (b : Nat) : mag b < 9223372036854775808 := by unfold mag; omega
theorem truncR_lt {r : Nat} (h : r < 9218868437227405312) : truncR r < 9218868437227405312 := by
  unfold truncR
  split
  · exact h
  · have := fw_bd (m := manF r / 2 ^ (-expF r).toNat) (Nat.lt_of_le_of_lt (Nat.div_le_self _ _) manF_lt)
    omega
set_option maxRecDepth 100000 in
set_option maxHeartbeats 1000000 in
theorem wholeBelow_any (b B : Nat) (w : World) (hb : b < 18446744073709551616) (hB : B < 9218868437227405312) :
    Calls Tryz.prog 115 #[.float .f64 b, .float .f64 B] w fun e w' => e = .returned (.bool (wholeB b B)) ∧ w = w' := by
  have CA := Lib.hid (abs_any b w hb)
  have hml := mag_lt b
  unfold wholeB
  by_cases hlt : mag b < B
  · have hf : mag b < 9218868437227405312 := by omega
    have ho : (FloatKind.f64.format.order (mag b) B == some .lt) = true := by rw [order_lt_B hf hB]; exact decide_eq_true hlt
    have CT := fun W => trunc_any b W hb hf
    have he := order_eq_ss hb hf (truncR_lt hf)
    have hw : decide (truncR (mag b) = mag b) = isWh (mag b) := by
      cases h : isWh (mag b) with
      | true => exact decide_eq_true ((trunc_wh hf).2 h)
      | false => exact decide_eq_false fun e => by rw [(trunc_wh hf).1 e] at h; cases h
    rw [hw] at he
    rw [decide_eq_true hlt, Bool.true_and]
    obtain ⟨q, hq⟩ : ∃ q, isWh (mag b) = q := ⟨_, rfl⟩
    rw [hq] at he ⊢
    obtain ⟨T, hT⟩ : ∃ T, sgn b + truncR (mag b) = T := ⟨_, rfl⟩
    rw [hT] at CT he
    obtain ⟨M, hM⟩ : ∃ M, mag b = M := ⟨_, rfl⟩
    rw [hM] at CA ho
    have CT := Lib.hid CT
    clear hw hq hT hM hlt hf hml
    go_enter Tryz.func115, Tryz.ntmps115
    go_wp2_with fail
    refine CA.out.mono ?_
    rintro e w' ⟨rfl, rfl⟩
    go_wp2_with fail
    refine (CT.out _).mono ?_
    rintro e w' ⟨rfl, rfl⟩
    cases q
    · go_wp2_with fail
      go_ret
      exact ⟨rfl, rfl⟩
    · go_wp2_with fail
      go_ret
      exact ⟨rfl, rfl⟩
  · have ho : (FloatKind.f64.format.order (mag b) B == some .lt) = false := by
      rcases Nat.lt_or_ge (mag b) 9218868437227405312 with h | h
      · rw [order_lt_B h hB]; exact decide_eq_false hlt
      · exact order_far h hml hB
    rw [decide_eq_false hlt, Bool.false_and]
    obtain ⟨M, hM⟩ : ∃ M, mag b = M := ⟨_, rfl⟩
    rw [hM] at CA ho
    clear hlt hM hml
    go_enter Tryz.func115, Tryz.ntmps115
    go_wp2_with fail
    refine CA.out.mono ?_
    rintro e w' ⟨rfl, rfl⟩
    go_wp2_with fail
    go_ret
    exact ⟨rfl, rfl⟩
abbrev PowTab (w : World) : Prop := Lib.TabIs Tryz.prog w "internal/strconv.uint64pow10" .u64 Lib.pow10Tab
set_option maxRecDepth 100000 in
set_option maxHeartbeats 1000000 in
theorem whole_no (b : Nat) (w : World) (hb : b < 18446744073709551616) (h : wholeB b 4846369599423283200 = false) :
    Calls Tryz.prog 76 #[.float .f64 b] w fun e w' => e = .returned (.tuple #[.string ⟨#[]⟩, .bool false]) ∧ w = w' := by
  have C1 := wholeBelow_any b 4846369599423283200 w hb (by omega)
  rw [h] at C1
  have C1 := Lib.hid C1
  clear h
  go_enter Tryz.func76, Tryz.ntmps76
  go_wp2_with fail
  refine C1.out.mono ?_
  rintro e w' ⟨rfl, rfl⟩
  go_wp2_with fail
  go_ret2
  exact ⟨rfl, rfl⟩
end Go.Proofs.YtmceakbjholjpaaGreatDoor

namespace Go.Proofs.YtmceakbjholjpaaGreatDoor
open Go.RowKit Go.Lib

theorem noBlanks_keep {c : UInt8} {t : List UInt8} (h : ([32, 9, 10] : List UInt8).contains c = false) : noBlanks (c :: t) = c :: t := by
  unfold noBlanks
  rw [List.dropWhile_cons, h]
  rfl
theorem noBlanks_step {c : UInt8} {t : List UInt8} (h : ([32, 9, 10] : List UInt8).contains c = true) : noBlanks (c :: t) = noBlanks t := by
  unfold noBlanks
  rw [List.dropWhile_cons, h]
  rfl
end Go.Proofs.YtmceakbjholjpaaGreatDoor

namespace Go.Proofs.YtmceakbjholjpaaGreatDoor
open Go.RowKit Go.Lib

theorem idx_has (l : List UInt8) (x : UInt8) : decide (0 ≤ Lib.indexByte l x) = l.contains x := by
  induction l with
  | nil => rfl
  | cons d l ih =>
    have hge := Lib.indexByte_ge l x
    rw [List.contains_cons]
    have he : Lib.indexByte (d :: l) x = if (d == x) = true then 0 else if (Lib.indexByte l x == -1) = true then -1 else Lib.indexByte l x + 1 := rfl
    rw [he]
    by_cases h : d = x
    · subst h
      rw [beq_self_eq_true, if_pos rfl, Bool.true_or]
      rfl
    · have h1 : (d == x) = false := beq_eq_false_iff_ne.2 h
      have h2 : (x == d) = false := beq_eq_false_iff_ne.2 (fun e => h e.symm)
      rw [h1, h2, Bool.false_or, ← ih, if_neg (by decide)]
      generalize Lib.indexByte l x = y at *
      by_cases h3 : y = -1
      · subst h3; rfl
      · rw [if_neg (by rw [beq_iff_eq]; exact h3), decide_eq_true (by omega), decide_eq_true (by omega)]
set_option maxRecDepth 100000 in
theorem among_any (S : ByteArray) (c : Nat) (w : World) : Calls Tryz.prog 46 #[.string S, .int .u8 (c : Int)] w fun e w' => e = .returned (.bool (S.data.toList.contains c.toUInt8)) ∧ w = w' := by
  have C := Lib.hid (Tryz.strings_IndexByte S (c : Int) w)
  have hx := idx_has S.data.toList (c : Int).toNat.toUInt8
  obtain ⟨y, hy⟩ : ∃ y, Lib.indexByte S.data.toList (c : Int).toNat.toUInt8 = y := ⟨_, rfl⟩
  have H := Lib.hid hy
  rw [hy, Int.toNat_natCast] at hx
  have C := C.out
  rw [hy] at C
  have C := Lib.hid C
  have HX := Lib.hid hx
  clear hx hy
  go_enter Tryz.func46, Tryz.ntmps46
  go_wp2_with fail
  refine C.out.mono ?_
  rintro e w' ⟨rfl, rfl⟩
  go_wp2_with fail
  go_ret
  exact ⟨by show Ending.returned (.bool (decide (0 ≤ y))) = _; rw [HX.out], rfl⟩
theorem repeat_one (x : UInt8) (k : Nat) : Lib.repeatL [x] k = List.replicate k x := by
  induction k with
  | zero => rfl
  | succ k ih =>
    show [x] ++ Lib.repeatL [x] k = _
    rw [ih, List.replicate_succ]
    rfl
set_option maxRecDepth 100000 in
theorem rep_any (x : UInt8) (k : Int) (w : World) (h0 : -1099511627776 ≤ k) (h1 : k ≤ 1099511627776) : Calls Tryz.prog 85 #[.string ⟨#[x]⟩, .int .i64 k] w fun e w' => e = .returned (.string ⟨(List.replicate k.toNat x).toArray⟩) ∧ Below w.heap.size w w' := by
  obtain ⟨z, hz⟩ : ∃ z, k.toNat = z := ⟨_, rfl⟩
  have hmx : max (0 : Int) k = (z : Int) := by omega
  have cR := Tryz.strings_Repeat ⟨#[x]⟩ z w (by omega) (by show 1 * z ≤ _; omega)
  replace cR : Calls Tryz.prog 123 #[.string ⟨#[x]⟩, .int .i64 z] w fun e w' => e = .returned (.string ⟨(Lib.repeatL [x] z).toArray⟩) ∧ Below w.heap.size w w' := cR
  rw [repeat_one] at cR
  rw [hz]
  have CR := Lib.hid cR
  clear cR hz
  go_enter Tryz.func85, Tryz.ntmps85
  go_wp2_with fail
  refine CR.out.mono ?_
  rintro e w' ⟨rfl, hB⟩
  go_wp2_with fail
  go_ret
  exact ⟨rfl, hB⟩
/-- A text with so many blanks ahead of it or behind. -/
def fillL (s : List UInt8) (k : Int) (behind : Bool) : List UInt8 := if behind then s ++ List.replicate k.toNat 32 else List.replicate k.toNat 32 ++ s
theorem ba_cat (s : ByteArray) (l : List UInt8) : s ++ ⟨l.toArray⟩ = ⟨(s.data.toList ++ l).toArray⟩ := by
  apply ByteArray.ext
  apply Array.toList_inj.1
  rw [ByteArray.data_append, Array.toList_append]
theorem ba_cat2 (s : ByteArray) (l : List UInt8) : (⟨l.toArray⟩ : ByteArray) ++ s = ⟨(l ++ s.data.toList).toArray⟩ := by
  apply ByteArray.ext
  apply Array.toList_inj.1
  rw [ByteArray.data_append, Array.toList_append]
set_option maxRecDepth 100000 in
set_option maxHeartbeats 1000000 in
theorem fill_any (s : ByteArray) (k : Int) (bh : Bool) (w : World) (hs : s.size ≤ 1099511627776) (h0 : -1099511627776 ≤ k) (h1 : k ≤ 1099511627776) : Calls Tryz.prog 49 #[.string s, .int .i64 k, .bool bh] w fun e w' => e = .returned (.string ⟨(fillL s.data.toList k bh).toArray⟩) ∧ Below w.heap.size w w' := by
  have CR := Lib.hid (rep_any 32 k w h0 h1)
  have e1 := ba_cat s (List.replicate k.toNat 32)
  have e2 := ba_cat2 s (List.replicate k.toNat 32)
  obtain ⟨R, hR⟩ : ∃ R : ByteArray, (⟨(List.replicate k.toNat (32 : UInt8)).toArray⟩ : ByteArray) = R := ⟨_, rfl⟩
  have hRs : R.size ≤ 1099511627776 := by rw [← ba_len, ← hR]; show (List.replicate k.toNat (32 : UInt8)).length ≤ _; rw [List.length_replicate]; omega
  have g1 : ¬ 9223372036854775807 < s.size + R.size := by omega
  have g2 : ¬ 9223372036854775807 < R.size + s.size := by omega
  have CR := CR.out
  rw [hR] at CR e1 e2
  have CR := Lib.hid CR
  have E1 := Lib.hid e1
  have E2 := Lib.hid e2
  clear e1 e2 hR h0 h1 hs hRs
  cases bh with
  | true =>
    go_enter Tryz.func49, Tryz.ntmps49
    go_wp2_with fail
    refine CR.out.mono ?_
    rintro e w' ⟨rfl, hB⟩
    go_wp2_with fail
    go_ret
    exact ⟨by show Ending.returned (.string (s ++ R)) = _; rw [fillL, if_pos rfl, ← E1.out], hB⟩
  | false =>
    go_enter Tryz.func49, Tryz.ntmps49
    go_wp2_with fail
    refine CR.out.mono ?_
    rintro e w' ⟨rfl, hB⟩
    go_wp2_with fail
    go_ret
    exact ⟨by show Ending.returned (.string (R ++ s)) = _; rw [fillL, if_neg (by decide), ← E2.out], hB⟩
/-- The verbs: all; of numbers; of whole ones; of texts; those that write capitals; those that write a sign only below 0. -/
def vAll : List UInt8 := [100, 105, 111, 120, 88, 117, 101, 69, 102, 70, 103, 71, 99, 115, 37]
def vNum : List UInt8 := [100, 105, 111, 120, 88, 117, 101, 69, 102, 70, 103, 71]
def vWhole : List UInt8 := [100, 105, 111, 120, 88, 117]
def vCap : List UInt8 := [88, 69, 70, 71]
def vMin : List UInt8 := [111, 120, 88, 117]
/-- May a value be written so? -/
def chkB (wd pr : Int) (c : Nat) : Bool := (decide (0 ≤ wd) && decide (wd ≤ 1024)) && (decide (-1 ≤ pr) && decide (pr ≤ 190)) && vAll.contains c.toUInt8
set_option maxRecDepth 100000 in
set_option maxHeartbeats 1000000 in
theorem check_any (m p b a z : Bool) (wd pr : Int) (c : Nat) (w : World) : Calls Tryz.prog 45 #[.agg #[.bool m, .bool p, .bool b, .bool a, .bool z, .int .i64 wd, .int .i64 pr, .int .u8 (c : Int)]] w fun e w' => e = .returned (.int .i64 (if chkB wd pr c then 0 else 50)) ∧ Below w.heap.size w w' := by
  have cA := fun W => among_any ⟨#[100, 105, 111, 120, 88, 117, 101, 69, 102, 70, 103, 71, 99, 115, 37]⟩ c W
  replace cA : ∀ w : World, Calls Tryz.prog 46 #[.string ⟨#[100, 105, 111, 120, 88, 117, 101, 69, 102, 70, 103, 71, 99, 115, 37]⟩, .int .u8 (c : Int)] w fun e w' => e = .returned (.bool (vAll.contains c.toUInt8)) ∧ w = w' := cA
  unfold chkB
  obtain ⟨v, hv⟩ : ∃ v, vAll.contains c.toUInt8 = v := ⟨_, rfl⟩
  rw [hv] at cA ⊢
  have CA := Lib.hid cA
  clear cA hv
  by_cases h1 : 0 ≤ wd
  · by_cases h2 : wd ≤ 1024
    · by_cases h3 : -1 ≤ pr
      · by_cases h4 : pr ≤ 190
        · rw [decide_eq_true h1, decide_eq_true h2, decide_eq_true h3, decide_eq_true h4]
          cases v with
          | true =>
            go_enter Tryz.func45, Tryz.ntmps45
            go_wp2_with fail
            refine (CA.out _).mono ?_
            rintro e w' ⟨rfl, rfl⟩
            go_wp2_with fail
            go_ret
            exact ⟨rfl, (Below.refl _ _).alloc (Nat.le_refl _) _⟩
          | false =>
            go_enter Tryz.func45, Tryz.ntmps45
            go_wp2_with fail
            refine (CA.out _).mono ?_
            rintro e w' ⟨rfl, rfl⟩
            go_wp2_with fail
            go_ret
            exact ⟨rfl, (Below.refl _ _).alloc (Nat.le_refl _) _⟩
        · rw [decide_eq_false h4, Bool.and_false, Bool.and_false, Bool.false_and]
          go_enter Tryz.func45, Tryz.ntmps45
          go_wp2_with fail
          go_ret
          exact ⟨rfl, (Below.refl _ _).alloc (Nat.le_refl _) _⟩
      · rw [decide_eq_false h3, Bool.false_and, Bool.and_false, Bool.false_and]
        go_enter Tryz.func45, Tryz.ntmps45
        go_wp2_with fail
        go_ret
        exact ⟨rfl, (Below.refl _ _).alloc (Nat.le_refl _) _⟩
    · rw [decide_eq_false h2, Bool.and_false, Bool.false_and, Bool.false_and]
      by_cases h3 : -1 ≤ pr <;> by_cases h4 : pr ≤ 190
      all_goals first | (exfalso; omega) | skip
      all_goals
        go_enter Tryz.func45, Tryz.ntmps45
        go_wp2_with fail
        go_ret
        exact ⟨rfl, (Below.refl _ _).alloc (Nat.le_refl _) _⟩
  · rw [decide_eq_false h1, Bool.false_and, Bool.false_and, Bool.false_and]
    by_cases h3 : -1 ≤ pr <;> by_cases h4 : pr ≤ 190
    all_goals first | (exfalso; omega) | skip
    all_goals
      go_enter Tryz.func45, Tryz.ntmps45
      go_wp2_with fail
      go_ret
      exact ⟨rfl, (Below.refl _ _).alloc (Nat.le_refl _) _⟩
/-- What stands ahead of a number. -/
def signL (p b : Bool) (c : Nat) (below : Bool) : List UInt8 := if below then [45] else if vMin.contains c.toUInt8 then [] else if p then [43] else if b then [32] else []
set_option maxRecDepth 100000 in
set_option maxHeartbeats 1000000 in
theorem sign_any (m p b a z : Bool) (wd pr : Int) (c : Nat) (bl : Bool) (w : World) : Calls Tryz.prog 89 #[.agg #[.bool m, .bool p, .bool b, .bool a, .bool z, .int .i64 wd, .int .i64 pr, .int .u8 (c : Int)], .bool bl] w fun e w' => e = .returned (.string ⟨(signL p b c bl).toArray⟩) ∧ Below w.heap.size w w' := by
  have cA := fun W => among_any ⟨#[111, 120, 88, 117]⟩ c W
  replace cA : ∀ w : World, Calls Tryz.prog 46 #[.string ⟨#[111, 120, 88, 117]⟩, .int .u8 (c : Int)] w fun e w' => e = .returned (.bool (vMin.contains c.toUInt8)) ∧ w = w' := cA
  unfold signL
  obtain ⟨v, hv⟩ : ∃ v, vMin.contains c.toUInt8 = v := ⟨_, rfl⟩
  rw [hv] at cA ⊢
  have CA := Lib.hid cA
  clear cA hv
  cases bl with
  | true =>
    go_enter Tryz.func89, Tryz.ntmps89
    go_wp2_with fail
    go_ret
    exact ⟨rfl, (Below.refl _ _).alloc (Nat.le_refl _) _⟩
  | false =>
    cases v with
    | true =>
      go_enter Tryz.func89, Tryz.ntmps89
      go_wp2_with fail
      refine (CA.out _).mono ?_
      rintro e w' ⟨rfl, rfl⟩
      go_wp2_with fail
      go_ret
      exact ⟨rfl, (Below.refl _ _).alloc (Nat.le_refl _) _⟩
    | false =>
      cases p <;> cases b
      all_goals
        go_enter Tryz.func89, Tryz.ntmps89
        go_wp2_with fail
        refine (CA.out _).mono ?_
        rintro e w' ⟨rfl, rfl⟩
        go_wp2_with fail
        go_ret
        exact ⟨rfl, (Below.refl _ _).alloc (Nat.le_refl _) _⟩
end Go.Proofs.YtmceakbjholjpaaGreatDoor

namespace Go.Proofs.YtmceakbjholjpaaGreatDoor
open Go.RowKit Go.Lib

/-- Only the blocks of the list may have turned. -/
structure Out (G : List Nat) (w w' : World) : Prop where
  os : w'.os = w.os
  tape : w'.tape = w.tape
  output : w'.output = w.output
  size : w.heap.size ≤ w'.heap.size
  block : ∀ k, k ∉ G → k < w.heap.size → w'.heap[k]? = w.heap[k]?
theorem Out.refl (G : List Nat) (w : World) : Out G w w := ⟨rfl, rfl, rfl, Nat.le_refl _, fun _ _ _ => rfl⟩
theorem Out.trans {G : List Nat} {a b c : World} (h : Out G a b) (k : Out G b c) : Out G a c :=
  ⟨k.os.trans h.os, k.tape.trans h.tape, k.output.trans h.output, Nat.le_trans h.size k.size, fun i hi hl => (k.block i hi (Nat.lt_of_lt_of_le hl h.size)).trans (h.block i hi hl)⟩
theorem Out.more {G G' : List Nat} {a b : World} (h : Out G a b) (hs : ∀ x ∈ G, x ∈ G') : Out G' a b :=
  ⟨h.os, h.tape, h.output, h.size, fun k hk hl => h.block k (fun hx => hk (hs k hx)) hl⟩
theorem Out.below {G : List Nat} {a b : World} {B : Nat} (h : Out G a b) (hB : B ≤ a.heap.size) (hG : ∀ x ∈ G, B ≤ x) : Below B a b :=
  ⟨h.os, h.tape, h.output, h.size, fun k hk => h.block k (fun hx => by have := hG k hx; omega) (Nat.lt_of_lt_of_le hk hB)⟩
theorem Out.of_below {G : List Nat} {a b : World} (h : Below a.heap.size a b) : Out G a b :=
  ⟨h.os, h.tape, h.output, h.size, fun k _ hl => h.block k hl⟩
theorem Out.five {G : List Nat} {a b : World} {g : Nat} {cs : Array Value} {t : TypeId} (h : Out G a b) (f : Five a g cs t) (hg : g ∉ G) : Five b g cs t := ⟨(h.block g hg f.lt).trans f.row⟩
theorem Out.set {G : List Nat} {a w : World} (h : Out G a w) {p : Addr} (hp : p.block ∈ G) (u : Value) : Out G a (w.setCell p u) := by
  have hb := (Below.refl 0 w).setCell (p := p) (Nat.zero_le _) u
  refine ⟨hb.os.trans h.os, hb.tape.trans h.tape, hb.output.trans h.output, Nat.le_trans h.size hb.size, fun k hk hl => ?_⟩
  rw [Below.heap_setCell w p u k (fun e => hk (e ▸ hp))]
  exact h.block k hk hl
/-- The byte at a place; 0 behind the last one. -/
def atB (S : ByteArray) (k : Nat) : Nat := if h : k < S.size then (S[k]'h).toNat else 0
theorem atB_in {S : ByteArray} {k : Nat} (h : k < S.size) : atB S k = (S[k]'h).toNat := dif_pos h
theorem atB_out {S : ByteArray} {k : Nat} (h : ¬ k < S.size) : atB S k = 0 := dif_neg h
set_option maxRecDepth 100000 in
set_option maxHeartbeats 1000000 in
theorem peek_any (S : ByteArray) (k g : Nat) (w : World) (hk : k ≤ S.size) (_hS : S.size ≤ 4611686018427387904) (h : Five w g #[.string S, .int .i64 k] 78) :
    Calls Tryz.prog 81 #[.pointer (some ⟨g, 0, none⟩)] w fun e w' => e = .returned (.int .u8 (atB S k)) ∧ ∃ n, w' = w.drewN n := by
  have h0 := h.cell 0
  have h1 := h.cell 1
  have f0 := h.fro 0
  have f1 := h.fro 1
  by_cases hlt : k < S.size
  · rw [atB_in hlt]
    have hne : ((k : Int) == (S.size : Int)) = false := by rw [beq_eq_false_iff_ne]; omega
    go_enter Tryz.func81, Tryz.ntmps81
    go_wp2_with fail
    go_quiet (fail)
    go_wp2_with fail
    go_quiet (fail)
    go_wp2_with fail
    go_ret
    first | exact ⟨rfl, _, rfl⟩ | exact ⟨rfl, _, World.drewN_drewN _ _ _⟩
  · rw [atB_out hlt]
    have hne : ((k : Int) == (S.size : Int)) = true := by rw [beq_iff_eq]; omega
    go_enter Tryz.func81, Tryz.ntmps81
    go_wp2_with fail
    go_quiet (fail)
    go_wp2_with fail
    go_ret
    first | exact ⟨rfl, _, rfl⟩ | exact ⟨rfl, _, World.drewN_drewN _ _ _⟩
/-- The reader's block, its place told. -/
abbrev Rdr (w : World) (g : Nat) (S : ByteArray) (k : Nat) : Prop := Five w g #[.string S, .int .i64 k] 78
theorem Rdr.step {w : World} {g : Nat} {S : ByteArray} {k : Nat} (h : Rdr w g S k) (j : Nat) : Rdr (w.setCell ⟨g, 1, none⟩ (.int .i64 j)) g S j := by
  have h2 := Five.set (j := 1) (u := .int .i64 j) h
  exact h2
theorem Five.drew {W : World} {g : Nat} {cs : Array Value} {t : TypeId} (h : Five W g cs t) (n : Nat) : Five (W.drewN n) g cs t := ⟨h.row⟩
theorem Out.drew {G : List Nat} {a b : World} (h : Out G a b) (n : Nat) : Out G a (b.drewN n) := ⟨h.os, h.tape, h.output, h.size, h.block⟩
set_option maxRecDepth 100000 in
set_option maxHeartbeats 1000000 in
theorem take_any (S : ByteArray) (k g c : Nat) (w : World) (hk : k ≤ S.size) (hS : S.size ≤ 4611686018427387904) (hc : 0 < c) (h : Rdr w g S k) :
    Calls Tryz.prog 78 #[.pointer (some ⟨g, 0, none⟩), .int .u8 (c : Int)] w fun e w' => e = .returned (.bool (decide (atB S k = c))) ∧ Rdr w' g S (if atB S k = c then k + 1 else k) ∧ Out [g] w w' := by
  have CP := Lib.hid (peek_any S k g w hk hS h)
  have H := Lib.hid h
  by_cases he : atB S k = c
  · rw [if_pos he, decide_eq_true he]
    have hlt : k < S.size := by
      rcases Nat.lt_or_ge k S.size with h2 | h2
      · exact h2
      · rw [atB_out (by omega)] at he; omega
    have hw : wrap64 ((k : Int) + 1) = ((k + 1 : Nat) : Int) := by unfold wrap64; omega
    have HE := Lib.hid he
    clear h he
    rw [HE.out] at CP
    have hb : ((c : Int) == (c : Int)) = true := beq_self_eq_true _
    have hb2 : ((c : Int) != (c : Int)) = false := by rw [bne_eq_false_iff_eq]
    go_enter Tryz.func78, Tryz.ntmps78
    go_wp2_with fail
    refine CP.out.mono ?_
    rintro e w' ⟨rfl, n, rfl⟩
    have h1 := (H.out.drew n).cell 1
    have f1 := (H.out.drew n).fro 1
    go_wp2_with fail
    go_ret
    exact ⟨rfl, (show Rdr (w.drewN n) g S k from H.out.drew n).step (k + 1), ((Out.refl _ _).drew n).set (by simp) _⟩
  · rw [if_neg he, decide_eq_false he]
    obtain ⟨y, hy⟩ : ∃ y, atB S k = y := ⟨_, rfl⟩
    rw [hy] at CP he
    have hb : ((c : Int) == (y : Int)) = false := by rw [beq_eq_false_iff_ne]; omega
    have hb2 : ((c : Int) != (y : Int)) = true := by rw [bne_iff_ne]; omega
    have hb3 : ((y : Int) == (c : Int)) = false := by rw [beq_eq_false_iff_ne]; omega
    have hb4 : ((y : Int) != (c : Int)) = true := by rw [bne_iff_ne]; omega
    clear h hy he
    go_enter Tryz.func78, Tryz.ntmps78
    go_wp2_with fail
    refine CP.out.mono ?_
    rintro e w' ⟨rfl, n, rfl⟩
    go_wp2_with fail
    go_ret
    exact ⟨rfl, H.out.drew n, (Out.refl _ _).drew n⟩
end Go.Proofs.YtmceakbjholjpaaGreatDoor

namespace Go.Proofs.YtmceakbjholjpaaGreatDoor
open Go.RowKit Go.Lib

/-- How many bytes from a place on are of a kind. -/
def runP (p : Nat → Bool) (S : ByteArray) (k : Nat) : Nat → Nat
  | 0 => 0
  | f + 1 => if p (atB S k) = true then 1 + runP p S (k + 1) f else 0
theorem runP_at {p : Nat → Bool} {S : ByteArray} {k n f : Nat} (hn : n ≤ f) (h : ∀ i, i < n → p (atB S (k + i)) = true) (hs : p (atB S (k + n)) = false ∨ n = f) : runP p S k f = n := by
  induction f generalizing k n with
  | zero => rw [runP]; omega
  | succ f ih =>
    rw [runP]
    rcases Nat.eq_zero_or_pos n with rfl | h0
    · rcases hs with hs | hs
      · rw [Nat.add_zero] at hs
        rw [if_neg (by rw [hs]; decide)]
      · omega
    · obtain ⟨m, rfl⟩ : ∃ m, n = m + 1 := ⟨n - 1, by omega⟩
      have h1 := h 0 (by omega)
      rw [Nat.add_zero] at h1
      rw [if_pos h1, ih (n := m) (by omega) (fun i hi => by have := h (i + 1) (by omega); rwa [show k + (i + 1) = k + 1 + i by omega] at this) (by rcases hs with hs | hs
                                                                                                                                                   · left; rwa [show k + (m + 1) = k + 1 + m by omega] at hs
                                                                                                                                                   · right; omega)]
      omega
def isFl (c : Nat) : Bool := c == 45 || c == 43 || c == 32 || c == 35 || c == 48
def isDg (c : Nat) : Bool := decide (48 ≤ c) && decide (c ≤ 57)
/-- Where the flags end. -/
def flE (S : ByteArray) (k : Nat) : Nat := k + runP isFl S k (S.size - k)
/-- Does a byte stand among the n ones from k on? -/
def hasN (S : ByteArray) (k c : Nat) : Nat → Bool
  | 0 => false
  | n + 1 => hasN S k c n || atB S (k + n) == c
def flV (S : ByteArray) (k n : Nat) : Array Value := #[.bool (hasN S k 45 n), .bool (hasN S k 43 n), .bool (hasN S k 32 n), .bool (hasN S k 35 n), .bool (hasN S k 48 n), .int .i64 0, .int .i64 0, .int .u8 0, .bool false, .bool false, .int .i64 0]
def atOf (w : World) (g : Nat) : Nat := match w.cell? ⟨g, 1, none⟩ with
  | some (.int _ z) => z.toNat
  | _ => 0
theorem atOf_rdr {w : World} {g k : Nat} {S : ByteArray} (h : Rdr w g S k) : atOf w g = k := by
  unfold atOf
  rw [h.cell 1]
  rfl
theorem isFl_cases {c : Nat} : isFl c = true ↔ c = 45 ∨ c = 43 ∨ c = 32 ∨ c = 35 ∨ c = 48 := by
  unfold isFl
  simp [or_assoc]
theorem hasN_step {S : ByteArray} {k n x : Nat} (h : atB S (k + n) = x) (c : Nat) : hasN S k c (n + 1) = (hasN S k c n || x == c) := by
  rw [hasN, h]
theorem atB_size {S : ByteArray} {k : Nat} (h : 0 < atB S k) : k < S.size := by
  rcases Nat.lt_or_ge k S.size with h2 | h2
  · exact h2
  · rw [atB_out (by omega)] at h; omega
theorem run_end {p : Nat → Bool} (_h0 : p 0 = false) {S : ByteArray} {k n : Nat} (hk : k + n ≤ S.size) (h : ∀ i, i < n → p (atB S (k + i)) = true) (hs : p (atB S (k + n)) = false) : runP p S k (S.size - k) = n :=
  runP_at (by omega) h (Or.inl hs)
theorem flV_step {S : ByteArray} {k n x : Nat} (h : atB S (k + n) = x) : flV S k (n + 1) = #[.bool (hasN S k 45 n || x == 45), .bool (hasN S k 43 n || x == 43), .bool (hasN S k 32 n || x == 32), .bool (hasN S k 35 n || x == 35), .bool (hasN S k 48 n || x == 48), .int .i64 0, .int .i64 0, .int .u8 0, .bool false, .bool false, .int .i64 0] := by
  unfold flV
  rw [hasN_step h, hasN_step h, hasN_step h, hasN_step h, hasN_step h]
set_option maxRecDepth 100000 in
set_option maxHeartbeats 8000000 in
theorem flags_any (S : ByteArray) (k g h : Nat) (w : World) (hk : k ≤ S.size) (hS : S.size ≤ 4611686018427387904) (hR : Rdr w g S k) (hP : Five w h (flV S k 0) 26) (hne : g ≠ h) :
    Calls Tryz.prog 79 #[.pointer (some ⟨g, 0, none⟩), .pointer (some ⟨h, 0, none⟩)] w fun e w' => e = .returned (.tuple #[]) ∧ Rdr w' g S (flE S k) ∧ Five w' h (flV S k (flE S k - k)) 26 ∧ Out [g, h] w w' := by
  have CP := Lib.hid (fun (j : Nat) (W : World) (hj : j ≤ S.size) (H : Rdr W g S j) => peek_any S j g W hj hS H)
  have ne1 : ¬ g = h := hne
  have ne2 : ¬ h = g := fun e => hne e.symm
  clear hne
  go_enter Tryz.func79, Tryz.ntmps79
  go_wp2_with fail
  go_loopw [] (fun wr => ∃ n : Nat, k + n ≤ S.size ∧ Rdr wr g S (k + n) ∧ Five wr h (flV S k n) 26 ∧ Out [g, h] w wr ∧ ∀ i, i < n → isFl (atB S (k + i)) = true) (fun wr => S.size - atOf wr g)
  case atStart => exact ⟨0, hk, hR, hP, Out.refl _ _, fun i hi => absurd hi (Nat.not_lt_zero i)⟩
  case round =>
    obtain ⟨n, hn, hRr, hPr, hO, hall⟩ := hrel
    have CQ := Lib.hid (CP.out _ _ hn hRr)
    have HRr := Lib.hid hRr
    have HPr := Lib.hid hPr
    have HO := Lib.hid hO
    have HALL := Lib.hid hall
    obtain ⟨x, hx⟩ : ∃ x, atB S (k + n) = x := ⟨_, rfl⟩
    rw [hx] at CQ
    have HX := Lib.hid hx
    have HS := Lib.hid (flV_step hx)
    have HM := Lib.hid (atOf_rdr hRr)
    clear hR hP hRr hPr hO hall hx
    by_cases hfl : isFl x = true
    · have hlt : k + n < S.size := atB_size (by rw [HX.out]; rcases isFl_cases.1 hfl with h | h | h | h | h <;> omega)
      have hw : wrap64 (((k + n : Nat) : Int) + 1) = ((k + n + 1 : Nat) : Int) := by unfold wrap64; omega
      have hwI : wrap64 ((k : Int) + (n : Int) + 1) = ((k + n + 1 : Nat) : Int) := by unfold wrap64; omega
      have hall2 : ∀ i, i < n + 1 → isFl (atB S (k + i)) = true := fun i hi => by
        rcases Nat.lt_or_ge i n with h2 | h2
        · exact HALL.out i h2
        · obtain rfl : n = i := by omega
          rw [HX.out]; exact hfl
      have HALL2 := Lib.hid hall2
      have hcase := isFl_cases.1 hfl
      clear hall2 hfl
      rcases hcase with rfl | rfl | rfl | rfl | rfl
      · have e : flV S k (n + 1) = (flV S k n).setIfInBounds 0 (.bool true) := by rw [HS.out]; unfold flV; simp
        have HE := Lib.hid e
        clear e
        go_wp2_with fail
        refine CQ.out.mono ?_
        rintro e W1 ⟨rfl, q, rfl⟩
        have c0 := (HPr.out.drew q).cell 0
        have f0 := (HPr.out.drew q).fro 0
        have c1 := (HRr.out.drew q).cell 1
        have f1 := (HRr.out.drew q).fro 1
        go_wp2_with fail
        go_roundw
        case rel => exact ⟨n + 1, by omega, ((show Rdr _ g S (k + n) from (HRr.out.drew q).other (j := 0) (u := .bool true) ne1).step (k + n + 1)), by rw [HE.out]; exact ((HPr.out.drew q).set (j := 0) (u := .bool true)).other (j := 1) ne2, ((HO.out.drew q).set (p := ⟨h, 0, none⟩) (by simp) _).set (p := ⟨g, 1, none⟩) (by simp) _, HALL2.out⟩
        case measure =>
          rw [HM.out]
          have hm2 := atOf_rdr ((show Rdr _ g S (k + n) from (HRr.out.drew q).other (j := 0) (u := .bool true) ne1).step (k + n + 1))
          rw [show (k : Int) + (n : Int) + 1 = ((k + n + 1 : Nat) : Int) by omega, hm2]
          omega
      · have e : flV S k (n + 1) = (flV S k n).setIfInBounds 1 (.bool true) := by rw [HS.out]; unfold flV; simp
        have HE := Lib.hid e
        clear e
        go_wp2_with fail
        refine CQ.out.mono ?_
        rintro e W1 ⟨rfl, q, rfl⟩
        have c0 := (HPr.out.drew q).cell 1
        have f0 := (HPr.out.drew q).fro 1
        have c1 := (HRr.out.drew q).cell 1
        have f1 := (HRr.out.drew q).fro 1
        go_wp2_with fail
        go_roundw
        case rel => exact ⟨n + 1, by omega, ((show Rdr _ g S (k + n) from (HRr.out.drew q).other (j := 1) (u := .bool true) ne1).step (k + n + 1)), by rw [HE.out]; exact ((HPr.out.drew q).set (j := 1) (u := .bool true)).other (j := 1) ne2, ((HO.out.drew q).set (p := ⟨h, 1, none⟩) (by simp) _).set (p := ⟨g, 1, none⟩) (by simp) _, HALL2.out⟩
        case measure =>
          rw [HM.out]
          have hm2 := atOf_rdr ((show Rdr _ g S (k + n) from (HRr.out.drew q).other (j := 1) (u := .bool true) ne1).step (k + n + 1))
          rw [show (k : Int) + (n : Int) + 1 = ((k + n + 1 : Nat) : Int) by omega, hm2]
          omega
      · have e : flV S k (n + 1) = (flV S k n).setIfInBounds 2 (.bool true) := by rw [HS.out]; unfold flV; simp
        have HE := Lib.hid e
        clear e
        go_wp2_with fail
        refine CQ.out.mono ?_
        rintro e W1 ⟨rfl, q, rfl⟩
        have c0 := (HPr.out.drew q).cell 2
        have f0 := (HPr.out.drew q).fro 2
        have c1 := (HRr.out.drew q).cell 1
        have f1 := (HRr.out.drew q).fro 1
        go_wp2_with fail
        go_roundw
        case rel => exact ⟨n + 1, by omega, ((show Rdr _ g S (k + n) from (HRr.out.drew q).other (j := 2) (u := .bool true) ne1).step (k + n + 1)), by rw [HE.out]; exact ((HPr.out.drew q).set (j := 2) (u := .bool true)).other (j := 1) ne2, ((HO.out.drew q).set (p := ⟨h, 2, none⟩) (by simp) _).set (p := ⟨g, 1, none⟩) (by simp) _, HALL2.out⟩
        case measure =>
          rw [HM.out]
          have hm2 := atOf_rdr ((show Rdr _ g S (k + n) from (HRr.out.drew q).other (j := 2) (u := .bool true) ne1).step (k + n + 1))
          rw [show (k : Int) + (n : Int) + 1 = ((k + n + 1 : Nat) : Int) by omega, hm2]
          omega
      · have e : flV S k (n + 1) = (flV S k n).setIfInBounds 3 (.bool true) := by rw [HS.out]; unfold flV; simp
        have HE := Lib.hid e
        clear e
        go_wp2_with fail
        refine CQ.out.mono ?_
        rintro e W1 ⟨rfl, q, rfl⟩
        have c0 := (HPr.out.drew q).cell 3
        have f0 := (HPr.out.drew q).fro 3
        have c1 := (HRr.out.drew q).cell 1
        have f1 := (HRr.out.drew q).fro 1
        go_wp2_with fail
        go_roundw
        case rel => exact ⟨n + 1, by omega, ((show Rdr _ g S (k + n) from (HRr.out.drew q).other (j := 3) (u := .bool true) ne1).step (k + n + 1)), by rw [HE.out]; exact ((HPr.out.drew q).set (j := 3) (u := .bool true)).other (j := 1) ne2, ((HO.out.drew q).set (p := ⟨h, 3, none⟩) (by simp) _).set (p := ⟨g, 1, none⟩) (by simp) _, HALL2.out⟩
        case measure =>
          rw [HM.out]
          have hm2 := atOf_rdr ((show Rdr _ g S (k + n) from (HRr.out.drew q).other (j := 3) (u := .bool true) ne1).step (k + n + 1))
          rw [show (k : Int) + (n : Int) + 1 = ((k + n + 1 : Nat) : Int) by omega, hm2]
          omega
      · have e : flV S k (n + 1) = (flV S k n).setIfInBounds 4 (.bool true) := by rw [HS.out]; unfold flV; simp
        have HE := Lib.hid e
        clear e
        go_wp2_with fail
        refine CQ.out.mono ?_
        rintro e W1 ⟨rfl, q, rfl⟩
        have c0 := (HPr.out.drew q).cell 4
        have f0 := (HPr.out.drew q).fro 4
        have c1 := (HRr.out.drew q).cell 1
        have f1 := (HRr.out.drew q).fro 1
        go_wp2_with fail
        go_roundw
        case rel => exact ⟨n + 1, by omega, ((show Rdr _ g S (k + n) from (HRr.out.drew q).other (j := 4) (u := .bool true) ne1).step (k + n + 1)), by rw [HE.out]; exact ((HPr.out.drew q).set (j := 4) (u := .bool true)).other (j := 1) ne2, ((HO.out.drew q).set (p := ⟨h, 4, none⟩) (by simp) _).set (p := ⟨g, 1, none⟩) (by simp) _, HALL2.out⟩
        case measure =>
          rw [HM.out]
          have hm2 := atOf_rdr ((show Rdr _ g S (k + n) from (HRr.out.drew q).other (j := 4) (u := .bool true) ne1).step (k + n + 1))
          rw [show (k : Int) + (n : Int) + 1 = ((k + n + 1 : Nat) : Int) by omega, hm2]
          omega
    · have hfl2 : isFl x = false := by rw [Bool.not_eq_true] at hfl; exact hfl
      have hne : x ≠ 45 ∧ x ≠ 43 ∧ x ≠ 32 ∧ x ≠ 35 ∧ x ≠ 48 := by
        refine ⟨?_, ?_, ?_, ?_, ?_⟩ <;> (rintro rfl; exact hfl rfl)
      have b1 : ((x : Int) == 45) = false := by rw [beq_eq_false_iff_ne]; omega
      have b2 : ((x : Int) == 43) = false := by rw [beq_eq_false_iff_ne]; omega
      have b3 : ((x : Int) == 32) = false := by rw [beq_eq_false_iff_ne]; omega
      have b4 : ((x : Int) == 35) = false := by rw [beq_eq_false_iff_ne]; omega
      have b5 : ((x : Int) == 48) = false := by rw [beq_eq_false_iff_ne]; omega
      have HEND := Lib.hid (show flE S k = k + n by unfold flE; rw [run_end rfl hn HALL.out (by rw [HX.out]; exact hfl2)])
      clear hfl hfl2 hne
      go_wp2_with fail
      refine CQ.out.mono ?_
      rintro e W1 ⟨rfl, q, rfl⟩
      go_wp2_with fail
      refine bodyPost_ret (results_none rfl _ _ _) rfl ?_
      refine ⟨rfl, ?_, ?_, HO.out.drew q⟩
      · rw [HEND.out]; exact HRr.out.drew q
      · rw [HEND.out, Nat.add_sub_cancel_left]; exact HPr.out.drew q
end Go.Proofs.YtmceakbjholjpaaGreatDoor

namespace Go.Proofs.YtmceakbjholjpaaGreatDoor
open Go.RowKit Go.Lib

/-- The number that n digits from k on write. -/
def digV (S : ByteArray) (k : Nat) : Nat → Nat
  | 0 => 0
  | n + 1 => digV S k n * 10 + (atB S (k + n) - 48)
theorem digV_lt {S : ByteArray} {k n : Nat} (h : ∀ i, i < n → isDg (atB S (k + i)) = true) : digV S k n < 10 ^ n := by
  induction n with
  | zero => exact Nat.one_pos
  | succ n ih =>
    have h1 := ih (fun i hi => h i (by omega))
    have h2 := h n (by omega)
    unfold isDg at h2
    simp only [Bool.and_eq_true, decide_eq_true_eq] at h2
    rw [digV, Nat.pow_succ]
    omega
/-- How many digits a width or a precision takes here: at most five. -/
def dgN (S : ByteArray) (k : Nat) : Nat := min 5 (runP isDg S k (S.size - k))
/-- A width or a precision: the number, whether it is a star, where it ends. -/
def amt (S : ByteArray) (k : Nat) : Int × Bool × Nat := if atB S k = 42 then (0, true, k + 1) else ((digV S k (dgN S k) : Nat), false, k + dgN S k)
theorem run_le {p : Nat → Bool} {S : ByteArray} {k f n : Nat} (hn : n ≤ f) (h : ∀ i, i < n → p (atB S (k + i)) = true) : n ≤ runP p S k f := by
  induction f generalizing k n with
  | zero => omega
  | succ f ih =>
    rcases Nat.eq_zero_or_pos n with rfl | h0
    · omega
    · obtain ⟨m, rfl⟩ : ∃ m, n = m + 1 := ⟨n - 1, by omega⟩
      have h1 := h 0 (by omega)
      rw [Nat.add_zero] at h1
      rw [runP, if_pos h1]
      have := ih (k := k + 1) (n := m) (by omega) (fun i hi => by have := h (i + 1) (by omega); rwa [show k + (i + 1) = k + 1 + i by omega] at this)
      omega
theorem dgN_five {S : ByteArray} {k : Nat} (hk : k + 5 ≤ S.size) (h : ∀ i, i < 5 → isDg (atB S (k + i)) = true) : dgN S k = 5 := by
  have := run_le (p := isDg) (S := S) (k := k) (f := S.size - k) (n := 5) (by omega) h
  unfold dgN
  omega
theorem dgN_at {S : ByteArray} {k n : Nat} (hk : k + n ≤ S.size) (hn : n ≤ 5) (h : ∀ i, i < n → isDg (atB S (k + i)) = true) (hs : isDg (atB S (k + n)) = false) : dgN S k = n := by
  unfold dgN
  rw [run_end rfl hk h hs]
  omega
set_option maxRecDepth 100000 in
set_option maxHeartbeats 8000000 in
theorem amount_any (S : ByteArray) (k g : Nat) (w : World) (hk : k ≤ S.size) (hS : S.size ≤ 4611686018427387904) (hR : Rdr w g S k) :
    Calls Tryz.prog 80 #[.pointer (some ⟨g, 0, none⟩)] w fun e w' => e = .returned (.tuple #[.int .i64 (amt S k).1, .bool (amt S k).2.1]) ∧ Rdr w' g S (amt S k).2.2 ∧ Out [g] w w' := by
  have CT := Lib.hid (take_any S k g 42 w hk hS (by decide) hR)
  have CP := Lib.hid (fun (j : Nat) (W : World) (hj : j ≤ S.size) (H : Rdr W g S j) => peek_any S j g W hj hS H)
  obtain ⟨x, hx⟩ : ∃ x, atB S k = x := ⟨_, rfl⟩
  unfold amt
  rw [hx] at CT ⊢
  have HX := Lib.hid hx
  clear hx
  by_cases hs : x = 42
  · subst hs
    have CT := CT.out
    rw [if_pos rfl, decide_eq_true rfl] at CT
    rw [if_pos rfl]
    have CT := Lib.hid CT
    go_enter Tryz.func80, Tryz.ntmps80
    go_wp2_with fail
    refine CT.out.mono ?_
    rintro e w1 ⟨rfl, h1, h2⟩
    have H1 := Lib.hid h1
    clear h1
    go_wp2_with fail
    go_ret2
    exact ⟨rfl, H1.out, h2⟩
  · have CT := CT.out
    rw [if_neg hs, decide_eq_false hs] at CT
    rw [if_neg hs]
    have CT := Lib.hid CT
    clear hs
    go_enter Tryz.func80, Tryz.ntmps80
    go_wp2_with fail
    refine CT.out.mono ?_
    rintro e w1 ⟨rfl, h1, h2⟩
    have H1 := Lib.hid h1
    have HO1 := Lib.hid h2
    clear h1 h2
    go_wp2_with fail
    go_loopw [4, 8] (fun nv cv wr => ∃ i : Nat, i ≤ 5 ∧ nv = .int .i64 (digV S k i : Nat) ∧ cv = .int .i64 (i : Int) ∧ k + i ≤ S.size ∧ Rdr wr g S (k + i) ∧ Out [g] w wr ∧ ∀ j, j < i → isDg (atB S (k + j)) = true) (fun _ cv _ => 5 - (RowKit.intOf cv).toNat)
    case atStart => exact ⟨0, by omega, rfl, rfl, hk, H1.out, HO1.out, fun j hj => absurd hj (Nat.not_lt_zero j)⟩
    case round =>
      obtain ⟨i, hi, rfl, rfl, hn, hRr, hO, hall⟩ := hrel
      obtain ⟨v, hv⟩ : ∃ v, digV S k i = v := ⟨_, rfl⟩
      have hv2 : v < 100000 := by
        have h1 := digV_lt hall
        have h2 : 10 ^ i ≤ 10 ^ 5 := Nat.pow_le_pow_right (by omega) hi
        omega
      rw [hv]
      have HV := Lib.hid hv
      have HALL := Lib.hid hall
      have HRr := Lib.hid hRr
      have HO := Lib.hid hO
      have CQ := Lib.hid (CP.out _ _ hn hRr)
      obtain ⟨x, hx⟩ : ∃ x, atB S (k + i) = x := ⟨_, rfl⟩
      rw [hx] at CQ
      have HX2 := Lib.hid hx
      clear hv hall hRr hO hx CP CT H1 HO1
      have g0 : (0 : Int) ≤ (v : Int) := by omega
      have g1 : (v : Int) ≤ 100000 := by omega
      by_cases hlt : i < 5
      · by_cases hd : isDg x = true
        · have hxb : 48 ≤ x ∧ x ≤ 57 := by unfold isDg at hd; simp only [Bool.and_eq_true, decide_eq_true_eq] at hd; exact hd
          have g2 : (48 : Int) ≤ (x : Int) := by omega
          have g3 : (x : Int) ≤ 57 := by omega
          have hlt2 : k + i < S.size := atB_size (by rw [HX2.out]; omega)
          have hw : wrap64 (((k + i : Nat) : Int) + 1) = ((k + i + 1 : Nat) : Int) := by unfold wrap64; omega
          have hwI : wrap64 ((k : Int) + (i : Int) + 1) = ((k + i + 1 : Nat) : Int) := by unfold wrap64; omega
          have HD := Lib.hid hd
          clear hd hxb
          go_wp2_with fail
          refine CQ.out.mono ?_
          rintro e W1 ⟨rfl, q, rfl⟩
          have c1 := (HRr.out.drew q).cell 1
          have f1 := (HRr.out.drew q).fro 1
          go_wp2_with fail
          go_roundw
          case rel => exact ⟨i + 1, by omega, by rw [digV, HV.out, HX2.out]; congr 1; omega, by go_num, by omega, (show Rdr _ g S (k + i) from HRr.out.drew q).step (k + i + 1), (HO.out.drew q).set (p := ⟨g, 1, none⟩) (by simp) _, fun j hj => by
            rcases Nat.lt_or_ge j i with h2 | h2
            · exact HALL.out j h2
            · obtain rfl : i = j := by omega
              rw [HX2.out]; exact HD.out⟩
          case measure => simp [RowKit.intOf]; omega
        · have hd2 : isDg x = false := by rw [Bool.not_eq_true] at hd; exact hd
          have HE := Lib.hid (dgN_at hn hi HALL.out (by rw [HX2.out]; exact hd2))
          have hcase : x < 48 ∨ (48 ≤ x ∧ 57 < x) := by
            unfold isDg at hd
            simp only [Bool.and_eq_true, decide_eq_true_eq] at hd
            omega
          clear hd hd2
          rcases hcase with h1 | ⟨h1, h2⟩
          all_goals
            go_wp2_with fail
            refine CQ.out.mono ?_
            rintro e W1 ⟨rfl, q, rfl⟩
            go_wp2_with fail
            go_ret2
            exact ⟨by rw [HE.out, HV.out]; rfl, by rw [HE.out]; exact HRr.out.drew q, HO.out.drew q⟩
      · obtain rfl : 5 = i := by omega
        have HE := Lib.hid (dgN_five hn HALL.out)
        go_wp2_with fail
        go_ret2
        exact ⟨by rw [HE.out, HV.out]; rfl, by rw [HE.out]; exact HRr.out, HO.out⟩
end Go.Proofs.YtmceakbjholjpaaGreatDoor

namespace Go.Proofs.YtmceakbjholjpaaGreatDoor
open Go.RowKit Go.Lib

/-- What is cut off at the end is noughts. -/
theorem trim_split (l : List UInt8) (x : UInt8) : ∃ k, l = Lib.trimRightB l x ++ List.replicate k x := by
  have h1 : ∀ c ∈ l.reverse.takeWhile (· == x), c = x := fun c hc => eq_of_beq (List.all_eq_true.1 List.all_takeWhile c hc)
  refine ⟨(l.reverse.takeWhile (· == x)).length, ?_⟩
  have h2 := List.eq_replicate_of_mem h1
  have h3 := List.takeWhile_append_dropWhile (p := (· == x)) (l := l.reverse)
  have h4 := congrArg List.reverse h3
  rw [List.reverse_append, List.reverse_reverse] at h4
  unfold Lib.trimRightB
  have h5 : (l.reverse.takeWhile (· == x)).reverse = List.replicate (l.reverse.takeWhile (· == x)).length x := by
    conv => lhs; rw [h2]
    rw [List.reverse_replicate]
  rw [← h5]
  exact h4.symm
end Go.Proofs.YtmceakbjholjpaaGreatDoor

namespace Go.Proofs.YtmceakbjholjpaaGreatDoor
open Go.RowKit Go.Lib

def hvl (l : List UInt8) : Nat := l.foldl (fun a c => a * 16 + hexR c.toNat) 0
end Go.Proofs.YtmceakbjholjpaaGreatDoor

namespace Go.Proofs.YtmceakbjholjpaaGreatDoor
open Go.RowKit Go.Lib

def qN : Nat := 9221120237041090561
/-- All NaNs are one. -/
def cn (b : Nat) : Nat := if 9218868437227405312 < mag b then qN else b
theorem cn_nan {b : Nat} (h : 9218868437227405312 < mag b) : cn b = qN := if_pos h
theorem cn_id {b : Nat} (h : mag b ≤ 9218868437227405312) : cn b = b := if_neg (by omega)
end Go.Proofs.YtmceakbjholjpaaGreatDoor

namespace Go.Proofs.YtmceakbjholjpaaGreatDoor
open Go.RowKit Go.Lib

/-- The unit of a piece. -/
abbrev D4 : Nat := 10000
theorem lim4 {l : List Nat} (h : Lim D4 l) (k : Nat) (hk : k < l.length) : ∃ x, l[k] = x ∧ x < 10000 := ⟨_, rfl, lim_get h k hk⟩

set_option maxRecDepth 100000 in
set_option maxHeartbeats 1000000 in
theorem rtrim_any (A : Option Addr) (cap : Nat) (xs : List Nat) (w : World) (hx : Lim D4 xs) (_hxn : xs.length ≤ 10000000000000) (hcap : xs.length ≤ cap) (hcm : cap ≤ maxLen) (hr : Rd .i64 w A xs) :
    Calls Tryz.prog 256 #[.slice A xs.length cap] w fun e w' => (∃ m : Nat, m ≤ xs.length ∧ dig D4 (vl D4 xs) = xs.take m ∧ e = .returned (.slice A m cap)) ∧ w = w' := by
  unfold maxLen at hcm
  go_enter Tryz.func256, Tryz.ntmps256
  go_wp2
  go_loop [0] (fun v => ∃ k : Nat, k ≤ xs.length ∧ v = .slice A k cap ∧ ∀ j (_ : k ≤ j) (hj : j < xs.length), xs[j] = 0) (fun v => lenOf v)
  case atStart => exact ⟨xs.length, Nat.le_refl _, rfl, fun j _ _ => by omega⟩
  case round =>
    obtain ⟨k, hk, rfl, h0⟩ := hrel
    have H0 := Lib.hid h0; clear h0
    by_cases hz : k = 0
    · subst hz
      go_wp2
      go_ret
      exact ⟨⟨0, Nat.zero_le _, (trim_take (by decide) hx (Nat.zero_le _) H0.out (.inl rfl)).1, rfl⟩, rfl⟩
    · obtain ⟨g, o, rfl, hc⟩ := hr (k - 1) (by omega)
      obtain ⟨x, hxe, hxk⟩ := lim4 hx (k - 1) (by omega)
      rw [hxe] at hc
      have HX := Lib.hid hxe; clear hxe
      have hkn : ((k : Int) - 1).toNat = k - 1 := by omega
      by_cases hx0 : x = 0
      · subst hx0
        go_wp2
        go_round
        case rel => exact ⟨k - 1, by omega, rfl, fun j h1 h2 => by
          by_cases e : j = k - 1
          · subst e; exact HX.out
          · exact H0.out j (by omega) h2⟩
        case measure => simp [lenOf]; omega
      · have hxi : ((x : Int) == 0) = false := by rw [beq_eq_false_iff_ne]; omega
        go_wp2
        go_ret
        exact ⟨⟨k, hk, (trim_take (by decide) hx hk H0.out (.inr ⟨by omega, by rw [HX.out]; exact hx0⟩)).1, rfl⟩, rfl⟩
theorem rtrim_own (v : Value) (B : Nat) (xs : List Nat) (w : World) (hx : Lim D4 xs) (hxn : xs.length ≤ 10000000000000) (hO : Own .i64 w B 3 v xs) :
    Calls Tryz.prog 256 #[v] w fun e w' => (∃ v', e = .returned v' ∧ Own .i64 w B 3 v' (dig D4 (vl D4 xs))) ∧ w = w' := by
  obtain ⟨A, cap, rfl, h1, h2⟩ := hO.slice
  refine (rtrim_any A cap xs w hx hxn h1 h2 hO.rd).mono ?_
  rintro e w' ⟨⟨m, hm, hd, rfl⟩, rfl⟩
  exact ⟨⟨_, rfl, by rw [hd]; exact hO.take m hm⟩, rfl⟩

theorem small_step {ds : List Nat} {m n : Nat} (h : vl D4 ds + D4 ^ ds.length * m = n) : vl D4 (ds ++ [m % 10000]) + D4 ^ (ds ++ [m % 10000]).length * (m / 10000) = n := by
  rw [vl_snoc, List.length_append, List.length_singleton, Nat.pow_succ, ← h]
  have hd : D4 ^ ds.length * m = D4 ^ ds.length * (m % 10000) + D4 ^ ds.length * D4 * (m / 10000) := digit_step (B := 10000) (P := D4 ^ ds.length) (z := m)
  omega
set_option maxRecDepth 100000 in
set_option maxHeartbeats 2000000 in
theorem small_any (n : Nat) (w : World) (hn : n ≤ 9223372036854775807) : Calls Tryz.prog 260 #[.int .i64 n] w (Makes .i64 3 w (dig D4 n)) := by
  obtain ⟨i0, hi, hz0, hz1, hz2⟩ := info_parts info_i64
  go_enter Tryz.func260, Tryz.ntmps260
  go_wp2
  go_loopw [0, 3] (fun q v wr => ∃ (m : Nat) (ds : List Nat), q = .int .i64 m ∧ (ds.length ≤ 16 ∧ m ≤ n ∧ m < 10000 ^ (16 - ds.length)) ∧ Own .i64 wr w.heap.size 3 v ds ∧ Lim D4 ds ∧ vl D4 ds + D4 ^ ds.length * m = n ∧ (0 < m ∨ Top ds) ∧ Below w.heap.size w wr) (fun q _ _ => (RowKit.intOf q).toNat)
  case atStart => exact ⟨n, [], rfl, ⟨Nat.zero_le _, Nat.le_refl _, Nat.lt_of_le_of_lt hn (by decide)⟩, Own.nil _ _ _, lim_nil _, by simp [vl], .inr top_nil, Below.refl _ _⟩
  case round =>
    obtain ⟨m, ds, rfl, ⟨hd16, hmn, hmp⟩, hO, hL, hv, ht, hB⟩ := hrel
    obtain ⟨A, cap, rfl, hcap⟩ := hO.slice
    by_cases hm : m = 0
    · subst hm
      have HE := Lib.hid (show dig D4 n = ds from dig_eq (by decide) ⟨hL, by rcases ht with h | h; omega; exact h⟩ (by rw [← hv]; simp))
      have HO := Lib.hid hO
      clear hv hO hL ht
      go_wp2
      go_ret
      exact ⟨_, rfl, by rw [HE.out]; exact HO.out, hB⟩
    · have hown := hO.row (n := ds.length) rfl
      have HS := Lib.hid (small_step hv)
      have hlim : Lim D4 (ds ++ [m % 10000]) := lim_append.2 ⟨hL, lim_one.2 (Nat.mod_lt _ (by decide))⟩
      have htop : 0 < m / 10000 ∨ Top (ds ++ [m % 10000]) := by
        rcases Nat.eq_zero_or_pos (m / 10000) with h | h
        · exact .inr (top_snoc.2 (by omega))
        · exact .inl h
      have hsz := hB.size
      have hd15 : ds.length < 16 := by
        rcases Nat.lt_or_ge ds.length 16 with h | h
        · exact h
        · rw [show 16 - ds.length = 0 by omega, Nat.pow_zero] at hmp
          omega
      have hm1 : ds.length + 1 ≤ 16 ∧ m / 10000 ≤ n ∧ m / 10000 < 10000 ^ (16 - (ds.length + 1)) := by
        refine ⟨by omega, by omega, Nat.div_lt_of_lt_mul ?_⟩
        rw [← Nat.pow_succ', show (16 - (ds.length + 1)).succ = 16 - ds.length by omega]
        exact hmp
      clear hmp
      clear hv hO hL ht
      go_wp2_with (at_builtin; refine wpList_append_own _ rfl _ _ 269 rfl w.heap.size 3 i0 (.int .i64 0) 1 8 Tryz.underlying269 hi hz0 hz1 hz2 rfl (by decide) _ _ _ rfl (hown.alloc _) ⟨wr.heap.size, 0, none⟩ 1 1 [.int .i64 ((m % 10000 : Nat) : Int)] rfl rfl (cell_one_new _ _ _) ?c2 ?c3 ?c4 ?c5 ?_)
      case c2 => simp [Value.oneCell']
      case c3 => unfold maxLen; omega
      case c4 => omega
      case c5 => first | omega | (simp; omega)
      intro v' w4 hown' hgrow _
      have hB4 : Below w.heap.size w w4 := (hB.alloc hsz _).grown hgrow (by simp; omega) (fun z e => (hown.lt z e).1)
      have HO1 := Lib.hid (Own.snoc hown' rfl)
      clear hown hown' hgrow
      go_wp2
      go_roundw
      case rel => exact ⟨m / 10000, ds ++ [m % 10000], vint (by omega), by rw [List.length_append]; exact hm1, HO1.out, hlim, HS.out, htop, hB4⟩
      case measure => simp [RowKit.intOf]; omega
end Go.Proofs.YtmceakbjholjpaaGreatDoor

namespace Go.Proofs.YtmceakbjholjpaaGreatDoor
open Go.RowKit Go.Lib

/-- The product's pieces so far. -/
structure RTim (xs ds : List Nat) (n k c : Nat) : Prop where
  len : ds.length = k
  lim : Lim D4 ds
  hc : c < n
  eq : vl D4 ds + D4 ^ k * c = vl D4 (xs.take k) * n
  top : k ≤ xs.length ∨ k + c ≤ xs.length + n
theorem rtim_step {xs ds : List Nat} {n k c : Nat} (h : RTim xs ds n k c) (hx : Lim D4 xs) (hgo : k < xs.length ∨ 0 < c) (z : Nat) (hz : z = c + xs.getD k 0 * n) : RTim xs (ds ++ [z % 10000]) n (k + 1) (z / 10000) := by
  have b1 := getD_lt hx (by decide) k
  have h3 := h.hc
  refine ⟨by rw [List.length_append, h.len]; rfl, lim_append.2 ⟨h.lim, lim_one.2 (Nat.mod_lt _ (by decide))⟩, ?_, ?_, ?_⟩
  · apply Nat.div_lt_of_lt_mul
    have : (xs.getD k 0 + 1) * n ≤ 10000 * n := Nat.mul_le_mul_right _ b1
    rw [Nat.add_mul] at this
    omega
  · have e1 := h.eq
    have hd : D4 ^ k * z = D4 ^ k * (z % 10000) + D4 ^ k * D4 * (z / 10000) := digit_step (B := 10000) (P := D4 ^ k) (z := z)
    have e2 := congrArg (D4 ^ k * ·) hz
    simp only [Nat.mul_add, ← Nat.mul_assoc] at e2
    rw [vl_snoc, h.len, vl_take_get, Nat.pow_succ, Nat.add_mul]
    omega
  · by_cases a : k < xs.length
    · exact .inl a
    · rw [getD_no a, Nat.zero_mul, Nat.add_zero] at hz
      have := h.top
      exact .inr (by omega)
theorem rtim_end {xs ds : List Nat} {n k : Nat} (h : RTim xs ds n k 0) (hx : xs.length ≤ k) : vl D4 ds = vl D4 xs * n := by
  have := h.eq
  rwa [vl_take_all hx, Nat.mul_zero, Nat.add_zero] at this

set_option maxRecDepth 100000 in
set_option maxHeartbeats 4000000 in
theorem rcmp_any (A A' : Option Addr) (ca cb : Nat) (xs ys : List Nat) (w : World) (hx : Norm D4 xs) (hy : Norm D4 ys) (hxn : xs.length ≤ 1000000) (_hyn : ys.length ≤ 1000000) (hra : Rd .i64 w A xs) (hrb : Rd .i64 w A' ys) :
    Calls Tryz.prog 262 #[.slice A xs.length ca, .slice A' ys.length cb] w fun e w' => e = .returned (.int .i64 (cmpZ (vl D4 xs) (vl D4 ys))) ∧ ∃ n, w' = w.drewN n := by
  by_cases hne : xs.length = ys.length
  · have hnb : ((xs.length : Int) != (ys.length : Int)) = false := by simp [hne]
    have HN := Lib.hid hne; clear hne
    go_enter Tryz.func262, Tryz.ntmps262
    go_wp2
    go_loopw [5] (fun i wr => ∃ k n : Nat, k ≤ xs.length ∧ i = .int .i64 ((k : Int) - 1) ∧ xs.drop k = ys.drop k ∧ wr = w.drewN n) (fun i _ => (RowKit.intOf i + 1).toNat)
    case atStart => exact ⟨xs.length, 0, Nat.le_refl _, rfl, by rw [List.drop_length, HN.out, List.drop_length], rfl⟩
    case round =>
      obtain ⟨k, n, hk, rfl, hd, rfl⟩ := hrel
      have HD := Lib.hid hd; clear hd
      rcases k with _ | k
      · have he : cmpZ (vl D4 xs) (vl D4 ys) = 0 := by
          have := HD.out
          simp at this
          rw [this]; exact cmpZ_eq rfl
        have HE := Lib.hid he; clear he
        go_wp2
        go_ret
        exact ⟨by rw [HE.out]; rfl, n, rfl⟩
      · have hlx : k < xs.length := hk
        have hly : k < ys.length := by have := HN.out; omega
        obtain ⟨g, o, rfl, hc⟩ := hra k hlx
        obtain ⟨g', o', rfl, hc'⟩ := hrb k hly
        obtain ⟨x, hxe, hxk⟩ := lim4 hx.1 k hlx
        obtain ⟨y, hye, hyk⟩ := lim4 hy.1 k hly
        rw [hxe] at hc
        rw [hye] at hc'
        rcases Nat.lt_trichotomy x y with h | h | h
        · have HE := Lib.hid (show cmpZ (vl D4 xs) (vl D4 ys) = -1 from cmpZ_lt (vl_cmp_at hx.1 HN.out hlx HD.out (by rw [hxe, hye]; exact h)))
          clear hxe hye
          rw [show ((k + 1 : Nat) : Int) - 1 = (k : Int) by omega]
          go_wp2
          go_quiet (fail)
          go_wp2
          go_ret
          exact ⟨by rw [HE.out]; rfl, _, by rw [World.drewN_drewN]⟩
        · have hd2 : xs.drop k = ys.drop k := by rw [drop_get xs k hlx, drop_get ys k hly, HD.out, hxe, hye, h]
          have HD2 := Lib.hid hd2
          subst h
          clear hd2 hxe hye
          rw [show ((k + 1 : Nat) : Int) - 1 = (k : Int) by omega]
          go_wp2
          go_quiet (fail)
          go_wp2
          go_quiet (fail)
          go_wp2
          go_roundw
          case rel => exact ⟨k, _, by omega, rfl, HD2.out, rfl⟩
          case measure => simp [RowKit.intOf]
        · have HE := Lib.hid (show cmpZ (vl D4 xs) (vl D4 ys) = 1 from cmpZ_gt (vl_cmp_at hy.1 HN.out.symm hly HD.out.symm (by rw [hxe, hye]; exact h)))
          have h2 : ¬ x < y := by omega
          clear hxe hye
          rw [show ((k + 1 : Nat) : Int) - 1 = (k : Int) by omega]
          go_wp2
          go_quiet (fail)
          go_wp2
          go_quiet (fail)
          go_wp2
          go_ret
          exact ⟨by rw [HE.out]; rfl, _, by rw [World.drewN_drewN, World.drewN_drewN]⟩
  · have hnb : ((xs.length : Int) != (ys.length : Int)) = true := by simp; omega
    rcases Nat.lt_or_gt_of_ne hne with h | h
    · have HE := Lib.hid (show cmpZ (vl D4 xs) (vl D4 ys) = -1 from cmpZ_lt (norm_len_lt (by decide) hx.1 hy.2 h))
      clear hne
      go_enter Tryz.func262, Tryz.ntmps262
      go_wp2
      go_ret
      exact ⟨by rw [HE.out]; rfl, 0, rfl⟩
    · have HE := Lib.hid (show cmpZ (vl D4 xs) (vl D4 ys) = 1 from cmpZ_gt (norm_len_lt (by decide) hy.1 hx.2 h))
      have h2 : ¬ xs.length < ys.length := by omega
      clear hne
      go_enter Tryz.func262, Tryz.ntmps262
      go_wp2
      go_ret
      exact ⟨by rw [HE.out]; rfl, 0, rfl⟩
end Go.Proofs.YtmceakbjholjpaaGreatDoor

namespace Go.Proofs.YtmceakbjholjpaaGreatDoor
open Go.RowKit Go.Lib

theorem piece_prod {x n c : Nat} (hx : x < 10000) (hn : n ≤ 1099511627776) (hc : c < n) : ∃ p : Nat, x * n = p ∧ (x : Int) * (n : Int) = (p : Int) ∧ (p : Int) + (c : Int) ≤ 9223372036854775807 ∧ p ≤ 10995116277760000 := by
  have h : x * n ≤ 9999 * 1099511627776 := Nat.mul_le_mul (by omega) hn
  exact ⟨x * n, rfl, (Int.natCast_mul _ _).symm, by omega, by omega⟩

set_option maxRecDepth 100000 in
set_option maxHeartbeats 4000000 in
theorem rtim_any (A : Option Addr) (ca n : Nat) (xs : List Nat) (w : World) (hx : Lim D4 xs) (hxn : xs.length ≤ 1000000) (hn0 : 0 < n) (hn : n ≤ 1099511627776) (hra : Rd .i64 w A xs) :
    Calls Tryz.prog 267 #[.slice A xs.length ca, .int .i64 n] w (Makes .i64 3 w (dig D4 (vl D4 xs * n))) := by
  obtain ⟨i0, hi, hz0, hz1, hz2⟩ := info_parts info_i64
  go_enter Tryz.func267, Tryz.ntmps267
  go_wp2
  go_loopw [5, 6, 7] (fun v c i wr => ∃ (k z : Nat) (ds : List Nat), i = .int .i64 k ∧ c = .int .i64 z ∧ Own .i64 wr w.heap.size 3 v ds ∧ RTim xs ds n k z ∧ Below w.heap.size w wr) (fun _ c i _ => (xs.length - (RowKit.intOf i).toNat) * 2199023255552 + (RowKit.intOf c).toNat)
  case atStart => exact ⟨0, 0, [], rfl, rfl, Own.nil _ _ _, ⟨rfl, lim_nil _, hn0, by simp [vl], .inl (Nat.zero_le _)⟩, Below.refl _ _⟩
  case round =>
    obtain ⟨k, z, ds, rfl, rfl, hO, hR, hB⟩ := hrel
    obtain ⟨A5, c5, rfl, _⟩ := hO.slice
    have hzn : z < n := hR.hc
    have htop := hR.top
    by_cases hgo : k < xs.length ∨ 0 < z
    · have hdl := hR.len
      have hown := hO.row hdl
      have HDL := Lib.hid hdl
      have hsz := hB.size
      rw [hdl] at hown
      rw [hdl]
      by_cases hlx : k < xs.length
      · obtain ⟨g, o, rfl, hc⟩ := (hra.below hB) k hlx
        obtain ⟨x, hxe, hxk⟩ := lim4 hx k hlx
        rw [hxe] at hc
        obtain ⟨p, hp, hpi, hpb, hpb2⟩ := piece_prod hxk hn hzn
        have HS := Lib.hid (rtim_step hR hx hgo (z + p) (by rw [getD_of hlx, hxe, hp]))
        have hz2b : (z + p) / 10000 < 1099511627776 := by have := HS.out.hc; omega
        clear hR hdl hO hxe hp hgo htop
        go_wp2_with (at_builtin; refine wpList_append_own _ rfl _ _ 269 rfl w.heap.size 3 i0 (.int .i64 0) 1 8 Tryz.underlying269 hi hz0 hz1 hz2 rfl (by decide) _ _ _ rfl (hown.alloc _) ⟨wr.heap.size, 0, none⟩ 1 1 [.int .i64 (((z + p) % 10000 : Nat) : Int)] rfl rfl (cell_one_new _ _ _) ?c2 ?c3 ?c4 ?c5 ?_)
        case c2 => simp [Value.oneCell']
        case c3 => unfold maxLen; omega
        case c4 => omega
        case c5 => first | omega | (simp; omega)
        intro v' w4 hown' hgrow _
        have hB4 : Below w.heap.size w w4 := (hB.alloc hsz _).grown hgrow (by simp; omega) (fun z e => (hown.lt z e).1)
        have HO1 := Lib.hid (Own.snoc hown' HDL.out.symm)
        clear hown hown' hgrow hpi
        go_wp2
        go_roundw
        case rel => exact ⟨k + 1, (z + p) / 10000, ds ++ [(z + p) % 10000], by go_num, vint (by omega), HO1.out, HS.out, hB4⟩
        case measure => simp [RowKit.intOf]; omega
      · have hz0' : 0 < z := by omega
        have HS := Lib.hid (rtim_step hR hx hgo z (by rw [getD_no hlx, Nat.zero_mul, Nat.add_zero]))
        clear hR hdl hO hgo
        go_wp2_with (at_builtin; refine wpList_append_own _ rfl _ _ 269 rfl w.heap.size 3 i0 (.int .i64 0) 1 8 Tryz.underlying269 hi hz0 hz1 hz2 rfl (by decide) _ _ _ rfl (hown.alloc _) ⟨wr.heap.size, 0, none⟩ 1 1 [.int .i64 ((z % 10000 : Nat) : Int)] rfl rfl (cell_one_new _ _ _) ?c2 ?c3 ?c4 ?c5 ?_)
        case c2 => simp [Value.oneCell']
        case c3 => unfold maxLen; omega
        case c4 => omega
        case c5 => first | omega | (simp; omega)
        intro v' w4 hown' hgrow _
        have hB4 : Below w.heap.size w w4 := (hB.alloc hsz _).grown hgrow (by simp; omega) (fun z e => (hown.lt z e).1)
        have HO1 := Lib.hid (Own.snoc hown' HDL.out.symm)
        clear hown hown' hgrow
        go_wp2
        go_roundw
        case rel => exact ⟨k + 1, z / 10000, ds ++ [z % 10000], by go_num, vint (by omega), HO1.out, HS.out, hB4⟩
        case measure => simp [RowKit.intOf]; omega
    · have hlx : ¬ k < xs.length := by omega
      obtain rfl : z = 0 := by omega
      have he := rtim_end hR (by omega)
      have hl := hR.len
      have cT := rtrim_own _ _ ds wr hR.lim (by omega) hO
      rw [he] at cT
      have CT := Lib.hid cT
      rw [hl]
      rw [hl] at CT
      clear cT hO hR he hl hgo
      go_wp2_with fail
      refine CT.out.mono ?_
      rintro e w' ⟨⟨v', rfl, hO7⟩, rfl⟩
      have HO7 := Lib.hid hO7
      clear hO7 CT
      go_wp2
      go_ret
      exact ⟨_, rfl, HO7.out, hB⟩
end Go.Proofs.YtmceakbjholjpaaGreatDoor

namespace Go.Proofs.YtmceakbjholjpaaGreatDoor
open Go.RowKit Go.Lib

theorem dig4_powb {b j : Nat} (hb : b ≤ 10000) (_h1 : 1 ≤ b) : (dig D4 (b ^ j)).length ≤ j + 1 := by
  rw [dig_len_le (by decide)]
  have h1 : b ^ j ≤ D4 ^ j := Nat.pow_le_pow_left hb _
  have h2 : D4 ^ j < D4 ^ (j + 1) := Nat.pow_lt_pow_right (by decide) (by omega)
  omega
theorem own_oneb (w : World) (a : Nat) (t : TypeId) : Own .i64 (w.alloc (.cells #[.int .i64 (a : Nat)] t)) w.heap.size t (.slice (some ⟨w.heap.size, 0, none⟩) 1 1) [a] :=
  World.ownsRow_lit (e := t) (size := 1) w #[.int .i64 (a : Nat)] 1 (Nat.le_refl _) (by decide) rfl
theorem dig4_oneb (b : Nat) : dig D4 (b ^ 0) = [1] := by
  rw [Nat.pow_zero]
  exact dig_eq (by decide) ⟨fun x hx => by rw [List.mem_singleton] at hx; subst hx; decide, by simp [Top]⟩ (by simp [vl])
theorem lim4p (n : Nat) : Lim D4 (dig D4 n) := (dig_norm (by decide) n).1
set_option maxRecDepth 100000 in
set_option maxHeartbeats 4000000 in
theorem rpow_b2 (k : Nat) (w : World) (hk : k ≤ 10000) :
    Calls Tryz.prog 261 #[.int .i64 2, .int .i64 k] w (Makes .i64 3 w (dig D4 (2 ^ k))) := by
  have hO0 := own_oneb w 1 3
  rw [← dig4_oneb 2] at hO0
  have HO0 := Lib.hid hO0
  have hB0 := (Below.refl w.heap.size w).alloc (Nat.le_refl _) (.cells #[.int .i64 (1 : Nat)] 3)
  clear hO0
  go_enter Tryz.func261, Tryz.ntmps261
  go_wp2
  go_loopw [5, 1] (fun v q wr => ∃ j m : Nat, j + m = k ∧ q = .int .i64 m ∧ Own .i64 wr w.heap.size 3 v (dig D4 (2 ^ j)) ∧ Below w.heap.size w wr) (fun _ q _ => (RowKit.intOf q).toNat)
  case atStart => exact ⟨0, k, by omega, rfl, HO0.out, hB0⟩
  case round =>
    clear HO0 hB0
    obtain ⟨j, m, hjm, rfl, hO, hB⟩ := hrel
    obtain ⟨A5, c5, rfl, _⟩ := hO.slice
    by_cases h8 : 8 ≤ m
    · have cT := rtim_any A5 c5 256 (dig D4 (2 ^ j)) wr (lim4p _) (by have := dig4_powb (b := 2) (j := j) (by omega) (by omega); omega) (by omega) (by omega) hO.rd
      have hp : 2 ^ j * 256 = 2 ^ (j + 8) := by rw [Nat.pow_add]
      rw [dig_vl (by decide), hp, show ((256 : Nat) : Int) = 256 from rfl] at cT
      have CT := Lib.hid cT
      clear cT hp hO
      go_wp2_with fail
      refine CT.out.mono ?_
      rintro e w1 ⟨v, rfl, hO1, hB1⟩
      have HO1 := Lib.hid (hO1.mono hB.size)
      have hB2 := hB.trans (hB1.mono hB.size)
      clear hO1 hB1 CT
      go_wp2
      go_roundw
      case rel => exact ⟨j + 8, m - 8, by omega, vint (by omega), HO1.out, hB2⟩
      case measure => simp [RowKit.intOf]; omega
    · go_wp2
      obtain ⟨wo, rfl⟩ : ∃ wo : World, wo = wr := ⟨wr, rfl⟩
      go_loopw [5, 1] (fun v q wi => ∃ j m : Nat, j + m = k ∧ q = .int .i64 m ∧ Own .i64 wi w.heap.size 3 v (dig D4 (2 ^ j)) ∧ Below w.heap.size w wi) (fun _ q _ => (RowKit.intOf q).toNat)
      case atStart => exact ⟨j, m, hjm, rfl, hO, hB⟩
      case round =>
        clear hO hB hjm h8
        obtain ⟨j, m, hjm, rfl, hO, hB⟩ := hrel
        obtain ⟨A5, c5, rfl, _⟩ := hO.slice
        by_cases h1 : 0 < m
        · have cT := rtim_any A5 c5 2 (dig D4 (2 ^ j)) wr (lim4p _) (by have := dig4_powb (b := 2) (j := j) (by omega) (by omega); omega) (by omega) (by omega) hO.rd
          have hp : 2 ^ j * 2 = 2 ^ (j + 1) := by rw [Nat.pow_succ]
          rw [dig_vl (by decide), hp, show ((2 : Nat) : Int) = 2 from rfl] at cT
          have CT := Lib.hid cT
          clear cT hp hO
          go_wp2_with fail
          refine CT.out.mono ?_
          rintro e w1 ⟨v, rfl, hO1, hB1⟩
          have HO1 := Lib.hid (hO1.mono hB.size)
          have hB2 := hB.trans (hB1.mono hB.size)
          clear hO1 hB1 CT
          go_wp2
          go_roundw
          case rel => exact ⟨j + 1, m - 1, by omega, vint (by omega), HO1.out, hB2⟩
          case measure => simp [RowKit.intOf]; omega
        · obtain rfl : m = 0 := by omega
          obtain rfl : j = k := by omega
          have HO := Lib.hid hO
          clear hO
          go_wp2
          go_ret
          exact ⟨_, rfl, HO.out, hB⟩

set_option maxRecDepth 100000 in
set_option maxHeartbeats 4000000 in
theorem rpow_b10 (k : Nat) (w : World) (hk : k ≤ 10000) :
    Calls Tryz.prog 261 #[.int .i64 10, .int .i64 k] w (Makes .i64 3 w (dig D4 (10 ^ k))) := by
  have hO0 := own_oneb w 1 3
  rw [← dig4_oneb 10] at hO0
  have HO0 := Lib.hid hO0
  have hB0 := (Below.refl w.heap.size w).alloc (Nat.le_refl _) (.cells #[.int .i64 (1 : Nat)] 3)
  clear hO0
  go_enter Tryz.func261, Tryz.ntmps261
  go_wp2
  go_loopw [5, 1] (fun v q wr => ∃ j m : Nat, j + m = k ∧ q = .int .i64 m ∧ Own .i64 wr w.heap.size 3 v (dig D4 (10 ^ j)) ∧ Below w.heap.size w wr) (fun _ q _ => (RowKit.intOf q).toNat)
  case atStart => exact ⟨0, k, by omega, rfl, HO0.out, hB0⟩
  case round =>
    clear HO0 hB0
    obtain ⟨j, m, hjm, rfl, hO, hB⟩ := hrel
    obtain ⟨A5, c5, rfl, _⟩ := hO.slice
    by_cases h8 : 8 ≤ m
    · have cT := rtim_any A5 c5 100000000 (dig D4 (10 ^ j)) wr (lim4p _) (by have := dig4_powb (b := 10) (j := j) (by omega) (by omega); omega) (by omega) (by omega) hO.rd
      have hp : 10 ^ j * 100000000 = 10 ^ (j + 8) := by rw [Nat.pow_add]
      rw [dig_vl (by decide), hp, show ((100000000 : Nat) : Int) = 100000000 from rfl] at cT
      have CT := Lib.hid cT
      clear cT hp hO
      go_wp2_with fail
      refine CT.out.mono ?_
      rintro e w1 ⟨v, rfl, hO1, hB1⟩
      have HO1 := Lib.hid (hO1.mono hB.size)
      have hB2 := hB.trans (hB1.mono hB.size)
      clear hO1 hB1 CT
      go_wp2
      go_roundw
      case rel => exact ⟨j + 8, m - 8, by omega, vint (by omega), HO1.out, hB2⟩
      case measure => simp [RowKit.intOf]; omega
    · go_wp2
      obtain ⟨wo, rfl⟩ : ∃ wo : World, wo = wr := ⟨wr, rfl⟩
      go_loopw [5, 1] (fun v q wi => ∃ j m : Nat, j + m = k ∧ q = .int .i64 m ∧ Own .i64 wi w.heap.size 3 v (dig D4 (10 ^ j)) ∧ Below w.heap.size w wi) (fun _ q _ => (RowKit.intOf q).toNat)
      case atStart => exact ⟨j, m, hjm, rfl, hO, hB⟩
      case round =>
        clear hO hB hjm h8
        obtain ⟨j, m, hjm, rfl, hO, hB⟩ := hrel
        obtain ⟨A5, c5, rfl, _⟩ := hO.slice
        by_cases h1 : 0 < m
        · have cT := rtim_any A5 c5 10 (dig D4 (10 ^ j)) wr (lim4p _) (by have := dig4_powb (b := 10) (j := j) (by omega) (by omega); omega) (by omega) (by omega) hO.rd
          have hp : 10 ^ j * 10 = 10 ^ (j + 1) := by rw [Nat.pow_succ]
          rw [dig_vl (by decide), hp, show ((10 : Nat) : Int) = 10 from rfl] at cT
          have CT := Lib.hid cT
          clear cT hp hO
          go_wp2_with fail
          refine CT.out.mono ?_
          rintro e w1 ⟨v, rfl, hO1, hB1⟩
          have HO1 := Lib.hid (hO1.mono hB.size)
          have hB2 := hB.trans (hB1.mono hB.size)
          clear hO1 hB1 CT
          go_wp2
          go_roundw
          case rel => exact ⟨j + 1, m - 1, by omega, vint (by omega), HO1.out, hB2⟩
          case measure => simp [RowKit.intOf]; omega
        · obtain rfl : m = 0 := by omega
          obtain rfl : j = k := by omega
          have HO := Lib.hid hO
          clear hO
          go_wp2
          go_ret
          exact ⟨_, rfl, HO.out, hB⟩

end Go.Proofs.YtmceakbjholjpaaGreatDoor
