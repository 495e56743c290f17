/- Several texts in one (Contracts of layer 3: which floats are finite; Parts; Contracts of layer 3: amount; Plain: floats by their rungs, and which one is nearest to a fraction. No walk here; Contracts of layer 3: math.Ldexp of a natural that is a float; Contracts of layer 3: math.Ldexp; Contracts of layer 3: what its laws share: same, digits one by one; Contracts of layer 4: the float nearest to a numeral; Plain: floats by a mantissa of 53 digits; exact differences; one step of what is left. No walk here; Contracts of layer 4: whole numbers: wholeBelow, Whole; The definition of layer 2: Text; The order of floats by a whole number, and what a number is called that has no digits (boundless); Contracts of layer 4: what its laws share: whole numbers read, what is left of whole numbers, the fixed examples; Contracts of layer 6: values as strings; values compared; The walk of the law CellTexts; Plain: values in order. No walk here; Layer 7: each order is one; values compared; A slice of strings that came in, opened and shut; Contracts of layer 7's laws: entries made of items; lists of numbers compared; Plain arithmetic of layer 1: the character at a place of a string; Plain arithmetic of layer 1: the places at which the characters of a string begin; Contracts of layer 1: All, the iterator over a string's characters; Layer 1: the law UstrAll, walked; Contracts of layer 7: values written; every order of the table at once; Known; Layer 7's laws: what they ask of three entries; Contracts of layer 8: Keys and All of an array that is nil, by what its entries are; Contracts of layer 8: a sort of nothing; the entries of an array that is nil; Contracts of layer 8: the elements of an array, sorted; Contracts of layer 8: the entries of an array; Layer 7's laws: the entries; the walk of SortsKeys; Contracts of layer 8: the keys of an array, as they came; Contracts of layer 8: Set over a value that is there, Delete, Clear; Contracts of layer 8: Delete; Totals of arrays within one another; the laws' fixed; Contracts of layer 8: All, over an array of values, and its iterator; Contracts of layer 8: Clear; Contracts of layer 8: an array of values, in the order in which they came). -/
import Derived.RegionTactic
import Derived.ChangeAlike
import Derived.Lib.LazyBuf
import Derived.Lib.BufferRead
import Derived.WalkSpells
import Derived.WalkLawsBesides
import Derived.Deep.RegionWith
import Derived.Test.YtnbagigbaceonaaGreatDoorShelf
import Derived.Deep.QuietTactic
import Derived.BigQuiet
import Derived.Laws.BitsAllLaws
import Derived.Outline
import Derived.Lib.BitFns
import Derived.Laws.FloatArith
import Derived.Lib.ItoaNum
import Derived.Lib.AppendIntMem
import Derived.Lib.SmallJoins
import Derived.Laws.CopyOwn
import Derived.Shelf.Strings.SlTrimAscii
import Derived.Deep.RegionHeld3
import Derived.Deep.DeepCutAuto
import Derived.OpenShut
import Derived.ChangeShapes
import Derived.WideShapes
import Derived.Deep.Strs
import Derived.Deep.Slices
import Derived.Deep.Fields
import Derived.ChangeSame
import Derived.Deep.RegionHeldLaw
import Derived.Deep.AppendLies
import Derived.Lib.DecodeN
import Derived.Shelf.Unicode.DecodeSlow
import Derived.Lib.RuneCount
import Derived.RangeFuncNested
import Derived.RangeFuncBound
import Derived.RangeFuncCalls
import Derived.RangeFuncLeaves
import Derived.Shelf.Abstract
import Derived.Shelf.RegionOpen
import Derived.OwnWalkIn
import Derived.TacticsInMore
import Derived.LoopNIn
import Derived.LoopIn
import Derived.Test.YtnbagigbaceonaaGreatDoorRows
import Derived.WalkKit
import Derived.Lib.Hide
import Derived.Lib.RuneCountTail
import Derived.WalkSmall
import Derived.Deep.Upon
import Derived.Laws.IdiomRangeMap
import Derived.BigFrameIn
import Derived.RangeFuncBox
import Derived.RangeFuncFrom
import Derived.Maps.OwnSet
import Derived.Test.YtnbagigbaceonaaGreatDoorQal1
import Derived.Test.YtnbagigbaceonaaGreatDoorQal2
namespace Go.Proofs.YtnbagigbaceonaaGreatDoor
open Go.RowKit Go.Lib

theorem dbl_sign : Ieee.double.signWeight = 9223372036854775808 := by decide
theorem dbl_binade : Ieee.double.binade = 4503599627370496 := by decide
theorem dbl_inf : Ieee.double.infRung = 9218868437227405312 := by decide
theorem dbl_least : Ieee.double.leastPlace = -1074 := by decide
/-- A finite float's natural and power. -/
def manF (r : Nat) : Nat := if r < 4503599627370496 then r else 4503599627370496 + r % 4503599627370496
def expF (r : Nat) : Int := if r < 4503599627370496 then -1074 else -1074 + ((r / 4503599627370496 - 1 : Nat) : Int)
theorem read_fin {b : Nat} (h : mag b < 9218868437227405312) : Ieee.double.read b = .number (b / 9223372036854775808 % 2 == 1) (manF (mag b)) (expF (mag b)) := by
  unfold Ieee.Format.read manF expF mag at *
  simp only [dbl_sign, dbl_binade, dbl_inf, dbl_least]
  split
  · rfl
  · rfl
theorem read_inf {b : Nat} (h : mag b = 9218868437227405312) : Ieee.double.read b = .infinity (b / 9223372036854775808 % 2 == 1) := by
  unfold Ieee.Format.read mag at *
  simp only [dbl_sign, dbl_binade, dbl_inf]
  rw [if_neg (by omega), if_neg (by omega), if_pos h]
theorem read_nan {b : Nat} (h : 9218868437227405312 < mag b) : Ieee.double.read b = .nan (b / 9223372036854775808 % 2 == 1) (mag b - 9218868437227405312) := by
  unfold Ieee.Format.read mag at *
  simp only [dbl_sign, dbl_binade, dbl_inf]
  rw [if_neg (by omega), if_neg (by omega), if_neg (by omega)]
theorem nan_no {b : Nat} (h : mag b ≤ 9218868437227405312) : nanB b = false := by
  show (Ieee.double.order b b != some .eq) = false
  unfold Ieee.Format.order
  rcases Nat.lt_or_ge (mag b) 9218868437227405312 with h1 | h1
  · rw [read_fin h1]
    simp [Ieee.Datum.order]
  · rw [read_inf (by omega)]
    simp [Ieee.Datum.order]
theorem nan_yes {b : Nat} (h : 9218868437227405312 < mag b) : nanB b = true := by
  show (Ieee.double.order b b != some .eq) = true
  unfold Ieee.Format.order
  rw [read_nan h]
  rfl
end Go.Proofs.YtnbagigbaceonaaGreatDoor

namespace Go.Proofs.YtnbagigbaceonaaGreatDoor
open Go.RowKit Go.Lib

/-- A row of numbers is not touched by a store where no number is. -/
theorem Rd.other {κ : IntKind} {W : World} {A : Option Addr} {xs : List Nat} (h : Rd κ W A xs) {g j : Nat} {u0 : Value} (hc : W.cell? ⟨g, j, none⟩ = some u0) (hu : ∀ z, u0 ≠ .int κ z) (u : Value) : Rd κ (W.setCell ⟨g, j, none⟩ u) A xs := fun i hi => by
  obtain ⟨g', o, e, hc'⟩ := h i hi
  refine ⟨g', o, e, ?_⟩
  have hne : (⟨g', o + i, none⟩ : Addr) ≠ ⟨g, j, none⟩ := fun e2 => by
    rw [e2] at hc'
    rw [hc] at hc'
    exact hu _ (Option.some.inj hc')
  rw [World.cell?_setCell_other _ _ _ _ (fun e3 => hne e3.symm)]
  exact hc'
end Go.Proofs.YtnbagigbaceonaaGreatDoor

namespace Go.Proofs.YtnbagigbaceonaaGreatDoor

/-- What the float of rung r is, counted in the least one. -/
def V (r : Nat) : Nat := if r < 4503599627370496 then r else (4503599627370496 + r % 4503599627370496) * 2 ^ (r / 4503599627370496 - 1)
def U (r : Nat) : Nat := 2 ^ (r / 4503599627370496 - 1)
theorem U_pos (r : Nat) : 0 < U r := Nat.pow_pos (by omega)
theorem V_succ (r : Nat) : V (r + 1) = V r + U r := by
  unfold V U
  by_cases h : r + 1 < 4503599627370496
  · rw [if_pos h, if_pos (by omega), show r / 4503599627370496 - 1 = 0 by omega, Nat.pow_zero]
  · rw [if_neg h]
    by_cases h2 : r < 4503599627370496
    · obtain rfl : r = 4503599627370495 := by omega
      decide
    · rw [if_neg h2]
      by_cases h3 : (r + 1) % 4503599627370496 = 0
      · rw [h3, show (r + 1) / 4503599627370496 - 1 = r / 4503599627370496 - 1 + 1 by omega, Nat.pow_succ, show r % 4503599627370496 = 4503599627370495 by omega]
        generalize 2 ^ (r / 4503599627370496 - 1) = z
        omega
      · rw [show (r + 1) / 4503599627370496 = r / 4503599627370496 by omega, show (r + 1) % 4503599627370496 = r % 4503599627370496 + 1 by omega, ← Nat.add_assoc, Nat.succ_mul]
theorem V_lt {r s : Nat} (h : r < s) : V r < V s := by
  induction s with
  | zero => omega
  | succ s ih =>
    have h1 := V_succ s
    have h2 := U_pos s
    rcases Nat.lt_or_ge r s with h3 | h3
    · have := ih h3; omega
    · obtain rfl : r = s := by omega
      omega
end Go.Proofs.YtnbagigbaceonaaGreatDoor

namespace Go.Proofs.YtnbagigbaceonaaGreatDoor
open Go.RowKit Go.Lib

theorem dbl_frac : Ieee.double.fractionBits = 52 := rfl
theorem word_pos (r : Nat) : Ieee.double.word false r = r := rfl
theorem log2_bd {n : Nat} (h : 0 < n) : 2 ^ n.log2 ≤ n ∧ n < 2 ^ (n.log2 + 1) := ⟨Nat.log2_self_le (by omega), Nat.lt_log2_self⟩
theorem log2_is {n k : Nat} (h1 : 2 ^ k ≤ n) (h2 : n < 2 ^ (k + 1)) : n.log2 = k := by
  have h0 : 0 < n := Nat.lt_of_lt_of_le (Nat.pow_pos (by omega)) h1
  obtain ⟨a, b⟩ := log2_bd h0
  have c1 := (Nat.pow_lt_pow_iff_right (show 1 < 2 by omega)).1 (Nat.lt_of_le_of_lt h1 b)
  have c2 := (Nat.pow_lt_pow_iff_right (show 1 < 2 by omega)).1 (Nat.lt_of_le_of_lt a h2)
  omega
theorem log2_mul {m : Nat} (j : Nat) (h : 0 < m) : (m * 2 ^ j).log2 = m.log2 + j := by
  obtain ⟨a, b⟩ := log2_bd h
  refine log2_is ?_ ?_
  · rw [Nat.pow_add]; exact Nat.mul_le_mul_right _ a
  · rw [Nat.add_right_comm, Nat.pow_add]; exact Nat.mul_lt_mul_of_pos_right b (Nat.pow_pos (by omega))
theorem log2_le52 {m : Nat} (h : 0 < m) (h2 : m < 9007199254740992) : m.log2 ≤ 52 := by
  have := (log2_bd h).1
  have h3 : 2 ^ m.log2 < 2 ^ 53 := Nat.lt_of_le_of_lt this h2
  have := (Nat.pow_lt_pow_iff_right (show 1 < 2 by omega)).1 h3
  omega
theorem log2_52 {m : Nat} (h : 4503599627370496 ≤ m) (h2 : m < 9007199254740992) : m.log2 = 52 := log2_is h h2
theorem cut_exact (m j : Nat) (hm : 0 < m) : Ieee.Toward.even.cut false (m * 2 ^ j) j = m := by
  have hp : 0 < 2 ^ j := Nat.pow_pos (by omega)
  have hl := log2_mul j hm
  have hmin : min j ((m * 2 ^ j).log2 + 2) = j := by omega
  unfold Ieee.Toward.cut
  simp only [hmin, Nat.one_shiftLeft, Nat.mul_div_cancel _ hp, Nat.mul_mod_left]
  have h1 : (2 ^ j == 0) = false := by rw [beq_eq_false_iff_ne]; omega
  simp [h1]
/-- A number that is a float is written as it. -/
theorem nearest_exact {m j e : Nat} {place : Int} (hm : 0 < m) (hm2 : m < 9007199254740992) (he : place + (j : Int) + 1074 = (e : Int)) (hc : e = 0 ∨ 4503599627370496 ≤ m) :
    Ieee.double.nearest false (m * 2 ^ j) place = min (e * 4503599627370496 + m) 9218868437227405312 := by
  have hne : m * 2 ^ j ≠ 0 := Nat.pos_iff_ne_zero.1 (Nat.mul_pos hm (Nat.pow_pos (by omega)))
  have hl := log2_mul j hm
  have hb := log2_le52 hm hm2
  have hlast : max (place + ((m * 2 ^ j).log2 : Int) - ((52 : Nat) : Int)) (-1074) = place + (j : Int) := by
    rcases hc with h | h
    · omega
    · have := log2_52 h hm2; omega
  unfold Ieee.Format.nearest
  rw [if_neg hne]
  simp only [dbl_frac, dbl_least, dbl_binade, dbl_inf, hlast]
  rw [show (place - (place + (j : Int))).toNat = 0 by omega, show (place + (j : Int) - place).toNat = j by omega, Nat.shiftLeft_zero, cut_exact m j hm, show (place + (j : Int) - -1074).toNat = e by omega, word_pos]
/-- The bits of a natural below 2^53 as a float. -/
def fw (m : Nat) : Nat := if m = 0 then 0 else (m.log2 + 1022) * 4503599627370496 + m * 2 ^ (52 - m.log2)
theorem expF_lo (r : Nat) : -1074 ≤ expF r := by unfold expF; split <;> omega
theorem val_V {r : Nat} : manF r <<< (expF r - -1074).toNat = V r := by
  rw [Nat.shiftLeft_eq]
  unfold manF expF V
  split
  · rw [show ((-1074 : Int) - -1074).toNat = 0 by omega]; simp
  · congr 2
    omega
/-- Which of two floats that are finite and not below nought is the greater one. -/
theorem order_V {r s : Nat} (hr : r < 9218868437227405312) (hs : s < 9218868437227405312) : Ieee.double.order r s = some (compare (r : Int) (s : Int)) := by
  have hm : ∀ x, x < 9218868437227405312 → mag x = x := fun x h => Nat.mod_eq_of_lt (by omega)
  have hg : ∀ x, x < 9218868437227405312 → (x / 9223372036854775808 % 2 == 1) = false := fun x h => by rw [beq_eq_false_iff_ne]; omega
  unfold Ieee.Format.order
  rw [read_fin (by rw [hm r hr]; exact hr), hm r hr, read_fin (by rw [hm s hs]; exact hs), hm s hs, hg r hr, hg s hs]
  show some (compare (Ieee.signed false (manF r) (expF r - min (expF r) (expF s)).toNat) (Ieee.signed false (manF s) (expF s - min (expF r) (expF s)).toNat)) = _
  have h1 := expF_lo r
  have h2 := expF_lo s
  obtain ⟨c, hc⟩ : ∃ c : Nat, min (expF r) (expF s) + 1074 = (c : Int) := ⟨(min (expF r) (expF s) + 1074).toNat, by omega⟩
  have key : ∀ x : Nat, (expF x - -1074).toNat = (expF x - min (expF r) (expF s)).toNat + c → manF x * 2 ^ (expF x - min (expF r) (expF s)).toNat * 2 ^ c = V x := fun x hx => by
    rw [← val_V, Nat.shiftLeft_eq, hx, Nat.pow_add, Nat.mul_assoc]
  have kr := key r (by omega)
  have ks := key s (by omega)
  show some (compare ((manF r <<< _ : Nat) : Int) ((manF s <<< _ : Nat) : Int)) = _
  rw [Nat.shiftLeft_eq, Nat.shiftLeft_eq]
  generalize manF r * 2 ^ (expF r - min (expF r) (expF s)).toNat = x at *
  generalize manF s * 2 ^ (expF s - min (expF r) (expF s)).toNat = y at *
  have hp : 0 < 2 ^ c := Nat.pow_pos (by omega)
  congr 1
  rcases Nat.lt_trichotomy r s with h | h | h
  · rw [Int.compare_eq_lt.2 (show (r : Int) < (s : Int) by omega), Int.compare_eq_lt]
    have hv := V_lt h
    rw [← kr, ← ks] at hv
    have := Nat.lt_of_mul_lt_mul_right hv
    omega
  · subst h
    have : x = y := Nat.eq_of_mul_eq_mul_right hp (by rw [kr, ks])
    rw [this, Int.compare_eq_eq.2 rfl, Int.compare_eq_eq.2 rfl]
  · rw [Int.compare_eq_gt.2 (show (s : Int) < (r : Int) by omega), Int.compare_eq_gt]
    have hv := V_lt h
    rw [← kr, ← ks] at hv
    have := Nat.lt_of_mul_lt_mul_right hv
    omega
end Go.Proofs.YtnbagigbaceonaaGreatDoor

namespace Go.Proofs.YtnbagigbaceonaaGreatDoor
open Go.RowKit Go.Lib

theorem mul_one {m k : Nat} (h1 : 4503599627370496 ≤ m) (h2 : m < 9007199254740992) (hk0 : 1 ≤ k) (hk : k ≤ 2046) : floatBits .mul .f64 4607182418800017408 (k * 4503599627370496 + (m - 4503599627370496)) = some (k * 4503599627370496 + (m - 4503599627370496)) := by
  obtain ⟨y, hy⟩ : ∃ y, k * 4503599627370496 + (m - 4503599627370496) = y := ⟨_, rfl⟩
  rw [hy]
  have hmy : mag y = y := Nat.mod_eq_of_lt (by omega)
  have hman : manF y = m := by rw [manF, if_neg (by omega)]; omega
  have hexp : expF y = (k : Int) - 1075 := by rw [expF, if_neg (by omega)]; omega
  show (((Ieee.double.read 4607182418800017408).product (Ieee.double.read y)).map Ieee.double.write) = _
  rw [show Ieee.double.read 4607182418800017408 = .number false 4503599627370496 (-52) by decide, read_fin (by rw [hmy]; omega), hmy, hman, hexp, show (y / 9223372036854775808 % 2 == 1) = false by rw [beq_eq_false_iff_ne]; omega]
  show some (Ieee.double.nearest false (4503599627370496 * m) (-52 + ((k : Int) - 1075))) = _
  have hx := nearest_exact (m := m) (j := 52) (e := k - 1) (place := -52 + ((k : Int) - 1075)) (by omega) h2 (by omega) (Or.inr h1)
  rw [Nat.mul_comm 4503599627370496 m, show m * 4503599627370496 = m * 2 ^ 52 from rfl, hx]
  exact congrArg some (by omega)

end Go.Proofs.YtnbagigbaceonaaGreatDoor

namespace Go.Proofs.YtnbagigbaceonaaGreatDoor
open Go.RowKit Go.Lib

/-- What stands ahead of the digits that are written already. -/
def ahead (m : Nat) : List UInt8 := if m < 10 then [] else decs (m / 10)
end Go.Proofs.YtnbagigbaceonaaGreatDoor

namespace Go.Proofs.YtnbagigbaceonaaGreatDoor
open Go.RowKit Go.Lib

/-- A float with its sign turned, if so told. -/
def turned (b : Bool) (r : Nat) : Nat := if b then Op.negFloat .f64 r else r
end Go.Proofs.YtnbagigbaceonaaGreatDoor

namespace Go.Proofs.YtnbagigbaceonaaGreatDoor

theorem mag_no {r : Nat} (h : r < 9218868437227405312) : mag r = r := Nat.mod_eq_of_lt (by omega)
end Go.Proofs.YtnbagigbaceonaaGreatDoor

namespace Go.Proofs.YtnbagigbaceonaaGreatDoor
open Go.RowKit Go.Lib

theorem mag_lt (b : Nat) : mag b < 9223372036854775808 := by unfold mag; omega
end Go.Proofs.YtnbagigbaceonaaGreatDoor

namespace Go.Proofs.YtnbagigbaceonaaGreatDoor
open Go.RowKit Go.Lib

theorem Own.more {κ : IntKind} {w : World} {B : Nat} {t : TypeId} {v : Value} {xs ys : List Nat} {k m : Nat} {cs : List Value} (h : w.ownsRow B t 1 v (k + m) (nums κ xs ++ cs)) (hc : cs = nums κ ys) (hk : k = xs.length) (hm : m = ys.length) : Own κ w B t v (xs ++ ys) := by
  subst hc
  exact Own.append h hk hm
end Go.Proofs.YtnbagigbaceonaaGreatDoor

namespace Go.Proofs.YtnbagigbaceonaaGreatDoor
open Go.RowKit Go.Lib

/-- Floats in order: a whole number for each that is no NaN. -/
def keyZ (x : Nat) : Int := if (x / 9223372036854775808 % 2 == 1) = true then -(mag x : Int) else (mag x : Int)
theorem cmp_ext {a b c d : Int} (h1 : a < b ↔ c < d) (h2 : a = b ↔ c = d) : compare a b = compare c d := by
  rcases Int.lt_trichotomy a b with h | h | h
  · rw [Int.compare_eq_lt.2 h, Int.compare_eq_lt.2 (h1.1 h)]
  · rw [Int.compare_eq_eq.2 h, Int.compare_eq_eq.2 (h2.1 h)]
  · rw [Int.compare_eq_gt.2 h, Int.compare_eq_gt.2 (by omega)]
theorem cmp_iff {a b c d : Int} (h : compare a b = compare c d) : (a < b ↔ c < d) ∧ (a = b ↔ c = d) :=
  ⟨by rw [← Int.compare_eq_lt, ← Int.compare_eq_lt, h], by rw [← Int.compare_eq_eq, ← Int.compare_eq_eq, h]⟩
theorem manF_zero {r : Nat} : manF r = 0 ↔ r = 0 := by
  unfold manF
  split <;> omega
theorem order_key {x y : Nat} (hx : mag x ≤ 9218868437227405312) (hy : mag y ≤ 9218868437227405312) : Ieee.double.order x y = some (compare (keyZ x) (keyZ y)) := by
  unfold Ieee.Format.order keyZ
  have bx := mag_lt x
  have by' := mag_lt y
  rcases Nat.lt_or_ge (mag x) 9218868437227405312 with h1 | h1
  · rcases Nat.lt_or_ge (mag y) 9218868437227405312 with h2 | h2
    · have hV := order_V h1 h2
      unfold Ieee.Format.order at hV
      rw [read_fin (by rw [mag_no h1]; exact h1), read_fin (by rw [mag_no h2]; exact h2), mag_no h1, mag_no h2] at hV
      rw [read_fin h1, read_fin h2]
      have s1 : (mag x / 9223372036854775808 % 2 == 1) = false := by rw [beq_eq_false_iff_ne]; omega
      have s2 : (mag y / 9223372036854775808 % 2 == 1) = false := by rw [beq_eq_false_iff_ne]; omega
      rw [s1, s2] at hV
      change some (compare (Ieee.signed false (manF (mag x)) (expF (mag x) - min (expF (mag x)) (expF (mag y))).toNat) (Ieee.signed false (manF (mag y)) (expF (mag y) - min (expF (mag x)) (expF (mag y))).toNat)) = _ at hV
      change some (compare (Ieee.signed _ (manF (mag x)) (expF (mag x) - min (expF (mag x)) (expF (mag y))).toNat) (Ieee.signed _ (manF (mag y)) (expF (mag y) - min (expF (mag x)) (expF (mag y))).toNat)) = _
      have hz1 := @manF_zero (mag x)
      have hz2 := @manF_zero (mag y)
      generalize (x / 9223372036854775808 % 2 == 1) = sx
      generalize (y / 9223372036854775808 % 2 == 1) = sy
      generalize (expF (mag x) - min (expF (mag x)) (expF (mag y))).toNat = k1 at *
      generalize (expF (mag y) - min (expF (mag x)) (expF (mag y))).toNat = k2 at *
      generalize manF (mag x) = m1 at *
      generalize manF (mag y) = m2 at *
      unfold Ieee.signed at hV ⊢
      have q1 : m1 <<< k1 = 0 ↔ m1 = 0 := by
        rw [Nat.shiftLeft_eq]
        constructor
        · intro h
          rcases Nat.mul_eq_zero.1 h with h | h
          · exact h
          · have := Nat.pow_pos (n := k1) (show 0 < 2 by omega); omega
        · rintro rfl; exact Nat.zero_mul _
      have q2 : m2 <<< k2 = 0 ↔ m2 = 0 := by
        rw [Nat.shiftLeft_eq]
        constructor
        · intro h
          rcases Nat.mul_eq_zero.1 h with h | h
          · exact h
          · have := Nat.pow_pos (n := k2) (show 0 < 2 by omega); omega
        · rintro rfl; exact Nat.zero_mul _
      generalize m1 <<< k1 = A at *
      generalize m2 <<< k2 = C at *
      obtain ⟨e1, e2⟩ := cmp_iff (Option.some.inj hV)
      simp only [Bool.false_eq_true, ↓reduceIte] at e1 e2
      congr 1
      have n1 : A = 0 ↔ mag x = 0 := q1.trans hz1
      have n2 : C = 0 ↔ mag y = 0 := q2.trans hz2
      clear q1 q2 hz1 hz2 hV
      cases sx <;> cases sy <;> simp only [Bool.false_eq_true, ↓reduceIte]
      all_goals refine cmp_ext ⟨fun h => ?_, fun h => ?_⟩ ⟨fun h => ?_, fun h => ?_⟩ <;> omega
    · rw [read_fin h1, read_inf (by omega)]
      show some (if (y / 9223372036854775808 % 2 == 1) then Ordering.gt else Ordering.lt) = _
      generalize (x / 9223372036854775808 % 2 == 1) = sx
      generalize (y / 9223372036854775808 % 2 == 1) = sy
      congr 1
      cases sx <;> cases sy <;> simp only [Bool.false_eq_true, ↓reduceIte]
      · exact (Int.compare_eq_lt.2 (by omega)).symm
      · exact (Int.compare_eq_gt.2 (by omega)).symm
      · exact (Int.compare_eq_lt.2 (by omega)).symm
      · exact (Int.compare_eq_gt.2 (by omega)).symm
  · rcases Nat.lt_or_ge (mag y) 9218868437227405312 with h2 | h2
    · rw [read_inf (by omega), read_fin h2]
      show some (if (x / 9223372036854775808 % 2 == 1) then Ordering.lt else Ordering.gt) = _
      generalize (x / 9223372036854775808 % 2 == 1) = sx
      generalize (y / 9223372036854775808 % 2 == 1) = sy
      congr 1
      cases sx <;> cases sy <;> simp only [Bool.false_eq_true, ↓reduceIte]
      · exact (Int.compare_eq_gt.2 (by omega)).symm
      · exact (Int.compare_eq_gt.2 (by omega)).symm
      · exact (Int.compare_eq_lt.2 (by omega)).symm
      · exact (Int.compare_eq_lt.2 (by omega)).symm
    · rw [read_inf (by omega), read_inf (by omega)]
      have e1 : mag x = 9218868437227405312 := by omega
      have e2 : mag y = 9218868437227405312 := by omega
      rw [e1, e2]
      generalize (x / 9223372036854775808 % 2 == 1) = sx
      generalize (y / 9223372036854775808 % 2 == 1) = sy
      cases sx <;> cases sy <;> rfl
theorem order_nan_l {x y : Nat} (h : 9218868437227405312 < mag x) : Ieee.double.order x y = none := by
  unfold Ieee.Format.order
  rw [read_nan h]
  rfl
theorem order_nan_r {x y : Nat} (h : 9218868437227405312 < mag y) : Ieee.double.order x y = none := by
  unfold Ieee.Format.order
  rw [read_nan h]
  cases Ieee.double.read x <;> rfl
end Go.Proofs.YtnbagigbaceonaaGreatDoor

namespace Go.Proofs.YtnbagigbaceonaaGreatDoor
open Go.RowKit Go.Lib

theorem f3 : fw 3 = 4613937818241073152 := by decide +kernel
theorem f1 : fw 1 = 4607182418800017408 := by decide +kernel
end Go.Proofs.YtnbagigbaceonaaGreatDoor

namespace Go.Proofs.YtnbagigbaceonaaGreatDoor
open Go.RowKit Go.Lib

/-- Numbers in order, NaN behind all others. -/
def rkB (x : Nat) : Int := if nanB x = true then 1 else 0
def ltB (x y : Nat) : Bool := FloatKind.f64.format.order x y == some .lt
def gtB (x y : Nat) : Bool := FloatKind.f64.format.order x y == some .gt
def cmpN (x y : Nat) : Int := if ltB x y = true then -1 else if gtB x y = true then 1 else rkB x - rkB y
end Go.Proofs.YtnbagigbaceonaaGreatDoor

namespace Go.Proofs.YtnbagigbaceonaaGreatDoor
open Go.RowKit Go.Lib

theorem cmp_facts : ∀ (l m : List UInt8), (Op.bytesLess l m = true ↔ Lib.compareBytes l m = -1) ∧ (Lib.compareBytes l m = 0 ↔ l = m) ∧ (Lib.compareBytes l m = -1 ∨ Lib.compareBytes l m = 0 ∨ Lib.compareBytes l m = 1)
  | [], [] => ⟨by decide, by decide, by decide⟩
  | [], _ :: _ => ⟨⟨fun _ => rfl, fun _ => rfl⟩, ⟨(fun h => by cases h), (fun h => by cases h)⟩, Or.inl rfl⟩
  | _ :: _, [] => ⟨⟨(fun h => by cases h), (fun h => by cases h)⟩, ⟨(fun h => by cases h), (fun h => by cases h)⟩, Or.inr (Or.inr rfl)⟩
  | a :: x, b :: y => by
    obtain ⟨i1, i2, i3⟩ := cmp_facts x y
    have e1 : Op.bytesLess (a :: x) (b :: y) = (decide (a < b) || (a == b && Op.bytesLess x y)) := rfl
    have e2 : Lib.compareBytes (a :: x) (b :: y) = if a < b then -1 else if b < a then 1 else Lib.compareBytes x y := rfl
    rw [e1, e2]
    by_cases h1 : a < b
    · have hne : a ≠ b := fun e => by rw [e] at h1; exact absurd h1 (UInt8.lt_irrefl b)
      rw [if_pos h1, decide_eq_true h1]
      exact ⟨⟨fun _ => rfl, fun _ => rfl⟩, ⟨(fun h => by cases h), (fun h => absurd (List.cons.inj h).1 hne)⟩, Or.inl rfl⟩
    · rw [if_neg h1, decide_eq_false h1, Bool.false_or]
      by_cases h2 : b < a
      · have hne : a ≠ b := fun e => by rw [e] at h2; exact absurd h2 (UInt8.lt_irrefl b)
        rw [if_pos h2, beq_eq_false_iff_ne.2 hne, Bool.false_and]
        exact ⟨⟨(fun h => by cases h), (fun h => by cases h)⟩, ⟨(fun h => by cases h), (fun h => absurd (List.cons.inj h).1 hne)⟩, Or.inr (Or.inr rfl)⟩
      · have he : a = b := UInt8.le_antisymm (UInt8.not_lt.1 h2) (UInt8.not_lt.1 h1)
        rw [if_neg h2, he, beq_self_eq_true, Bool.true_and]
        refine ⟨i1, i2.trans ⟨fun h => by rw [h], fun h => (List.cons.inj h).2⟩, i3⟩
end Go.Proofs.YtnbagigbaceonaaGreatDoor

namespace Go.Proofs.YtnbagigbaceonaaGreatDoor
open Go.RowKit Go.Lib

/-- A number's place among all: NaN stands behind all others. -/
def keyN (x : Nat) : Int := if 9218868437227405312 < mag x then 9223372036854775808 else keyZ x
theorem keyZ_bd (x : Nat) : -9223372036854775808 < keyZ x ∧ keyZ x < 9223372036854775808 := by
  have := mag_lt x
  unfold keyZ
  split <;> omega
theorem cmpN_key (x y : Nat) : cmpN x y = if keyN x < keyN y then -1 else if keyN y < keyN x then 1 else 0 := by
  have bx := keyZ_bd x
  have by' := keyZ_bd y
  unfold cmpN ltB gtB rkB keyN
  rcases Nat.lt_or_ge 9218868437227405312 (mag x) with hx | hx
  · rw [show FloatKind.f64.format.order x y = none from order_nan_l hx, nan_yes hx, if_pos hx]
    rw [if_neg (show ¬ ((none : Option Ordering) == some .lt) = true by decide), if_neg (show ¬ ((none : Option Ordering) == some .gt) = true by decide), if_pos rfl]
    rcases Nat.lt_or_ge 9218868437227405312 (mag y) with hy | hy
    · rw [nan_yes hy, if_pos hy, if_pos rfl, if_neg (by omega), if_neg (by omega)]
      rfl
    · rw [nan_no hy, if_neg (by omega : ¬ 9218868437227405312 < mag y), if_neg (by decide), if_neg (by omega), if_pos (by omega)]
      rfl
  · rw [if_neg (by omega : ¬ 9218868437227405312 < mag x), nan_no hx]
    rcases Nat.lt_or_ge 9218868437227405312 (mag y) with hy | hy
    · rw [show FloatKind.f64.format.order x y = none from order_nan_r hy, nan_yes hy, if_pos hy]
      rw [if_neg (show ¬ ((none : Option Ordering) == some .lt) = true by decide), if_neg (show ¬ ((none : Option Ordering) == some .gt) = true by decide), if_neg (by decide), if_pos rfl, if_pos (by omega)]
      rfl
    · rw [if_neg (by omega : ¬ 9218868437227405312 < mag y), nan_no hy, show FloatKind.f64.format.order x y = some (compare (keyZ x) (keyZ y)) from order_key hx hy]
      rcases Int.lt_trichotomy (keyZ x) (keyZ y) with h | h | h
      · rw [Int.compare_eq_lt.2 h, if_pos (by decide), if_pos h]
      · rw [Int.compare_eq_eq.2 h, if_neg (by decide), if_neg (by decide), if_neg (by decide), if_neg (by omega), if_neg (by omega)]
        rfl
      · rw [Int.compare_eq_gt.2 h, if_neg (by decide), if_pos (by decide), if_neg (by omega), if_pos h]
theorem cb_step (a b : UInt8) (l m : List UInt8) : (a.toNat < b.toNat → Lib.compareBytes (a :: l) (b :: m) = -1) ∧ (b.toNat < a.toNat → Lib.compareBytes (a :: l) (b :: m) = 1) ∧ (a.toNat = b.toNat → Lib.compareBytes (a :: l) (b :: m) = Lib.compareBytes l m) := by
  have e2 : Lib.compareBytes (a :: l) (b :: m) = if a < b then -1 else if b < a then 1 else Lib.compareBytes l m := rfl
  have l1 := UInt8.lt_iff_toNat_lt (a := a) (b := b)
  have l2 := UInt8.lt_iff_toNat_lt (a := b) (b := a)
  rw [e2]
  refine ⟨fun h => if_pos (l1.2 h), fun h => ?_, fun h => ?_⟩
  · rw [if_neg (fun k => by have := l1.1 k; omega), if_pos (l2.2 h)]
  · rw [if_neg (fun k => by have := l1.1 k; omega), if_neg (fun k => by have := l2.1 k; omega)]
theorem cb_swap : ∀ l m : List UInt8, Lib.compareBytes m l = -Lib.compareBytes l m
  | [], [] => rfl
  | [], _ :: _ => rfl
  | _ :: _, [] => rfl
  | a :: l, b :: m => by
    have h1 := cb_step a b l m
    have h2 := cb_step b a m l
    have h3 := cb_swap l m
    omega
theorem cb_trans : ∀ l m n : List UInt8, Lib.compareBytes l m ≤ 0 → Lib.compareBytes m n ≤ 0 → Lib.compareBytes l n ≤ 0 ∧ ((Lib.compareBytes l m = 0 ∧ Lib.compareBytes m n = 0) ↔ Lib.compareBytes l n = 0)
  | [], [], [] => fun _ _ => by decide
  | [], [], _ :: _ => fun _ _ => ⟨by show (-1 : Int) ≤ 0; decide, ⟨fun h => absurd h.2 (by show ¬ (-1 : Int) = 0; decide), fun h => absurd h (by show ¬ (-1 : Int) = 0; decide)⟩⟩
  | [], _ :: _, [] => fun _ h => absurd h (by show ¬ (1 : Int) ≤ 0; decide)
  | [], _ :: _, _ :: _ => fun _ _ => ⟨by show (-1 : Int) ≤ 0; decide, ⟨fun h => absurd h.1 (by show ¬ (-1 : Int) = 0; decide), fun h => absurd h (by show ¬ (-1 : Int) = 0; decide)⟩⟩
  | _ :: _, [], _ => fun h _ => absurd h (by show ¬ (1 : Int) ≤ 0; decide)
  | _ :: _, _ :: _, [] => fun _ h => absurd h (by show ¬ (1 : Int) ≤ 0; decide)
  | a :: l, b :: m, c :: n => by
    have h1 := cb_step a b l m
    have h2 := cb_step b c m n
    have h3 := cb_step a c l n
    have ih := cb_trans l m n
    intro k1 k2
    rcases Nat.lt_trichotomy a.toNat b.toNat with q1 | q1 | q1 <;> rcases Nat.lt_trichotomy b.toNat c.toNat with q2 | q2 | q2
    · have := h1.1 q1; have := h2.1 q2; have := h3.1 (by omega); omega
    · have := h1.1 q1; have := h3.1 (by omega); omega
    · have := h2.2.1 q2; omega
    · have := h2.1 q2; have := h3.1 (by omega); omega
    · rw [h1.2.2 q1] at k1 ⊢
      rw [h2.2.2 q2] at k2 ⊢
      rw [h3.2.2 (by omega)]
      exact ih k1 k2
    · have := h2.2.1 q2; omega
    · have := h1.2.1 q1; omega
    · have := h1.2.1 q1; omega
    · have := h1.2.1 q1; omega
end Go.Proofs.YtnbagigbaceonaaGreatDoor

namespace Go.Proofs.YtnbagigbaceonaaGreatDoor
open Go.RowKit Go.Lib

/-- A comparison that is one. -/
structure CmpW (cv : Nat → Nat → Int) : Prop where
  bd : ∀ a b, -10 ≤ cv a b ∧ cv a b ≤ 10
  sw : ∀ a b, cv b a = -cv a b
  tr : ∀ a b c, cv a b ≤ 0 → cv b c ≤ 0 → cv a c ≤ 0 ∧ (cv a c = 0 → cv a b = 0 ∧ cv b c = 0)
  eq : ∀ a b c, cv a b = 0 → cv b c = 0 → cv a c = 0
theorem CmpW.ord {cv : Nat → Nat → Int} {way : Int} (h : CmpW cv) (hw : way = 1 ∨ way = -1) : Ord (ltV cv way) :=
  ord_of hw (fun a b => by have := h.bd a b; omega) h.sw h.tr h.eq
theorem CmpW.zero : CmpW (fun _ _ => 0) := ⟨fun _ _ => by omega, fun _ _ => rfl, fun _ _ _ _ _ => ⟨Int.le_refl 0, fun _ => ⟨rfl, rfl⟩⟩, fun _ _ _ _ _ => rfl⟩
theorem CmpW.nums (k : Nat → Int) (hk : ∀ a, 0 ≤ k a ∧ k a ≤ 2) : CmpW (fun a b => k a - k b) :=
  ⟨fun a b => by have := hk a; have := hk b; omega, fun _ _ => by omega, fun _ _ _ _ _ => ⟨by omega, fun _ => by omega⟩, fun _ _ _ _ _ => by omega⟩
theorem CmpW.floats (k : Nat → Nat) : CmpW (fun a b => cmpN (k a) (k b)) := by
  refine ⟨fun a b => ?_, fun a b => ?_, fun a b c => ?_, fun a b c => ?_⟩
  all_goals
    simp only [cmpN_key]
  · split
    · omega
    · split <;> omega
  · rcases Int.lt_trichotomy (keyN (k a)) (keyN (k b)) with h | h | h
    · rw [if_neg (by omega), if_pos h, if_pos h]; rfl
    · rw [if_neg (by omega), if_neg (by omega), if_neg (by omega), if_neg (by omega)]; rfl
    · rw [if_pos h, if_neg (by omega), if_pos h]
  · generalize keyN (k a) = x
    generalize keyN (k b) = y
    generalize keyN (k c) = z
    intro h1 h2
    have q1 : x ≤ y := by
      rcases Int.lt_or_le y x with h | h
      · rw [if_neg (by omega), if_pos h] at h1; omega
      · exact h
    have q2 : y ≤ z := by
      rcases Int.lt_or_le z y with h | h
      · rw [if_neg (by omega), if_pos h] at h2; omega
      · exact h
    rcases Int.lt_or_le x z with h | h
    · rw [if_pos h]; exact ⟨by omega, fun e => by omega⟩
    · have e1 : x = y := by omega
      have e2 : y = z := by omega
      subst e1
      subst e2
      rw [if_neg (by omega), if_neg (by omega)]
      exact ⟨Int.le_refl 0, fun _ => ⟨rfl, rfl⟩⟩
  · generalize keyN (k a) = x
    generalize keyN (k b) = y
    generalize keyN (k c) = z
    intro h1 h2
    have q1 : x = y := by
      rcases Int.lt_trichotomy x y with h | h | h
      · rw [if_pos h] at h1; omega
      · exact h
      · rw [if_neg (by omega), if_pos h] at h1; omega
    have q2 : y = z := by
      rcases Int.lt_trichotomy y z with h | h | h
      · rw [if_pos h] at h2; omega
      · exact h
      · rw [if_neg (by omega), if_pos h] at h2; omega
    subst q1
    subst q2
    rw [if_neg (by omega), if_neg (by omega)]
theorem CmpW.bytes (k : Nat → List UInt8) : CmpW (fun a b => Lib.compareBytes (k a) (k b)) := by
  refine ⟨fun a b => ?_, fun a b => cb_swap _ _, fun a b c h1 h2 => ?_, fun a b c h1 h2 => ?_⟩
  · rcases (cmp_facts (k a) (k b)).2.2 with h | h | h <;> omega
  · have := cb_trans (k a) (k b) (k c) h1 h2
    exact ⟨this.1, this.2.2⟩
  · have := cb_trans (k a) (k b) (k c) (by omega) (by omega)
    exact this.2.1 ⟨h1, h2⟩
end Go.Proofs.YtnbagigbaceonaaGreatDoor

namespace Go.Proofs.YtnbagigbaceonaaGreatDoor
open Go.RowKit Go.ChangeShapes Go.WideShapes

theorem cells_str : Tryz.prog.cellsOf 9 = 1 := by kernel_rfl
/-- Its strings lie there. -/
def RdS (W : World) (A : Option Addr) (ss : List ByteArray) : Prop := ∀ j (_ : j < ss.length), ∃ b off, A = some ⟨b, off, none⟩ ∧ W.cell? ⟨b, off + j, none⟩ = some (.string ss[j])
theorem RdS.below {W W' : World} {A : Option Addr} {ss : List ByteArray} (h : RdS W A ss) (hb : Below W.heap.size W W') : RdS W' A ss := fun j hj => by
  obtain ⟨b, off, e, hc⟩ := h j hj
  exact ⟨b, off, e, (hb.cell (World.block_lt_of_cell? W _ hc)).trans hc⟩
theorem mem_weightsAll {H : Type} {P : Program} {e : TypeId} {d : DataW H} {x : Nat} : ∀ {l : List (DataW H)}, d ∈ l → x ∈ DataW.weights P e d → x ∈ DataW.weightsAll P e l := by
  intro l
  induction l with
  | nil => intro h; cases h
  | cons d0 l ih =>
    intro h hx
    unfold DataW.weightsAll
    rcases List.mem_cons.1 h with rfl | h
    · exact List.mem_append_left _ hx
    · exact List.mem_append_right _ (ih h hx)
set_option maxRecDepth 100000 in
theorem open_strsA {H : Type} {enc : TypeId × Value → H} {W : World} {v : Value} {d : DataW H} {p : List MemPlace} {base : Nat} (hv : Value.okWide Tryz.prog W .any base 22 v) (h : DataW.Trod enc Tryz.prog W 0 (fun _ => true) true 22 v d p) :
    ∃ (A : Option Addr) (cap : Nat) (ss : List ByteArray), v = .slice A ss.length cap ∧ ss.length ≤ cap ∧ cap ≤ maxLen ∧ (A = none → cap = 0) ∧ (∀ s ∈ ss, s.size ≤ maxLen) ∧ RdS W A ss ∧ (∀ W', Below W.heap.size W W' → DataW.Trod enc Tryz.prog W' 0 (fun b => decide (b < W.heap.size)) true 22 (.slice A ss.length cap) d p) ∧ ((∀ z ∈ DataW.weights Tryz.prog 22 d, z ≤ 140737488351232) → ∀ s ∈ ss, s.size ≤ 140737488351232) := by
  obtain ⟨a0, len, cap, rfl⟩ := okWide_slice Tryz.underlying22 hv
  obtain ⟨fuel, hf⟩ := h
  rcases Go.Deep.open_strs Tryz.underlying22 Tryz.underlying9 cells_str hf with ⟨hcs, hx⟩ | ⟨a, len', cap', m, Sx, hcs, _, hl, hm, hmm, hx, hcell⟩
  · simp [Value.cells] at hcs
    obtain ⟨rfl, rfl, rfl⟩ := hcs
    simp only [Prod.mk.injEq] at hx
    obtain ⟨rfl, rfl⟩ := hx
    exact ⟨none, 0, [], rfl, Nat.le_refl _, Nat.zero_le _, fun _ => rfl, fun s hs => (by cases hs), fun j hj => absurd hj (Nat.not_lt_zero _), fun W' _ => shut_slice_nil Tryz.underlying22, fun _ s hs => (by cases hs)⟩
  · simp [Value.cells] at hcs
    obtain ⟨rfl, rfl, rfl⟩ := hcs
    simp only [if_true] at hmm
    subst hmm
    simp only [Prod.mk.injEq] at hx
    obtain ⟨rfl, rfl⟩ := hx
    have hlen : ((List.range len).map Sx).length = len := by rw [List.length_map, List.length_range]
    refine ⟨some a, m, (List.range len).map Sx, by rw [hlen], by rw [hlen]; exact hl, hm, (fun e => by cases e), ?_, ?_, fun W' hB => ?_, fun hz s hs => ?_⟩
    · intro s hs
      obtain ⟨i, hi, rfl⟩ := List.mem_map.1 hs
      exact (hcell i (by have := List.mem_range.1 hi; omega)).2
    · intro j hj
      rw [hlen] at hj
      obtain ⟨b, off, spot⟩ := a
      have h0 := (hcell j (by omega)).1
      have hspot : spot = none := by simpa [Addr.add] using World.cell?_spot (hcell 0 (by omega)).1
      subst hspot
      refine ⟨b, off, rfl, ?_⟩
      rw [← Go.WideShapes.add_plain, h0]
      simp
    · rw [hlen]
      have one : ∀ i, i < m → ∃ cs n, W'.cells? 0 (a.add (i * Tryz.prog.cellsOf 9)) (Tryz.prog.cellsOf 9) = some cs ∧ DataW.trod enc Tryz.prog W' 0 (fun b => decide (b < W.heap.size)) true n 9 cs = some ((.lit (.string (Sx i).data.toList)), []) := fun i hi => by
        obtain ⟨n, hn⟩ := Go.Deep.shut_string_cell (enc := enc) (P := Tryz.prog) (w := W') (base := 0) (spare := fun b => decide (b < W.heap.size)) (held := true) Tryz.underlying9 (hcell i hi).2
        refine ⟨[.string (Sx i)], n, ?_, hn⟩
        rw [cells_str, Nat.mul_one]
        refine cells?_one (Nat.zero_le _) ?_
        exact (hB.cell (World.block_lt_of_cell? W _ (hcell i hi).1)).trans (hcell i hi).1
      cases hsp : decide (a.block < W.heap.size) with
      | true =>
        have := Go.Deep.shut_slice_whole_cells (enc := enc) (P := Tryz.prog) (w := W') (base := 0) (spare := fun b => decide (b < W.heap.size)) (held := true) (a := a) (t := 22) Tryz.underlying22 (Nat.zero_le _) hl hm hsp (fun i => .lit (.string (Sx i).data.toList)) (fun _ => []) one
        rw [cells_str, Nat.mul_one, Go.Deep.flatMap_nils, List.append_nil] at this
        exact this
      | false =>
        have hc0 : m = 0 := by
          rcases Nat.eq_zero_or_pos m with h0 | h0
          · exact h0
          · have := World.block_lt_of_cell? W _ (hcell 0 h0).1
            have e : (a.add 0).block = a.block := rfl
            rw [e] at this
            rw [decide_eq_true this] at hsp
            cases hsp
        subst hc0
        obtain rfl : len = 0 := by omega
        have := Go.Deep.shut_slice_cells (enc := enc) (P := Tryz.prog) (w := W') (base := 0) (spare := fun b => decide (b < W.heap.size)) (held := true) (a := a) (len := 0) (cap := 0) (t := 22) Tryz.underlying22 (Nat.zero_le _) hl hm hsp (fun i => .lit (.string (Sx i).data.toList)) (fun _ => []) (fun i hi => absurd hi (Nat.not_lt_zero _))
        rw [Nat.zero_mul, Go.Deep.flatMap_nils, List.append_nil] at this
        exact this
    · obtain ⟨i, hi, rfl⟩ := List.mem_map.1 hs
      have e : (Sx i).size = (Sx i).data.toList.length := by rw [Array.length_toList]; rfl
      rw [e]
      apply hz
      unfold DataW.weights
      rw [Tryz.underlying22]
      refine List.mem_cons_of_mem _ (List.mem_append_left _ ?_)
      exact mem_weightsAll (List.mem_map.2 ⟨i, hi, rfl⟩) (by unfold DataW.weights; exact List.mem_singleton.2 rfl)
end Go.Proofs.YtnbagigbaceonaaGreatDoor

namespace Go.Proofs.YtnbagigbaceonaaGreatDoor
open Go.RowKit Go.Lib

theorem info_entry : (Tryz.prog.info? 46).map (fun i => (i.zero, i.size, i.bytes)) = some (some (.agg #[.string ⟨#[]⟩, .int .i64 0, .float .f64 0, .string ⟨#[]⟩, .bool false]), 5, 56) := by kernel_rfl
end Go.Proofs.YtnbagigbaceonaaGreatDoor

namespace Go.Proofs.YtnbagigbaceonaaGreatDoor
open Go.Lib

/-- The character at byte i of s: its code and how many bytes it has. -/
def chN (n b0 b1 b2 b3 : Nat) : Nat × Nat := if decodeN n b0 b1 b2 b3 = (65533, 1) then (1114112 + b0, 1) else decodeN n b0 b1 b2 b3
def chS (s : ByteArray) (i : Nat) : Nat × Nat := chN (s.size - i) (s.get! i).toNat (s.get! (i + 1)).toNat (s.get! (i + 2)).toNat (s.get! (i + 3)).toNat

/-- What Next answers. -/
def nextZ (s : ByteArray) (i : Int) (b : Bool) : Nat × Nat :=
  if i < 0 ∨ (s.size : Int) ≤ i then (0, 0) else if b then ((s.get! i.toNat).toNat, 1) else chS s i.toNat


theorem get!_lt (s : ByteArray) (i : Nat) (h : i < s.size) : s[i] = s.get! i := (Utf8W.get!_of_lt s i h).symm

theorem get!_lt256 (s : ByteArray) (i : Nat) : (s.get! i).toNat < 256 := by
  have := UInt8.toNat_lt (s.get! i)
  omega
/-! What 'size' reckons is what the library decodes. -/
end Go.Proofs.YtnbagigbaceonaaGreatDoor

namespace Go.Proofs.YtnbagigbaceonaaGreatDoor
open Go.Lib

/-- How many bytes the character at a place has (0 past the end). -/
def wid (s : ByteArray) (b : Bool) (i : Nat) : Nat := (nextZ s (i : Int) b).2
/-- The place of the k-th character (from 0 on), or the length. -/
def pl (s : ByteArray) (b : Bool) : Nat → Nat
  | 0 => 0
  | k + 1 => pl s b k + wid s b (pl s b k)

/-- How many characters. -/
def cnt (s : ByteArray) (b : Bool) : Nat := (List.range s.size).countP fun k => decide (pl s b k < s.size)
end Go.Proofs.YtnbagigbaceonaaGreatDoor

namespace Go.Proofs.YtnbagigbaceonaaGreatDoor
open Go.RowKit Go.Lib Go.Shelf
attribute [local go_sem] Oper.semAt_some

/-- A cell that is there lies in a block below the heap's size. -/
theorem lt_of_cell {W : World} {c o : Nat} {v : Value} (h : W.cell? ⟨c, o, none⟩ = some v) : c < W.heap.size := by
  by_cases hc : c < W.heap.size
  · exact hc
  · simp [World.cell?, Array.getElem?_eq_none (Nat.le_of_not_lt hc)] at h
end Go.Proofs.YtnbagigbaceonaaGreatDoor

namespace Go.Proofs.YtnbagigbaceonaaGreatDoor
open Go.RowKit Go.Lib Go.Shelf
attribute [local go_sem] Oper.semAt_some

theorem Boxed.below {W W' : World} {B n : Nat} {t : TypeId} {v : Value} (h : Boxed W B t v) (hb : Below n W W') (hn : B < n) : Boxed W' B t v := (hb.block B hn).trans h

end Go.Proofs.YtnbagigbaceonaaGreatDoor

namespace Go.Proofs.YtnbagigbaceonaaGreatDoor
open Go.RowKit Go.Lib

def d00 : Dat := ⟨⟨#[]⟩, 0, 0, ⟨#[]⟩, false⟩
end Go.Proofs.YtnbagigbaceonaaGreatDoor

namespace Go.Proofs.YtnbagigbaceonaaGreatDoor
open Go.RowKit Go.Lib

theorem ltV_is {cv : Nat → Nat → Int} {way : Int} (h : CmpW cv) (hw : way = 1 ∨ way = -1) (a b : Nat) : ltV cv way a b = if cv a b = 0 then decide (a < b) else decide (cv a b * way < 0) := by
  have hb := h.bd a b
  unfold ltV lessB
  have e : IntKind.i64.wrap (cv a b * way) = cv a b * way := by
    exact IntWalk.i64_in _ (by rcases hw with rfl | rfl <;> omega)
  rw [e]
  by_cases h0 : cv a b = 0
  · rw [if_pos h0, h0, Int.zero_mul, if_pos rfl]
    simp
  · rw [if_neg h0, if_neg (by rcases hw with rfl | rfl <;> omega)]
end Go.Proofs.YtnbagigbaceonaaGreatDoor

namespace Go.Proofs.YtnbagigbaceonaaGreatDoor
open Go.RowKit Go.Lib

theorem info_str : (Tryz.prog.info? 9).map (fun i => (i.zero, i.size, i.bytes)) = some (some (.string ⟨#[]⟩), 1, 16) := by kernel_rfl
end Go.Proofs.YtnbagigbaceonaaGreatDoor

namespace Go.Proofs.YtnbagigbaceonaaGreatDoor
open Go.RowKit Go.Lib

theorem insNil_any (A : Option Addr) (cap : Nat) (g : Value) (W : World) : Calls Tryz.prog 62 #[.slice A 0 cap, .int .i64 0, .int .i64 0, g] W fun e w' => (∃ r, e = .returned r) ∧ W = w' := by
  go_enter Tryz.func62, Tryz.ntmps62
  go_wp2_with fail
  go_loopw [8] (fun v wr => v = .int .i64 1 ∧ wr = W) (fun _ _ => 0)
  case atStart => exact ⟨rfl, rfl⟩
  case round =>
    obtain ⟨rfl, rfl⟩ := hrel
    go_wp2_with fail
    go_end0
    exact ⟨⟨_, rfl⟩, rfl⟩
set_option maxRecDepth 100000 in
theorem pdqNil_any (A : Option Addr) (cap : Nat) (k : Int) (g : Value) (W : World) : Calls Tryz.prog 52 #[.slice A 0 cap, .int .i64 0, .int .i64 0, .int .i64 k, g] W fun e w' => (∃ r, e = .returned r) ∧ W = w' := by
  have CI := Lib.hid (fun W => insNil_any A cap g W)
  go_enter Tryz.func52, Tryz.ntmps52
  go_wp2_with fail
  go_loopw [1, 2] (fun a b wr => a = .int .i64 0 ∧ b = .int .i64 0 ∧ wr = W) (fun _ _ _ => 0)
  case atStart => exact ⟨rfl, rfl, rfl⟩
  case round =>
    obtain ⟨rfl, rfl, rfl⟩ := hrel
    go_wp2_with fail
    refine (CI.out _).mono ?_
    rintro e w' ⟨⟨r, rfl⟩, rfl⟩
    go_wp2_with fail
    exact bodyPost_ret (results_none rfl _ _ _) rfl ⟨⟨_, rfl⟩, rfl⟩
set_option maxRecDepth 100000 in
theorem sortNil_any (A : Option Addr) (cap : Nat) (g : Value) (W : World) : Calls Tryz.prog 38 #[.slice A 0 cap, g] W fun e w' => (∃ r, e = .returned r) ∧ W = w' := by
  have CP := Lib.hid (fun k W => pdqNil_any A cap k g W)
  have CL := Lib.hid (Tryz.bits_Len 0 W (by omega) (by omega))
  go_enter Tryz.func38, Tryz.ntmps38
  go_wp2_with fail
  refine CL.out.mono ?_
  rintro e w' ⟨rfl, rfl⟩
  obtain ⟨z, hz⟩ : ∃ z : Nat, Lib.bitLen (Int.toNat 0) = z := ⟨_, rfl⟩
  rw [hz]
  clear hz
  go_wp2_with fail
  refine (CP.out _ _).mono ?_
  rintro e w2 ⟨⟨r, rfl⟩, rfl⟩
  go_wp2_with fail
  go_end0
  exact ⟨⟨_, rfl⟩, rfl⟩
end Go.Proofs.YtnbagigbaceonaaGreatDoor

namespace Go.Proofs.YtnbagigbaceonaaGreatDoor
open Go.RowKit Go.Lib Go.Maps

theorem valuesM_any (m : Nat) (W : World) : Calls Tryz.prog 29 #[.map (some m)] W fun e w' => e = .returned (.func (.func 39) #[] #[.pointer (some ⟨W.heap.size, 0, none⟩)]) ∧ W.alloc (.cells #[.map (some m)] 51) = w' := by
  go_enter Tryz.func29, Tryz.ntmps29
  go_wp2_with fail
  go_ret
  exact ⟨rfl, rfl⟩
/-- The elements of an array, in the order of their numbers, in a row of their own. -/
def PtrRow (w : World) (n : Nat) (A : Option Addr) (ys : List Nat) : Prop := ∀ j e, ys[j]? = some e → ∃ g, A = some ⟨g, 0, none⟩ ∧ n ≤ g ∧ w.cell? ⟨g, j, none⟩ = some (ptrB e)
set_option maxRecDepth 100000 in
set_option maxHeartbeats 1000000 in
theorem sortedE_any (B m nn : Nat) (E : List (Lit × Nat)) (num : Nat → Int) (w : World) (h1 : w.cell? ⟨B, 0, none⟩ = some (.map (some m))) (hown : w.ownsMap Tryz.prog 9 asR m nn (.map (esOf E))) (hE : E.length ≤ 1000000) (hN : ∀ p ∈ E, w.cell? ⟨p.2, 1, none⟩ = some (.int .i64 (num p.2))) :
    Calls Tryz.prog 28 #[.func (.func 39) #[] #[.pointer (some ⟨B, 0, none⟩)], .func (.func 30) #[] #[]] w fun e w' => ∃ A cap ys, e = .returned (.slice A ys.length cap) ∧ ys.Perm (E.map (·.2)) ∧ ys.Pairwise (fun a b => num a ≤ num b) ∧ PtrRow w' w.heap.size A ys ∧ Below w.heap.size w w' := by
  have CC := Lib.hid (collectE_any B m nn E w h1 hown hE)
  have HN := Lib.hid hN
  clear h1 hown hN
  go_enter Tryz.func28, Tryz.ntmps28
  go_wp2_with fail
  refine CC.out.mono ?_
  rintro e w2 ⟨v, xs, rfl, hP, ⟨ho, _⟩, hb⟩
  obtain ⟨A, cap, rfl⟩ := as_own_slice ho
  have HB := Lib.hid hb
  have HP := Lib.hid hP
  clear CC
  by_cases hx : xs = []
  · subst hx
    have CS := Lib.hid (fun g W => sortNil_any A cap g W)
    clear ho hb hP
    go_wp2_with fail
    refine (CS.out _ _).mono ?_
    rintro e w3 ⟨⟨r, rfl⟩, rfl⟩
    go_wp2_with fail
    go_ret
    exact ⟨A, cap, [], rfl, HP.out, List.Pairwise.nil, fun j e h => by simp at h, HB.out⟩
  · rcases ho.2 with ⟨_, h0⟩ | ⟨g, cap', cur, e, hg, hr, hz⟩
    · exact absurd (List.eq_nil_of_length_eq_zero h0) hx
    · injection e with e1 e2 e3
      subst e1 e3
      have hgs := (Array.getElem?_eq_some_iff.1 hr).1
      have hc : ∀ j e, xs[j]? = some e → w2.cell? ⟨g, j, none⟩ = some (ptrB e) ∧ w2.frozen? ⟨g, j, none⟩ = false := fun j e hj => by
        have := ho.cells rfl j (ptrB e) (by unfold asPtrs; rw [List.getElem?_map, hj]; rfl)
        rw [Addr.add_lit, Nat.zero_add] at this
        exact ⟨this, frozen_of_row w2 _ j _ _ hr⟩
      have hel : ∀ e ∈ xs, w2.cell? ⟨e, 1, none⟩ = some (.int .i64 (num e)) ∧ e < w2.heap.size ∧ e ≠ g := fun e he => by
        obtain ⟨p, hp, rfl⟩ := List.mem_map.1 (hP.mem_iff.1 he)
        have h2 := HN.out p hp
        have h3 : p.2 < w.heap.size := World.block_lt_of_cell? w _ h2
        exact ⟨(hb.cell (p := ⟨p.2, 1, none⟩) h3).trans h2, by have := hb.size; omega, by omega⟩
      have hxl : xs.length ≤ 1000000 := by have := hP.length_eq; rw [List.length_map] at this; omega
      have CS := Lib.hid (sortE_any (cap := cap) hc hx hel hgs hxl)
      have HG := Lib.hid hg
      clear ho hb hP hr hz hc hel hgs
      go_wp2_with fail
      refine CS.out.mono ?_
      rintro e w3 ⟨rfl, ys, p1, p2, p3, off⟩
      have hyl := p1.length_eq
      rw [← hyl]
      have HF := Lib.hid (And.intro (p1.trans HP.out) (And.intro p2 (And.intro (show PtrRow w3 w.heap.size (some ⟨g, 0, none⟩) ys from fun j e hj => ⟨g, rfl, HG.out, (p3 j e hj).1⟩) (HB.out.trans (off.below HG.out HG.out HB.out.size)))))
      clear CS p1 p2 p3 off hyl
      go_wp2_with fail
      go_ret
      exact ⟨_, cap, ys, rfl, HF.out.1, HF.out.2.1, HF.out.2.2.1, HF.out.2.2.2⟩
end Go.Proofs.YtnbagigbaceonaaGreatDoor

namespace Go.Proofs.YtnbagigbaceonaaGreatDoor
open Go.RowKit Go.Lib Go.Maps

/-- What the elements hold. -/
structure Tab where
  key : Nat → ByteArray
  num : Nat → Int
  kd : Nat → Int
  flt : Nat → Nat
  str : Nat → ByteArray
def entV (T : Tab) (e : Nat) : List Value := [.string (T.key e), .int .i64 (T.kd e), .float .f64 (T.flt e), .string (T.str e), .bool false]
/-- So far the row is filled. -/
def Filled (T : Tab) (cur : Array Value) (ys : List Nat) (k : Nat) : Prop := cur.size = ys.length * 5 ∧ ∀ j e, j < k → ys[j]? = some e → ∀ i, i < 5 → cur[j * 5 + i]? = (entV T e)[i]?
theorem set5_at (cur : Array Value) (o : Nat) (a0 a1 a2 a3 a4 : Value) (h : o + 5 ≤ cur.size) : ∀ i, i < 5 → (((((cur.setIfInBounds o a0).setIfInBounds (o + 1) a1).setIfInBounds (o + 2) a2).setIfInBounds (o + 3) a3).setIfInBounds (o + 4) a4)[o + i]? = [a0, a1, a2, a3, a4][i]? := fun i hi => by
  have : i = 0 ∨ i = 1 ∨ i = 2 ∨ i = 3 ∨ i = 4 := by omega
  have b0 : o < cur.size := by omega
  have b1 : o + 1 < cur.size := by omega
  have b2 : o + 2 < cur.size := by omega
  have b3 : o + 3 < cur.size := by omega
  have b4 : o + 4 < cur.size := by omega
  rcases this with rfl | rfl | rfl | rfl | rfl <;> simp [*]
theorem set5_out (cur : Array Value) (o : Nat) (a0 a1 a2 a3 a4 : Value) (i : Nat) (h : i < o) : (((((cur.setIfInBounds o a0).setIfInBounds (o + 1) a1).setIfInBounds (o + 2) a2).setIfInBounds (o + 3) a3).setIfInBounds (o + 4) a4)[i]? = cur[i]? := by
  rw [Array.getElem?_setIfInBounds_ne (by omega), Array.getElem?_setIfInBounds_ne (by omega), Array.getElem?_setIfInBounds_ne (by omega), Array.getElem?_setIfInBounds_ne (by omega), Array.getElem?_setIfInBounds_ne (by omega)]
theorem Filled.step {T : Tab} {cur : Array Value} {ys : List Nat} {k e : Nat} (h : Filled T cur ys k) (hk : ys[k]? = some e) :
    Filled T (((((cur.setIfInBounds (k * 5) (.string (T.key e))).setIfInBounds (k * 5 + 1) (.int .i64 (T.kd e))).setIfInBounds (k * 5 + 2) (.float .f64 (T.flt e))).setIfInBounds (k * 5 + 3) (.string (T.str e))).setIfInBounds (k * 5 + 4) (.bool false)) ys (k + 1) := by
  have hlt : k < ys.length := (List.getElem?_eq_some_iff.1 hk).1
  refine ⟨by simp [h.1], fun j e' hj he i hi => ?_⟩
  by_cases hjk : j = k
  · subst hjk
    rw [hk] at he
    obtain rfl := Option.some.inj he
    exact set5_at cur (j * 5) _ _ _ _ _ (by rw [h.1]; omega) i hi
  · rw [set5_out cur (k * 5) _ _ _ _ _ (j * 5 + i) (by omega)]
    exact h.2 j e' (by omega) he i hi
set_option maxRecDepth 100000 in
set_option maxHeartbeats 4000000 in
theorem entriesE_any {W : World} {a m nn : Nat} {came : Int} {E : List (Lit × Nat)} (T : Tab) (h : Arr W a m nn came (.map (esOf E))) (hE : E.length ≤ 100000)
    (hEl : ∀ p ∈ E, Elt W p.2 (T.key p.2) (T.num p.2) (T.kd p.2) (T.flt p.2) (T.str p.2) nilP ∧ (T.key p.2).size ≤ 281474976710656 ∧ (T.str p.2).size ≤ 281474976710656) :
    Calls Tryz.prog 24 #[ptrB a] W fun e w' => ∃ (g : Nat) (ys : List Nat) (cur : Array Value), e = .returned (.slice (some ⟨g, 0, none⟩) ys.length ys.length) ∧ ys.Perm (E.map (·.2)) ∧ ys.Pairwise (fun x y => T.num x ≤ T.num y) ∧ W.heap.size ≤ g ∧ Blk w' g cur 46 ∧ Filled T cur ys ys.length ∧ Below W.heap.size W w' := by
  have CH := Lib.hid (held_any h)
  have CV := Lib.hid (valuesM_any m W)
  have x0 := Boxed.new W 51 (.map (some m))
  have hb0 := (Below.refl W.heap.size W).alloc (Nat.le_refl _) (.cells #[.map (some m)] 51)
  have hown0 : (W.alloc (.cells #[.map (some m)] 51)).ownsMap Tryz.prog 9 asR m nn (.map (esOf E)) := by
    have hlt := h.own.lt
    obtain ⟨es, clock, hb, Ft, hs, hD⟩ := h.own
    exact ⟨es, clock, (hb0.block m hlt).trans hb, Ft, hs, hD⟩
  have CS := Lib.hid (sortedE_any W.heap.size m nn E T.num _ x0.cell hown0 (by omega) (fun p hp => ((hEl p hp).1.alloc _).cell 1))
  have HEL := Lib.hid hEl
  have HB0 := Lib.hid hb0
  have hs0 := hb0.size
  obtain ⟨i0, hi, hz0, hz1, hz2⟩ := info_parts info_entry
  have hmk : ∀ (n : Nat) (W : World), n ≤ 100000 → (Instr.makeSlice 60 (.int .i64 (n : Int)) (.int .i64 (n : Int))).run Tryz.prog W = .ok (.slice (some ⟨W.heap.size, 0, none⟩) n n) (W.alloc (.cells (madeCells (Value.agg #[.string ⟨#[]⟩, .int .i64 0, .float .f64 0, .string ⟨#[]⟩, .bool false]).cells (n * 5)) 46)) := fun n W hn => by
    have := run_make (P := Tryz.prog) W 60 46 i0 _ Tryz.underlying60 hi hz0 .i64 .i64 (n : Int) (n : Int) (by omega) (by omega) (by rw [hz2]; omega) (by omega)
    rw [hz1, Int.toNat_natCast] at this
    exact this
  have HMK := Lib.hid hmk
  clear x0 hb0 hi hz0 hz1 hz2 h hEl hown0 hmk
  go_enter Tryz.func24, Tryz.ntmps24
  go_wp2_with fail
  refine CH.out.mono ?_
  rintro e w' ⟨rfl, rfl⟩
  go_wp2_with fail
  refine CV.out.mono ?_
  rintro e w' ⟨rfl, rfl⟩
  go_wp2_with fail
  refine CS.out.mono ?_
  rintro e W2 ⟨A, cap, ys, rfl, hP, hS, hR, hb⟩
  have hyl : ys.length ≤ 100000 := by have := hP.length_eq; rw [List.length_map] at this; omega
  have hb2 := HB0.out.trans (hb.mono hs0)
  have HB2 := Lib.hid hb2
  have HP := Lib.hid (And.intro hP hS)
  have HR := Lib.hid hR
  have hs2 := hb2.size
  obtain ⟨n, hn⟩ : ∃ n, ys.length = n := ⟨_, rfl⟩
  have HN := Lib.hid hn
  rw [hn] at hyl ⊢
  have hmk := HMK.out n W2 hyl
  have F := Blk.new W2 (madeCells (Value.agg #[.string ⟨#[]⟩, .int .i64 0, .float .f64 0, .string ⟨#[]⟩, .bool false]).cells (n * 5)) 46
  have hb3 := hb2.alloc hs2 (.cells (madeCells (Value.agg #[.string ⟨#[]⟩, .int .i64 0, .float .f64 0, .string ⟨#[]⟩, .bool false]).cells (n * 5)) 46)
  have hbx := (Below.refl W2.heap.size W2).alloc (Nat.le_refl _) (.cells (madeCells (Value.agg #[.string ⟨#[]⟩, .int .i64 0, .float .f64 0, .string ⟨#[]⟩, .bool false]).cells (n * 5)) 46)
  have hsz : (madeCells (Value.agg #[.string ⟨#[]⟩, .int .i64 0, .float .f64 0, .string ⟨#[]⟩, .bool false]).cells (n * 5)).size = n * 5 := by simp [madeCells]
  obtain ⟨cur0, hc0⟩ : ∃ c, madeCells (Value.agg #[.string ⟨#[]⟩, .int .i64 0, .float .f64 0, .string ⟨#[]⟩, .bool false]).cells (n * 5) = c := ⟨_, rfl⟩
  rw [hc0] at hmk F hb3 hbx hsz
  obtain ⟨W3, hW3⟩ : ∃ W3, W2.alloc (.cells cur0 46) = W3 := ⟨_, rfl⟩
  rw [hW3] at hmk F hb3 hbx
  have HF := Lib.hid (And.intro F (And.intro hb3 (And.intro hbx hsz)))
  clear hb hb2 hP hS hR F hb3 hbx hsz hc0 CS CV CH HMK HB0 hn hW3
  go_wp2_with fail
  clear hmk
  go_loopw [16] (fun iv wr => ∃ (k : Nat) (cur : Array Value), iv = .int .i64 (k : Int) ∧ k ≤ n ∧ Blk wr W2.heap.size cur 46 ∧ Filled T cur ys k ∧ Below W2.heap.size W2 wr) (fun iv _ => n - (RowKit.intOf iv).toNat)
  case atStart => exact ⟨0, cur0, rfl, Nat.zero_le _, HF.out.1, ⟨by rw [HN.out]; exact HF.out.2.2.2, fun j e hj => absurd hj (by omega)⟩, HF.out.2.2.1⟩
  case round =>
    obtain ⟨k, cur, rfl, hk, hF, hFi, hB⟩ := hrel
    have HBW := Lib.hid (HB2.out.trans (hB.mono hs2))
    by_cases hlt : k < n
    · obtain ⟨e, he⟩ : ∃ e, ys[k]? = some e := ⟨_, List.getElem?_eq_getElem (by rw [HN.out]; exact hlt)⟩
      obtain ⟨g, rfl, hgn, hcell⟩ := HR.out k e he
      have r0 := (hB.cell (p := ⟨g, k, none⟩) (World.block_lt_of_cell? W2 _ hcell)).trans hcell
      obtain ⟨p, hp, hpe⟩ := List.mem_map.1 (HP.out.1.mem_iff.1 (List.mem_of_getElem? he))
      obtain ⟨hElt, hs1, hs2'⟩ := HEL.out p hp
      rw [hpe] at hElt hs1 hs2'
      have hE2 := hElt.below HBW.out hElt.lt
      have hstep := Lib.hid (hFi.step he)
      have hcs := hFi.1
      rw [HN.out] at hcs
      obtain ⟨K, hK⟩ : ∃ K, T.key e = K := ⟨_, rfl⟩
      obtain ⟨KD, hKD⟩ : ∃ K, T.kd e = K := ⟨_, rfl⟩
      obtain ⟨FL, hFL⟩ : ∃ K, T.flt e = K := ⟨_, rfl⟩
      obtain ⟨ST, hST⟩ : ∃ K, T.str e = K := ⟨_, rfl⟩
      rw [hK, hKD, hFL, hST] at hstep
      rw [hK, hKD, hFL, hST] at hE2
      rw [hK] at hs1
      rw [hST] at hs2'
      have C1 := Lib.hid (fun w => asClone_any K w hs1)
      have C2 := Lib.hid (fun w => copied_any KD FL ST w hs2')
      have HE2 := Lib.hid hE2
      have CK := Lib.hid (fun (w : World) (hb : Below wr.heap.size wr w) => show Calls Tryz.prog 21 #[ptrB e] w (fun e w' => e = .returned (.int .i64 1) ∧ w = w') from kind_val (HE2.out.below hb HE2.out.lt))
      have HFB := Lib.hid hF
      obtain ⟨u0, hu0⟩ : ∃ u, cur[k * 5]? = some u := ⟨_, Array.getElem?_eq_getElem (by omega)⟩
      obtain ⟨u1, hu1⟩ : ∃ u, cur[k * 5 + 1]? = some u := ⟨_, Array.getElem?_eq_getElem (by omega)⟩
      obtain ⟨u2, hu2⟩ : ∃ u, cur[k * 5 + 2]? = some u := ⟨_, Array.getElem?_eq_getElem (by omega)⟩
      obtain ⟨u3, hu3⟩ : ∃ u, cur[k * 5 + 3]? = some u := ⟨_, Array.getElem?_eq_getElem (by omega)⟩
      obtain ⟨u4, hu4⟩ : ∃ u, cur[k * 5 + 4]? = some u := ⟨_, Array.getElem?_eq_getElem (by omega)⟩
      have KP := Lib.hid (fun (Y : World) (hb : Below wr.heap.size wr Y) => show Y.cell? ⟨e, 0, none⟩ = some (.string K) ∧ Y.cell? ⟨e, 2, none⟩ = some (.int .i64 KD) ∧ Y.cell? ⟨e, 3, none⟩ = some (.float .f64 FL) ∧ Y.cell? ⟨e, 4, none⟩ = some (.string ST) from by
        obtain ⟨⟨q0, q1, q2, q3, q4, q5⟩, _⟩ := (HE2.out.below hb HE2.out.lt).six
        exact ⟨q0, q2, q3, q4⟩)
      have KR := Lib.hid (fun (Y : World) (hb : Below wr.heap.size wr Y) => show (Y.cell? ⟨W2.heap.size, k * 5, none⟩ = some u0 ∧ Y.cell? ⟨W2.heap.size, k * 5 + 1, none⟩ = some u1 ∧ Y.cell? ⟨W2.heap.size, k * 5 + 2, none⟩ = some u2 ∧ Y.cell? ⟨W2.heap.size, k * 5 + 3, none⟩ = some u3 ∧ Y.cell? ⟨W2.heap.size, k * 5 + 4, none⟩ = some u4) ∧ (Y.frozen? ⟨W2.heap.size, k * 5, none⟩ = false ∧ Y.frozen? ⟨W2.heap.size, k * 5 + 1, none⟩ = false ∧ Y.frozen? ⟨W2.heap.size, k * 5 + 2, none⟩ = false ∧ Y.frozen? ⟨W2.heap.size, k * 5 + 3, none⟩ = false ∧ Y.frozen? ⟨W2.heap.size, k * 5 + 4, none⟩ = false) from by
        have f := HFB.out.below hb HFB.out.lt
        exact ⟨⟨(f.cell _).trans hu0, (f.cell _).trans hu1, (f.cell _).trans hu2, (f.cell _).trans hu3, (f.cell _).trans hu4⟩, f.fro _, f.fro _, f.fro _, f.fro _, f.fro _⟩)
      have hne1 : e ≠ W2.heap.size := by
        have := hElt.lt
        have := HB2.out.size
        omega
      have hne2 : W2.heap.size ≠ e := Ne.symm hne1
      obtain ⟨q0, q2, q3, q4⟩ := KP.out wr (Below.refl _ _)
      have hst := as_store_float
      have hR0 := Below.refl wr.heap.size wr
      have HBr := Lib.hid hB
      obtain ⟨k1, hk1⟩ : ∃ k1, k + 1 = k1 := ⟨_, rfl⟩
      have hw2 : IntKind.i64.wrap ((k : Int) + 1) = (k1 : Int) := by simp [IntKind.wrap, IntKind.bits, IntKind.signed]; omega
      have hbl : (k : Int) < (n : Int) := by omega
      have hbn : ¬ (k : Int) < 0 := by omega
      have hbs := hB.size
      clear he hcell hp hpe hElt hs1 hs2' hE2 hFi hcs hK hKD hFL hST hF hB hu0 hu1 hu2 hu3 hu4 HEL HP HR
      go_wp2_with fail
      go_region_held3 (fun w' => w'.cell? ⟨e, 0, none⟩ = some (.string K) ∧ w'.cell? ⟨e, 2, none⟩ = some (.int .i64 KD) ∧ w'.cell? ⟨e, 3, none⟩ = some (.float .f64 FL) ∧ w'.cell? ⟨e, 4, none⟩ = some (.string ST))
        (first | (with_reducible exact S7) | (with_reducible exact S6) | go_keep)
        (first
        | (go_at_call 27; (with_reducible refine (C1.out _).mono ?_); rintro e6 X6 ⟨rfl, h⟩; have b6 : Below wr.heap.size wr X6 := ⟨h.os, h.tape, h.output, h.size, h.block⟩; have S6 := KP.out _ b6; clear h)
        | (go_at_call 23; (with_reducible refine (C2.out _).mono ?_); rintro e7 X7 ⟨rfl, h⟩; have b7 : Below wr.heap.size wr X7 := b6.trans ((⟨h.os, h.tape, h.output, h.size, h.block⟩ : Below X6.heap.size X6 X7).mono b6.size); have S7 := KP.out _ b7; obtain ⟨⟨z0, z1, z2, z3, z4⟩, y0, y1, y2, y3, y4⟩ := KR.out _ b7; clear h)
        | (go_at_call 21; (with_reducible refine (CK.out _ (by first | exact b7 | exact b7.drew | exact below_drewN b7 _ | exact b6 | exact b6.drew | exact below_drewN b6 _ | exact hR0 | exact hR0.drew | exact below_drewN hR0 _)).mono ?_); rintro e8 X8 ⟨rfl, rfl⟩))
      all_goals
        have F7 := HFB.out.below b7 HFB.out.lt
        have hFN := ((((F7.set (j := k * 5) (u := .string K)).set (j := k * 5 + 1) (u := .int .i64 KD)).set (j := k * 5 + 2) (u := .float .f64 FL)).set (j := k * 5 + 3) (u := .string ST)).set (j := k * 5 + 4) (u := .bool false)
        have hB7 := HBr.out.trans (b7.mono HBr.out.size)
        have hBN := ((((hB7.setCell (p := ⟨W2.heap.size, k * 5, none⟩) (Nat.le_refl _) (.string K)).setCell (p := ⟨W2.heap.size, k * 5 + 1, none⟩) (Nat.le_refl _) (.int .i64 KD)).setCell (p := ⟨W2.heap.size, k * 5 + 2, none⟩) (Nat.le_refl _) (.float .f64 FL)).setCell (p := ⟨W2.heap.size, k * 5 + 3, none⟩) (Nat.le_refl _) (.string ST)).setCell (p := ⟨W2.heap.size, k * 5 + 4, none⟩) (Nat.le_refl _) (.bool false)
        obtain ⟨Z, hZ⟩ : ∃ Z, ((((X7.setCell ⟨W2.heap.size, k * 5, none⟩ (.string K)).setCell ⟨W2.heap.size, k * 5 + 1, none⟩ (.int .i64 KD)).setCell ⟨W2.heap.size, k * 5 + 2, none⟩ (.float .f64 FL)).setCell ⟨W2.heap.size, k * 5 + 3, none⟩ (.string ST)).setCell ⟨W2.heap.size, k * 5 + 4, none⟩ (.bool false) = Z := ⟨_, rfl⟩
        rw [hZ] at hFN hBN ⊢
        have FN := Lib.hid hFN
        have BN := Lib.hid hBN
        have ST2 := Lib.hid (show Filled T _ ys k1 from hk1 ▸ hstep.out)
        clear F7 hFN hB7 hBN hZ b6 b7 S6 S7 z0 z1 z2 z3 z4 y0 y1 y2 y3 y4 q0 q2 q3 q4 r0
        go_wp2_with fail
        refine ⟨⟨k1, _, rfl, by omega, FN.out, ST2.out, BN.out⟩, ?_⟩
        simp [RowKit.intOf]
        omega
    · obtain rfl : k = n := by omega
      have HFB := Lib.hid hF
      have HFi := Lib.hid hFi
      clear hF hFi hB
      go_wp2_with fail
      go_ret
      exact ⟨W2.heap.size, ys, cur, by rw [HN.out]; rfl, HP.out.1, HP.out.2, by have := HB2.out.size; omega, HFB.out, by rw [HN.out]; exact HFi.out, HBW.out⟩
end Go.Proofs.YtnbagigbaceonaaGreatDoor

namespace Go.Proofs.YtnbagigbaceonaaGreatDoor
open Go.RowKit Go.Lib

theorem in_range {n : Nat} {lt : Nat → Nat → Bool} (h : ∀ a b, a < b → b < n → lt a b = true) : InOrder lt n (List.range n) :=
  ⟨List.pairwise_iff_getElem.2 fun i j hi hj hij => by
    simp only [List.length_range] at hi hj
    rw [List.getElem_range, List.getElem_range]
    exact h i j hij hj, fun a => List.mem_range, List.length_range⟩
end Go.Proofs.YtnbagigbaceonaaGreatDoor

namespace Go.Proofs.YtnbagigbaceonaaGreatDoor
open Go.RowKit Go.Lib Go.Maps

theorem orderE_any (es : List Dat) (A : Option Addr) (cap : Nat) (conv : ByteArray) (W : World) (hl : es.length ≤ 1000) (hR : RdE W A es) :
    Calls Tryz.prog 25 #[.slice A es.length cap, .string n0, .string conv] W fun e w' => ∃ v, e = .returned (.tuple #[v, .int .i64 0]) ∧ Own .i64 w' W.heap.size 3 v (List.range es.length) ∧ Below W.heap.size W w' := by
  refine (show Calls _ _ _ _ _ from order_yes (rd := fun a => es.getD a d00) (by unfold ordT; simp) (by decide) hl hR (CmpW.zero.ord (Or.inl rfl)) en_leave en_alike (readies_leave W _ _ _ _) (cmp_alike W _ _ _)).mono ?_
  rintro e w' ⟨v, o, rfl, hi, hO, hb⟩
  have e2 := hi.uniq (CmpW.zero.ord (Or.inl rfl)) (in_range fun a b hab _ => by rw [ltV_is CmpW.zero (Or.inl rfl), if_pos rfl]; exact decide_eq_true hab)
  rw [e2] at hO
  exact ⟨v, rfl, hO, hb⟩
def datE (T : Tab) (e : Nat) : Dat := ⟨T.key e, T.kd e, T.flt e, T.str e, false⟩
set_option maxRecDepth 100000 in
set_option maxHeartbeats 4000000 in
theorem keysE_any {W : World} {a m nn : Nat} {came : Int} {E : List (Lit × Nat)} (T : Tab) (conv : ByteArray) (h : Arr W a m nn came (.map (esOf E))) (hE : E.length ≤ 1000)
    (hEl : ∀ p ∈ E, Elt W p.2 (T.key p.2) (T.num p.2) (T.kd p.2) (T.flt p.2) (T.str p.2) nilP ∧ (T.key p.2).size ≤ 281474976710656 ∧ (T.str p.2).size ≤ 281474976710656) :
    Calls Tryz.prog 11 #[ptrB a, .string n0, .string conv] W fun e w' => ∃ (g : Nat) (ys : List Nat) (cur : Array Value), e = .returned (.tuple #[.slice (some ⟨g, 0, none⟩) ys.length ys.length, .int .i64 0]) ∧ ys.Perm (E.map (·.2)) ∧ ys.Pairwise (fun x y => T.num x ≤ T.num y) ∧ W.heap.size ≤ g ∧ Blk w' g cur 9 ∧ (cur.size = ys.length ∧ ∀ (j e : Nat), ys[j]? = some e → cur[j]? = some (Value.string (T.key e))) ∧ Below W.heap.size W w' := by
  have CE := Lib.hid (entriesE_any T h (by omega) hEl)
  obtain ⟨i0, hi, hz0, hz1, hz2⟩ := info_parts info_str
  have hmk : ∀ (n : Nat) (W : World), n ≤ 100000 → (Instr.makeSlice 22 (.int .i64 (n : Int)) (.int .i64 (n : Int))).run Tryz.prog W = .ok (.slice (some ⟨W.heap.size, 0, none⟩) n n) (W.alloc (.cells (madeCells (Value.string ⟨#[]⟩).cells (n * 1)) 9)) := fun n W hn => by
    have := run_make (P := Tryz.prog) W 22 9 i0 (.string ⟨#[]⟩) Tryz.underlying22 hi hz0 .i64 .i64 (n : Int) (n : Int) (by omega) (by omega) (by rw [hz2]; omega) (by omega)
    rw [hz1, Int.toNat_natCast] at this
    exact this
  have HMK := Lib.hid hmk
  clear hi hz0 hz1 hz2 h hEl hmk
  go_enter Tryz.func11, Tryz.ntmps11
  go_wp2_with fail
  refine CE.out.mono ?_
  rintro e W1 ⟨g, ys, cur, rfl, hP, hS, hg, hF, hFi, hb⟩
  have hyl : ys.length ≤ 1000 := by have := hP.length_eq; rw [List.length_map] at this; omega
  have hgl := hF.lt
  have hs1 := hb.size
  have hR : RdE W1 (some ⟨g, 0, none⟩) (ys.map (datE T)) := fun j hj => ⟨g, 0, rfl, fun i hi => by
    rw [List.length_map] at hj
    rw [Nat.zero_add, hF.cell, hFi.2 j ys[j] hj (List.getElem?_eq_getElem hj) i hi, List.getElem_map]
    have : i = 0 ∨ i = 1 ∨ i = 2 ∨ i = 3 ∨ i = 4 := by omega
    rcases this with rfl | rfl | rfl | rfl | rfl <;> rfl⟩
  have CO := orderE_any (ys.map (datE T)) (some ⟨g, 0, none⟩) ys.length conv W1 (by rw [List.length_map]; exact hyl) hR
  rw [List.length_map] at CO
  obtain ⟨n, hn⟩ : ∃ n, ys.length = n := ⟨_, rfl⟩
  have HN := Lib.hid hn
  rw [hn] at CO hyl ⊢
  have CO := Lib.hid CO
  have HPS := Lib.hid (And.intro hP (And.intro hS hg))
  have HB1 := Lib.hid hb
  have HF := Lib.hid (And.intro hF hFi)
  clear hP hS hg hF hFi hb hR CE hn
  go_wp2_with fail
  refine CO.out.mono ?_
  rintro e W2 ⟨v, rfl, hO, hb2⟩
  obtain ⟨A2, cap2, rfl, _⟩ := hO.slice
  rw [List.length_range] at hO ⊢
  have HO := Lib.hid hO
  have hb2' := HB1.out.trans (hb2.mono hs1)
  have HB2 := Lib.hid hb2'
  have hs2 := hb2'.size
  have hmk := HMK.out n W2 (by omega)
  have F := Blk.new W2 (madeCells (Value.string ⟨#[]⟩).cells (n * 1)) 9
  have hbx := (Below.refl W2.heap.size W2).alloc (Nat.le_refl _) (.cells (madeCells (Value.string ⟨#[]⟩).cells (n * 1)) 9)
  have hsz : (madeCells (Value.string ⟨#[]⟩).cells (n * 1)).size = n := by simp [madeCells]
  obtain ⟨cur0, hc0⟩ : ∃ c, madeCells (Value.string ⟨#[]⟩).cells (n * 1) = c := ⟨_, rfl⟩
  rw [hc0] at hmk F hbx hsz
  obtain ⟨W3, hW3⟩ : ∃ W3, W2.alloc (.cells cur0 9) = W3 := ⟨_, rfl⟩
  rw [hW3] at hmk F hbx
  have HF3 := Lib.hid (And.intro F (And.intro hbx hsz))
  have HF2 := Lib.hid (fun (w : World) (hb : Below W2.heap.size W2 w) => HF.out.1.below (hb2.trans (hb.mono hb2.size)) hgl)
  have hgl2 : g < W2.heap.size := Nat.lt_of_lt_of_le hgl hb2.size
  clear hO hb2 hb2' F hbx hsz hc0 CO HMK hW3
  go_wp2_with fail
  clear hmk
  go_loopw [31] (fun iv wr => ∃ (k : Nat) (cu : Array Value), iv = .int .i64 (k : Int) ∧ k ≤ n ∧ Blk wr W2.heap.size cu 9 ∧ (cu.size = n ∧ ∀ (j e : Nat), j < k → ys[j]? = some e → cu[j]? = some (Value.string (T.key e))) ∧ Below W2.heap.size W2 wr) (fun iv _ => n - (RowKit.intOf iv).toNat)
  case atStart => exact ⟨0, cur0, rfl, Nat.zero_le _, HF3.out.1, ⟨HF3.out.2.2, fun j e hj => absurd hj (by omega)⟩, HF3.out.2.1⟩
  case round =>
    obtain ⟨k, cu, rfl, hk, hF4, ⟨hcs, hcu⟩, hB⟩ := hrel
    have HBW := Lib.hid (HB2.out.trans (hB.mono hs2))
    by_cases hlt : k < n
    · obtain ⟨e, he⟩ : ∃ e, ys[k]? = some e := ⟨_, List.getElem?_eq_getElem (by rw [HN.out]; exact hlt)⟩
      obtain ⟨q, cq, eq, hqb, _⟩ := HO.out.form (by rw [List.length_range]; omega)
      rw [List.length_range] at eq
      injection eq with e1 e2 e3
      subst e1 e3
      have hnum := HO.out.cell k (by rw [List.length_range]; exact hlt)
      rw [List.getElem_range] at hnum
      have r0 := (hB.cell (p := ⟨q, k, none⟩) (World.block_lt_of_cell? W2 _ hnum)).trans hnum
      have r1 : wr.cell? ⟨g, k * 5, none⟩ = some (.string (T.key e)) := by
        have := HF.out.2.2 k e (by rw [HN.out]; exact hlt) he 0 (by omega)
        exact ((HF2.out wr hB).cell (k * 5)).trans this
      obtain ⟨u, hu⟩ : ∃ u, cu[k]? = some u := ⟨_, Array.getElem?_eq_getElem (by omega)⟩
      have r2 := (hF4.cell k).trans hu
      have f2 := hF4.fro k
      have FN := Lib.hid (Blk.set (j := k) (u := .string (T.key e)) hF4)
      have BN := Lib.hid (hB.setCell (p := ⟨W2.heap.size, k, none⟩) (Nat.le_refl _) (.string (T.key e)))
      obtain ⟨k1, hk1⟩ : ∃ k1, k + 1 = k1 := ⟨_, rfl⟩
      have hcu2 := Lib.hid (show (cu.setIfInBounds k (.string (T.key e))).size = n ∧ ∀ (j e' : Nat), j < k1 → ys[j]? = some e' → (cu.setIfInBounds k (.string (T.key e)))[j]? = some (Value.string (T.key e')) from ⟨by simpa using hcs, fun j e' hj he' => by
        by_cases hjk : j = k
        · subst hjk
          rw [he] at he'
          obtain rfl := Option.some.inj he'
          rw [Array.getElem?_setIfInBounds_self_of_lt (by omega)]
        · rw [Array.getElem?_setIfInBounds_ne (by omega)]
          exact hcu j e' (by omega) he'⟩)
      have hw2 : IntKind.i64.wrap ((k : Int) + 1) = (k1 : Int) := by simp [IntKind.wrap, IntKind.bits, IntKind.signed]; omega
      have hbl : (k : Int) < (n : Int) := by omega
      have hbn : ¬ (k : Int) < 0 := by omega
      obtain ⟨K, hK⟩ : ∃ K, T.key e = K := ⟨_, rfl⟩
      rw [hK] at r1 FN BN hcu2
      clear hK he hnum hu hF4 hcs hcu hB HPS HO
      go_wp2_with fail
      refine ⟨⟨k1, _, rfl, by omega, FN.out, hcu2.out, BN.out⟩, ?_⟩
      simp [RowKit.intOf]
      omega
    · obtain rfl : k = n := by omega
      have HF5 := Lib.hid (And.intro hF4 (And.intro hcs hcu))
      clear hF4 hcs hcu hB
      go_wp2_with fail
      go_ret2
      exact ⟨W2.heap.size, ys, cu, by rw [HN.out]; rfl, HPS.out.1, HPS.out.2.1, by have := HB2.out.size; omega, HF5.out.1, ⟨by rw [HN.out]; exact HF5.out.2.1, fun j e he => HF5.out.2.2 j e (by rw [← HN.out]; exact (List.getElem?_eq_some_iff.1 he).1) he⟩, HBW.out⟩
end Go.Proofs.YtnbagigbaceonaaGreatDoor

namespace Go.Proofs.YtnbagigbaceonaaGreatDoor
open Go.RowKit Go.Lib Go.Maps

set_option maxHeartbeats 1000000 in
/-- Set at a key that a value has. -/
theorem set_val {W : World} {a m n el : Nat} {came : Int} {D : AD} (h : Arr W a m n came D) (s : ByteArray) (hs : s.size ≤ 281474976710656) (hat : D.atKey (klS s) (.held nilP) = .held (ptrB el)) {key : ByteArray} {num kd : Int} {M : Nat} {T : ByteArray} (hE : Elt W el key num kd M T nilP) (hne : a ≠ el ∧ m ≠ el) (kind : Int) (N : Nat) (S : ByteArray) (hS : S.size ≤ 281474976710656) :
    Calls Tryz.prog 8 #[ptrB a, .string s, .agg #[.int .i64 kind, .float .f64 N, .string S]] W fun e w' => e = .returned (.int .i64 0) ∧ Arr w' a m n came D ∧ Elt w' el key num kind N S nilP ∧ Off2 el el W w' := by
  have X1 := Blk.new W #[.int .i64 kind, .float .f64 N, .string S] 32
  have b1 := (Below.refl W.heap.size W).alloc (Nat.le_refl _) (.cells #[.int .i64 kind, .float .f64 N, .string S] 32)
  have A1 := h.kept b1
  have E1 := hE.below b1 hE.lt
  have c0 : (W.alloc (.cells #[.int .i64 kind, .float .f64 N, .string S] 32)).cell? ⟨a, 0, none⟩ = some (.map (some m)) := A1.row.cell 0
  have hl := look_run A1.own (s := s) (by unfold maxLen; omega) hat
  have CK := Lib.hid (show Calls Tryz.prog 21 #[ptrB el] _ (fun e w' => e = .returned (.int .i64 1) ∧ (W.alloc (.cells #[.int .i64 kind, .float .f64 N, .string S] 32)) = w') from kind_val E1)
  have CC := Lib.hid (fun W => copied_any kind N S W hS)
  obtain ⟨x0, x1, x2, _, _, _⟩ := X1.three
  have HA := Lib.hid A1
  have HE := Lib.hid E1
  have HB := Lib.hid b1
  have hst := as_store_float
  obtain ⟨W1, hW1⟩ : ∃ W1, W.alloc (.cells #[.int .i64 kind, .float .f64 N, .string S] 32) = W1 := ⟨_, rfl⟩
  rw [hW1] at x0 x1 x2 c0 hl CK HA HE HB
  clear h hE A1 E1 b1 hat X1
  go_enter Tryz.func8, Tryz.ntmps8
  go_wp2_with fail
  clear hW1
  refine CK.out.mono ?_
  rintro e w' ⟨rfl, rfl⟩
  clear c0 hl CK
  go_wp2_with fail
  refine (CC.out _).mono ?_
  rintro e W3 ⟨rfl, h3⟩
  clear x0 x1 x2 CC
  have hE3 := HE.out.below h3 HE.out.lt
  obtain ⟨⟨q0, q1, q2, q3, q4, q5⟩, ⟨r0, r1, r2, r3, r4, r5⟩⟩ := hE3.six
  have HA3 := Lib.hid (HA.out.kept h3)
  have HO3 := Lib.hid (show Off2 el el W W3 from Off2.of_below (HB.out.trans (h3.mono HB.out.size)))
  have HE3 := Lib.hid hE3
  clear hE3 h3 HA HE HB
  go_wp2_with fail
  go_ret
  exact ⟨rfl, ((HA3.out.setCell (p := ⟨el, 2, none⟩) hne.1 hne.2 _).setCell (p := ⟨el, 3, none⟩) hne.1 hne.2 _).setCell (p := ⟨el, 4, none⟩) hne.1 hne.2 _, ((HE3.out.set (j := 2) (u := .int .i64 kind)).set (j := 3) (u := .float .f64 N)).set (j := 4) (u := .string S), ((HO3.out.trans (Off2.setCell _ _ _ _ _)).trans (Off2.setCell _ _ _ _ _)).trans (Off2.setCell _ _ _ _ _)⟩
end Go.Proofs.YtnbagigbaceonaaGreatDoor

namespace Go.Proofs.YtnbagigbaceonaaGreatDoor
open Go.RowKit Go.Lib Go.Maps

set_option maxRecDepth 20000 in
/-- Delete: the element goes, if it is there. -/
theorem delete_any {W : World} {a m n : Nat} {came : Int} {D : AD} (h : Arr W a m n came D) (s : ByteArray) (hs : s.size ≤ 281474976710656) :
    Calls Tryz.prog 14 #[ptrB a, .string s] W fun e w' => e = .returned (.bool (Maps.has D (klS s))) ∧ Arr w' a m n came (D.del (klS s)) ∧ Off2 a m W w' := by
  have CH := Lib.hid (held_any h)
  obtain ⟨v, ps, hl, -⟩ := h.own.look_ok law_s Tryz.underlying51 (zeroE W) (zd := .held nilP) (zp := []) rfl (key_s (s := s) (by unfold maxLen; omega))
  have hown := h.own
  have hkey := key_s (s := s) (by unfold maxLen; omega)
  have HA := Lib.hid h
  clear h
  go_enter Tryz.func14, Tryz.ntmps14
  go_wp2_with fail
  refine CH.out.mono ?_
  rintro e w' ⟨rfl, rfl⟩
  go_wp2_with fail
  refine CH.out.mono ?_
  rintro e w' ⟨rfl, rfl⟩
  go_wp2_with (at_delete; refine wpList_delete_own _ rfl _ _ 51 9 rfl 54 law_s Tryz.underlying51 _ m n D rfl hown _ _ rfl hkey ?_; intro w1 hown1 hturn1)
  have hne : a ≠ m := fun e => by
    obtain ⟨x, y, h1, -⟩ := hown
    have h2 := HA.out.row.row
    subst e
    rw [h1] at h2
    cases h2
  go_ret
  refine ⟨rfl, ⟨⟨(hturn1.grown.block a HA.out.row.lt (by simp; exact hne)).trans HA.out.row.row⟩, hown1⟩, Off2.turned hturn1⟩
end Go.Proofs.YtnbagigbaceonaaGreatDoor

namespace Go.Proofs.YtnbagigbaceonaaGreatDoor
open Go.RowKit Go.Lib Go.Maps

theorem total_one {W : World} {a m n e : Nat} {came : Int} {k : ByteArray} (h : Arr W a m n came (.map [(klS k, .held (ptrB e))])) {t : Int} (ht : 0 ≤ t ∧ t ≤ 1000) (hC : Counts W e t) : Calls Tryz.prog 16 #[ptrB a] W fun e w' => e = .returned (.int .i64 t) ∧ Below W.heap.size W w' := by
  have := total_any h (fun _ => t) (fun p _ => ht) (by simp) (fun p hp => by
    rw [List.mem_singleton] at hp
    subst hp
    exact ⟨e, rfl, hC⟩)
  have e1 : totA (fun _ => t) [(klS k, .held (ptrB e))] = t := by unfold totA; simp
  rw [e1] at this
  exact this
def kX : ByteArray := ⟨#[120]⟩
def kY : ByteArray := ⟨#[121]⟩
def kZ : ByteArray := ⟨#[122]⟩
theorem d_xy (u v : AD) : ((DataW.map [(klS kX, u)] : AD).put (klS kY) v) = .map [(klS kX, u), (klS kY, v)] := by rfl
theorem d_xn (u z : AD) : (DataW.map [(klS kX, u)] : AD).atKey (klS kY) z = z := by rfl
theorem d_x (u v z : AD) : (DataW.map [(klS kX, u), (klS kY, v)] : AD).atKey (klS kX) z = u := by rfl
theorem d_y (u v z : AD) : (DataW.map [(klS kX, u), (klS kY, v)] : AD).atKey (klS kY) z = v := by rfl
set_option maxRecDepth 100000 in
set_option maxHeartbeats 4000000 in
theorem asFixed_any (w : World) : Calls Tryz.prog 5 #[] w fun e w' => e = .returned (.bool true) ∧ Below w.heap.size w w' := by
  have CN := Lib.hid (new_any w)
  obtain ⟨B, hB⟩ : ∃ B, w.heap.size = B := ⟨_, rfl⟩
  rw [hB] at CN ⊢
  have HB := Lib.hid hB
  clear hB
  go_enter Tryz.func5, Tryz.ntmps5
  go_wp2_with fail
  refine CN.out.mono ?_
  rintro e W1 ⟨a, m, rfl, hA, ha, hm, h1⟩
  have HA1 := Lib.hid hA
  have HB1 := Lib.hid h1
  have hB1 : B ≤ W1.heap.size := by have := h1.size; have := HB.out; omega
  clear hA h1 CN
  go_wp2_with fail
  refine (asOf_any 4607182418800017408 W1).mono ?_
  rintro e W2 ⟨rfl, h2⟩
  have HA2 := Lib.hid (HA1.out.kept h2)
  have HB2 := Lib.hid (HB1.out.trans (h2.mono hB1))
  have hB2 : B ≤ W2.heap.size := Nat.le_trans hB1 h2.size
  clear h2 HA1 HB1 hB1
  go_wp2_with fail
  refine (set_new HA2.out kX (by decide) (by decide) (by decide) (by decide) rfl 1 4607182418800017408 ⟨#[]⟩ (by decide)).mono ?_
  rintro e W3 ⟨rfl, ⟨e1, he1, hA, hE1⟩, hO⟩
  have HA3 := Lib.hid (show Arr W3 a m 1 1 (.map [(klS kX, .held (ptrB e1))]) from hA)
  have HE3 := Lib.hid hE1
  have HB3 := Lib.hid (HB2.out.trans (hO.below ha hm hB2))
  have hB3 : B ≤ W3.heap.size := Nat.le_trans hB2 hO.size
  have hae1 : a < e1 ∧ m < e1 ∧ B ≤ e1 ∧ e1 < W3.heap.size := ⟨by have := HA2.out.row.lt; omega, by have := HA2.out.own.lt; omega, by omega, hE1.lt⟩
  clear hA hE1 hO HA2 HB2 hB2 he1
  go_wp2_with fail
  refine (sub_new HA3.out kY (by decide) (by decide) (by decide) (by decide) (d_xn _ _)).mono ?_
  rintro e W4 ⟨e2, b, mb, rfl, he2, hb, hmb, hA, hE2, hBb, hO⟩
  rw [d_xy] at hA
  have HA4 := Lib.hid hA
  have HE4 := Lib.hid (HE3.out.off2 hO (by omega) (by omega))
  have HF4 := Lib.hid hE2
  have HBA4 := Lib.hid hBb
  have HB4 := Lib.hid (HB3.out.trans (hO.below ha hm hB3))
  have hB4 : B ≤ W4.heap.size := Nat.le_trans hB3 hO.size
  have hord : a < e2 ∧ m < e2 ∧ e1 < e2 ∧ B ≤ e2 ∧ B ≤ b ∧ B ≤ mb := by omega
  clear hA hE2 hBb hO HA3 HE3 HB3 hB3 he2
  go_wp2_with fail
  refine (asText_any ⟨#[116]⟩ W4).mono ?_
  rintro e W5 ⟨rfl, h5⟩
  have HA5 := Lib.hid (HA4.out.kept h5)
  have HE5 := Lib.hid (HE4.out.below h5 HE4.out.lt)
  have HF5 := Lib.hid (HF4.out.below h5 HF4.out.lt)
  have HBA5 := Lib.hid (HBA4.out.kept h5)
  have HB5 := Lib.hid (HB4.out.trans (h5.mono hB4))
  have hB5 : B ≤ W5.heap.size := Nat.le_trans hB4 h5.size
  clear h5 HA4 HE4 HF4 HBA4 HB4 hB4
  go_wp2_with fail
  refine (set_new HBA5.out kZ (by decide) (by decide) (by decide) (by decide) rfl 2 0 ⟨#[116]⟩ (by decide)).mono ?_
  rintro e W6 ⟨rfl, ⟨e3, he3, hA, hE3⟩, hO⟩
  have HA6 := Lib.hid (HA5.out.off2 hO (by omega) (by omega) (by omega) (by omega))
  have HE6 := Lib.hid (HE5.out.off2 hO (by omega) (by omega))
  have HF6 := Lib.hid (HF5.out.off2 hO (by omega) (by omega))
  have HBA6 := Lib.hid (show Arr W6 b mb 1 1 (.map [(klS kZ, .held (ptrB e3))]) from hA)
  have HG6 := Lib.hid hE3
  have HB6 := Lib.hid (HB5.out.trans (hO.below hord.2.2.2.2.1 hord.2.2.2.2.2 hB5))
  have hB6 : B ≤ W6.heap.size := Nat.le_trans hB5 hO.size
  clear hA hE3 hO HA5 HE5 HF5 HBA5 HB5 hB5 he3
  go_wp2_with fail
  refine (sub_val HA6.out kX (by decide) (d_x _ _ _) HE6.out).mono ?_
  rintro e w' ⟨rfl, rfl⟩
  go_wp2_with fail
  refine (set_arr HA6.out kY (by decide) (d_y _ _ _) HF6.out 0 0 ⟨#[]⟩).mono ?_
  rintro e W7 ⟨rfl, h7⟩
  have HA7 := Lib.hid (HA6.out.kept h7)
  have HE7 := Lib.hid (HE6.out.below h7 HE6.out.lt)
  have HF7 := Lib.hid (HF6.out.below h7 HF6.out.lt)
  have HBA7 := Lib.hid (HBA6.out.kept h7)
  have HG7 := Lib.hid (HG6.out.below h7 HG6.out.lt)
  have HB7 := Lib.hid (HB6.out.trans (h7.mono hB6))
  have hB7 : B ≤ W7.heap.size := Nat.le_trans hB6 h7.size
  clear h7 HA6 HE6 HF6 HBA6 HB6 hB6 HG6
  go_wp2_with fail
  refine (asLen_any HA7.out).mono ?_
  rintro e w' ⟨rfl, rfl⟩
  go_wp2_with fail
  refine (total_any HA7.out (fun _ => 1) (fun _ _ => ⟨by decide, by decide⟩) (by simp) (fun p hp => by
    rcases List.mem_cons.1 hp with rfl | hp
    · exact ⟨e1, rfl, Or.inl ⟨_, _, _, _, _, HE7.out, rfl⟩⟩
    · rw [List.mem_singleton] at hp
      subst hp
      exact ⟨e2, rfl, Or.inr ⟨_, _, _, _, _, b, HF7.out, fun W' hb => total_one (HBA7.out.kept hb) ⟨by decide, by decide⟩ (Or.inl ⟨_, _, _, _, _, HG7.out.below hb HG7.out.lt, rfl⟩)⟩⟩)).mono ?_
  rintro e W8 ⟨rfl, h8⟩
  have HB8 := Lib.hid (HB7.out.trans (h8.mono hB7))
  have HA8 := Lib.hid (HA7.out.kept h8)
  have HF8 := Lib.hid (HF7.out.below h8 HF7.out.lt)
  clear h8 HA7 HE7 HF7 HBA7 HG7 HB7
  go_wp2_with fail
  refine (kindKey_any HA8.out kY (by decide) (d_y _ _ _) (kind_arr HF8.out)).mono ?_
  rintro e w' ⟨rfl, rfl⟩
  go_wp2_with fail
  go_ret
  exact ⟨rfl, by rw [← HB.out]; have := HB8.out; rw [← HB.out] at this; exact this⟩
end Go.Proofs.YtnbagigbaceonaaGreatDoor

namespace Go.Proofs.YtnbagigbaceonaaGreatDoor
open Go.RowKit Go.Lib Go.Maps

theorem allE_any {W : World} {a m nn : Nat} {came : Int} {E : List (Lit × Nat)} (T : Tab) (h : Arr W a m nn came (.map (esOf E))) (hE : E.length ≤ 100000)
    (hEl : ∀ p ∈ E, Elt W p.2 (T.key p.2) (T.num p.2) (T.kd p.2) (T.flt p.2) (T.str p.2) nilP ∧ (T.key p.2).size ≤ 281474976710656 ∧ (T.str p.2).size ≤ 281474976710656) :
    Calls Tryz.prog 17 #[ptrB a] W fun e w' => ∃ (B g : Nat) (ys : List Nat) (cur : Array Value), e = .returned (.func (.func 35) #[] #[.pointer (some ⟨B, 0, none⟩)]) ∧ W.heap.size ≤ B ∧ Blk w' B #[.slice (some ⟨g, 0, none⟩) ys.length ys.length] 60 ∧ ys.Perm (E.map (·.2)) ∧ ys.Pairwise (fun x y => T.num x ≤ T.num y) ∧ W.heap.size ≤ g ∧ g ≠ B ∧ Blk w' g cur 46 ∧ Filled T cur ys ys.length ∧ Below W.heap.size W w' := by
  have CE := Lib.hid (entriesE_any T h hE hEl)
  go_enter Tryz.func17, Tryz.ntmps17
  go_wp2_with fail
  refine CE.out.mono ?_
  rintro e W1 ⟨g, ys, cur, rfl, hP, hS, hg, hF, hFi, hb⟩
  have HB := Lib.hid hb
  have HF := Lib.hid hF
  have HQ := Lib.hid (And.intro hP (And.intro hS hFi))
  have hs := hb.size
  clear hb CE hP hS hF hFi
  have CA : Calls Tryz.prog 26 #[.slice (some ⟨g, 0, none⟩) ys.length ys.length] W1 fun e w' => e = .returned (.func (.func 35) #[] #[.pointer (some ⟨W1.heap.size, 0, none⟩)]) ∧ W1.alloc (.cells #[.slice (some ⟨g, 0, none⟩) ys.length ys.length] 60) = w' := by
    go_enter Tryz.func26, Tryz.ntmps26
    go_wp2_with fail
    go_ret
    exact ⟨rfl, rfl⟩
  have CA := Lib.hid CA
  go_wp2_with fail
  refine CA.out.mono ?_
  rintro e w' ⟨rfl, rfl⟩
  go_wp2_with fail
  go_ret
  exact ⟨_, g, ys, cur, rfl, hs, Blk.new W1 _ _, HQ.out.1, HQ.out.2.1, hg, Nat.ne_of_lt HF.out.lt, HF.out.alloc _, HQ.out.2.2, HB.out.alloc hs _⟩
def entA (T : Tab) (e : Nat) : Value := .agg #[.string (T.key e), .int .i64 (T.kd e), .float .f64 (T.flt e), .string (T.str e), .bool false]
end Go.Proofs.YtnbagigbaceonaaGreatDoor

namespace Go.Proofs.YtnbagigbaceonaaGreatDoor
open Go.RowKit Go.Lib Go.Maps Go.ChangeMaps Go.MapKept Go.WideShapes Go.WideElems

/-- 'clear(m)'. -/
theorem wipe_run {W : World} {m n : Nat} {D : AD} (h : W.ownsMap Tryz.prog 9 asR m n D) :
    ∃ w', (∀ ty, (Builtin.clear_ #[51] ty #[.map (some m)]).run Tryz.prog W = .ok (.tuple #[]) w') ∧ w'.ownsMap Tryz.prog 9 asR m n (.map []) ∧ W.mapTurned w' m := by
  obtain ⟨es, clock, hb, F, hs, rfl⟩ := h
  refine ⟨setBlock W m (.map #[] clock), fun ty => ?_, ⟨#[], clock, heap_setBlock_same hb _, ⟨Nat.zero_le _, ?_, fun x hx => absurd hx (by simp)⟩, Nat.zero_le _, rfl⟩, ⟨es, clock, #[], clock, hb, rfl⟩⟩
  · simp [Builtin.clear_, run_underlying (P := Tryz.prog) Tryz.underlying51, MapKept.run_getObj_map hb, MapKept.run_setObj_map _ hb, Result.andThen, setBlock]
  · simp [Stamped]
/-- Clear: all go. -/
theorem clear_any {W : World} {a m n : Nat} {came : Int} {D : AD} (h : Arr W a m n came D) :
    Calls Tryz.prog 15 #[ptrB a] W fun e w' => (∃ r, e = .returned r) ∧ Arr w' a m n came (.map []) ∧ Off2 a m W w' := by
  have CH := Lib.hid (held_any h)
  obtain ⟨W1, hl, hown1, hturn1⟩ := wipe_run h.own
  have HA := Lib.hid h
  have HO := Lib.hid h.own
  have HO1 := Lib.hid (And.intro hown1 hturn1)
  clear h hown1 hturn1
  go_enter Tryz.func15, Tryz.ntmps15
  go_wp2_with fail
  refine CH.out.mono ?_
  rintro e w' ⟨rfl, rfl⟩
  go_wp2_with fail
  obtain ⟨hown1, hturn1⟩ := HO1.out
  have hne : a ≠ m := fun e => by
    obtain ⟨x, y, h1, -⟩ := HO.out
    have h2 := HA.out.row.row
    subst e
    rw [h1] at h2
    cases h2
  go_end0
  exact ⟨⟨_, rfl⟩, ⟨⟨(hturn1.grown.block a HA.out.row.lt (by simp; exact hne)).trans HA.out.row.row⟩, hown1⟩, Off2.turned hturn1⟩
end Go.Proofs.YtnbagigbaceonaaGreatDoor

namespace Go.Proofs.YtnbagigbaceonaaGreatDoor
open Go.RowKit Go.Lib Go.Maps

/-- An element that is new, or new made. -/
def Tab.upd (T : Tab) (el : Nat) (key : ByteArray) (num kd : Int) (N : Nat) (S : ByteArray) : Tab := ⟨fun e => if e = el then key else T.key e, fun e => if e = el then num else T.num e, fun e => if e = el then kd else T.kd e, fun e => if e = el then N else T.flt e, fun e => if e = el then S else T.str e⟩
def EltT (W : World) (T : Tab) (e : Nat) : Prop := Elt W e (T.key e) (T.num e) (T.kd e) (T.flt e) (T.str e) nilP
theorem EltT.upd_same {W : World} {T : Tab} {el : Nat} {key : ByteArray} {num kd : Int} {N : Nat} {S : ByteArray} (h : Elt W el key num kd N S nilP) : EltT W (T.upd el key num kd N S) el := by
  unfold EltT Tab.upd
  simpa using h
theorem EltT.upd_other {W : World} {T : Tab} {el e : Nat} {key : ByteArray} {num kd : Int} {N : Nat} {S : ByteArray} (hne : e ≠ el) (h : EltT W T e) : EltT W (T.upd el key num kd N S) e := by
  unfold EltT Tab.upd
  simp only [if_neg hne]
  exact h
/-- Array a holds the elements els, in the order in which they came. -/
structure St (W : World) (a m n : Nat) (came : Int) (T : Tab) (els : List Nat) (E : List (Lit × Nat)) : Prop where
  arr : Arr W a m n came (.map (esOf E))
  perm : els.Perm (E.map (·.2))
  ris : els.Pairwise (fun x y => T.num x < T.num y)
  key : ∀ p ∈ E, p.1 = klS (T.key p.2)
  elt : ∀ e ∈ els, EltT W T e ∧ (T.key e).size ≤ 281474976710656 ∧ (T.str e).size ≤ 281474976710656 ∧ T.num e < came
theorem St.mem {W : World} {a m n : Nat} {came : Int} {T : Tab} {els : List Nat} {E : List (Lit × Nat)} (h : St W a m n came T els E) {e : Nat} (he : e ∈ els) : (klS (T.key e), e) ∈ E := by
  obtain ⟨p, hp, hpe⟩ := List.mem_map.1 (h.perm.mem_iff.1 he)
  have := h.key p hp
  subst hpe
  rw [← this]
  exact hp
theorem St.at_yes {W : World} {a m n : Nat} {came : Int} {T : Tab} {els : List Nat} {E : List (Lit × Nat)} (h : St W a m n came T els E) {e : Nat} (he : e ∈ els) (z : AD) : (DataW.map (esOf E) : AD).atKey (klS (T.key e)) z = .held (ptrB e) :=
  WideAt.atKey_mem z (klS_key _) (at_next_mem h.arr.own).1 (List.mem_map.2 ⟨_, h.mem he, rfl⟩)
theorem St.at_no {W : World} {a m n : Nat} {came : Int} {T : Tab} {els : List Nat} {E : List (Lit × Nat)} (h : St W a m n came T els E) {s : ByteArray} (hno : ∀ e ∈ els, T.key e ≠ s) (z : AD) : (DataW.map (esOf E) : AD).atKey (klS s) z = z :=
  WideAt.atKey_none z fun p hp hk => by
    obtain ⟨q, hq, rfl⟩ := List.mem_map.1 hp
    exact hno q.2 (h.perm.mem_iff.2 (List.mem_map.2 ⟨q, hq, rfl⟩)) (klS_inj ((h.key q hq).symm.trans hk))
theorem St.keys_apart {W : World} {a m n : Nat} {came : Int} {T : Tab} {els : List Nat} {E : List (Lit × Nat)} (h : St W a m n came T els E) {x y : Nat} (hx : x ∈ els) (hy : y ∈ els) (hk : T.key x = T.key y) : x = y := by
  have h1 := h.at_yes hx (.held nilP)
  have h2 := h.at_yes hy (.held nilP)
  rw [hk, h2] at h1
  injection h1 with h3
  injection h3 with h3
  injection h3 with h3
  injection h3 with h3
  exact h3.symm
theorem perm_unmap {α β : Type} (f : α → β) {A B : List β} (h : A.Perm B) : ∀ l : List α, B = l.map f → ∃ l' : List α, l'.Perm l ∧ A = l'.map f := by
  induction h with
  | nil => intro l hl; exact ⟨l, List.Perm.refl _, hl⟩
  | cons x hp ih =>
    intro l hl
    cases l with
    | nil => cases hl
    | cons y l =>
      rw [List.map_cons] at hl
      injection hl with h1 h2
      obtain ⟨l', hl', e⟩ := ih l h2
      exact ⟨y :: l', hl'.cons y, by rw [List.map_cons, h1, e]⟩
  | swap x y l0 =>
    intro l hl
    match l, hl with
    | p :: q :: l, hl =>
      simp only [List.map_cons, List.cons.injEq] at hl
      exact ⟨q :: p :: l, List.Perm.swap p q l, by simp only [List.map_cons]; rw [hl.1, hl.2.1, hl.2.2]⟩
  | trans h1 h2 ih1 ih2 =>
    intro l hl
    obtain ⟨l2, p2, e2⟩ := ih2 l hl
    obtain ⟨l1, p1, e1⟩ := ih1 l2 e2
    exact ⟨l1, p1.trans p2, e1⟩
theorem put_new {E : List (Lit × Nat)} {kl : Lit} (el : Nat) (hno : ∀ p ∈ E, p.1.sameKey kl = false) : ∃ E' : List (Lit × Nat), E'.Perm ((kl, el) :: E) ∧ (DataW.map (esOf E) : AD).put kl (.held (ptrB el)) = .map (esOf E') := by
  have hf : (esOf E).filter (ChangeMaps.notKey kl) = esOf E := List.filter_eq_self.2 fun p hp => by
    obtain ⟨q, hq, rfl⟩ := List.mem_map.1 hp
    unfold ChangeMaps.notKey
    rw [hno q hq]
    rfl
  obtain ⟨E', hP, e⟩ := perm_unmap (fun p : Lit × Nat => (p.1, (DataW.held (ptrB p.2) : AD))) (WideShapes.insert_perm (kl, (DataW.held (ptrB el) : AD)) (esOf E)) ((kl, el) :: E) rfl
  refine ⟨E', hP, ?_⟩
  rw [DataW.put_eq]
  unfold ChangeMaps.putKey
  rw [hf, e]
  rfl
theorem del_is (E : List (Lit × Nat)) (kl : Lit) : (DataW.map (esOf E) : AD).del kl = .map (esOf (E.filter fun p => !p.1.sameKey kl)) := by
  rw [DataW.del_eq]
  unfold ChangeMaps.delKey esOf
  rw [List.filter_map]
  rfl
end Go.Proofs.YtnbagigbaceonaaGreatDoor
