/- Several texts in one (Contracts of layer 3: which floats are finite; Parts; Contracts of layer 3: amount; Contracts of layer 3: Fixed; Plain: float64(k) times the constant log10(2), and its floor, for every k that a float has. No walk here; Contracts of layer 4: math.Floor, tensIn; Contracts of layer 3: Sci's short ways out; Contracts of layer 3: timesTen by any power; the binary digits of a fraction; Plain: Sci's loop ends: two powers of ten above the first one the digits are not too many. No walk here; Contracts of layer 3: Sci's main way; Plain: floats by their rungs, and which one is nearest to a fraction. No walk here; Plain: the float that Read's rounding gives is the nearest one. No walk here; Contracts of layer 3: math.Ldexp of a natural that is a float; Contracts of layer 3: math.Ldexp). -/
import Derived.WalkSpells
import Derived.Deep.QuietTactic
import Derived.BigQuiet
import Derived.Laws.FloatArith
import Derived.Test.YtddfigbpckhfbaaGreatDoorQpt3
namespace Go.Proofs.YtddfigbpckhfbaaGreatDoor
open Go.RowKit Go.Lib

theorem dbl_sign : Ieee.double.signWeight = 9223372036854775808 := by decide
theorem dbl_binade : Ieee.double.binade = 4503599627370496 := by decide
theorem dbl_inf : Ieee.double.infRung = 9218868437227405312 := by decide
theorem dbl_least : Ieee.double.leastPlace = -1074 := by decide
/-- A finite float's natural and power. -/
def manF (r : Nat) : Nat := if r < 4503599627370496 then r else 4503599627370496 + r % 4503599627370496
def expF (r : Nat) : Int := if r < 4503599627370496 then -1074 else -1074 + ((r / 4503599627370496 - 1 : Nat) : Int)
theorem read_fin {b : Nat} (h : mag b < 9218868437227405312) : Ieee.double.read b = .number (b / 9223372036854775808 % 2 == 1) (manF (mag b)) (expF (mag b)) := by
  unfold Ieee.Format.read manF expF mag at *
  simp only [dbl_sign, dbl_binade, dbl_inf, dbl_least]
  split
  · rfl
  · rfl
theorem read_inf {b : Nat} (h : mag b = 9218868437227405312) : Ieee.double.read b = .infinity (b / 9223372036854775808 % 2 == 1) := by
  unfold Ieee.Format.read mag at *
  simp only [dbl_sign, dbl_binade, dbl_inf]
  rw [if_neg (by omega), if_neg (by omega), if_pos h]
theorem read_nan {b : Nat} (h : 9218868437227405312 < mag b) : Ieee.double.read b = .nan (b / 9223372036854775808 % 2 == 1) (mag b - 9218868437227405312) := by
  unfold Ieee.Format.read mag at *
  simp only [dbl_sign, dbl_binade, dbl_inf]
  rw [if_neg (by omega), if_neg (by omega), if_neg (by omega)]
theorem nan_no {b : Nat} (h : mag b ≤ 9218868437227405312) : nanB b = false := by
  show (Ieee.double.order b b != some .eq) = false
  unfold Ieee.Format.order
  rcases Nat.lt_or_ge (mag b) 9218868437227405312 with h1 | h1
  · rw [read_fin h1]
    simp [Ieee.Datum.order]
  · rw [read_inf (by omega)]
    simp [Ieee.Datum.order]
theorem nan_yes {b : Nat} (h : 9218868437227405312 < mag b) : nanB b = true := by
  show (Ieee.double.order b b != some .eq) = true
  unfold Ieee.Format.order
  rw [read_nan h]
  rfl
theorem mag_mag (b : Nat) : mag (mag b) = mag b := by unfold mag; omega
theorem mag_sign (b : Nat) : mag b / 9223372036854775808 % 2 = 0 := by unfold mag; omega
theorem read_max : Ieee.double.read 9218868437227405311 = .number false 9007199254740991 971 := by decide
theorem inf_no {b : Nat} (h : mag b < 9218868437227405312) : infB b = false := by
  show (Ieee.double.order (mag b) 9218868437227405311 == some .gt) = false
  unfold Ieee.Format.order
  rw [read_fin (by rw [mag_mag]; exact h), read_max, mag_sign, mag_mag]
  have hm : manF (mag b) ≤ 9007199254740991 := by unfold manF; split <;> omega
  have he : expF (mag b) ≤ 971 := by unfold expF; split <;> omega
  have hmin : min (expF (mag b)) 971 = expF (mag b) := by omega
  show (some (compare _ _) == some Ordering.gt) = false
  rw [hmin, Int.sub_self]
  have h1 : Ieee.signed (0 == 1) (manF (mag b)) (0 : Int).toNat = (manF (mag b) : Int) := by
    show ((manF (mag b) <<< 0 : Nat) : Int) = _
    rw [Nat.shiftLeft_zero]
  have h2 : (9007199254740991 : Int) ≤ Ieee.signed false 9007199254740991 (971 - expF (mag b)).toNat := by
    show _ ≤ ((9007199254740991 <<< _ : Nat) : Int)
    rw [Nat.shiftLeft_eq]
    have : 9007199254740991 * 1 ≤ 9007199254740991 * 2 ^ (971 - expF (mag b)).toNat := Nat.mul_le_mul_left _ (Nat.pow_pos (by omega))
    omega
  rw [h1]
  have h3 : compare (manF (mag b) : Int) (Ieee.signed false 9007199254740991 (971 - expF (mag b)).toNat) ≠ .gt := by
    intro e
    have := Int.compare_eq_gt.1 e
    omega
  cases hc : compare (manF (mag b) : Int) (Ieee.signed false 9007199254740991 (971 - expF (mag b)).toNat) with
  | lt => rfl
  | eq => rfl
  | gt => exact absurd hc h3
theorem low_52 (m : Nat) (h : m < 18446744073709551616) : bits .and .u64 (m : Int) 4503599627370495 = ((m % 4503599627370496 : Nat) : Int) := by
  have h1 := u64_and_nat m 4503599627370495 h (by omega)
  rw [show (4503599627370495 : Nat) = 2 ^ 52 - 1 by decide, Nat.and_two_pow_sub_one_eq_mod] at h1
  exact h1
theorem or_52 (x : Nat) (h : x < 4503599627370496) : bits .or .u64 4503599627370496 (x : Int) = 4503599627370496 + (x : Int) := by
  have h1 := u64_or_nat 4503599627370496 x (by omega) (by omega)
  rw [show (4503599627370496 : Nat) = 1 * 2 ^ 52 by decide, or_low (k := 52) h] at h1
  rw [Int.natCast_add] at h1
  exact h1
set_option maxRecDepth 100000 in
set_option maxHeartbeats 1000000 in
theorem parts_yes (b : Nat) (w : World) (hb : b < 18446744073709551616) (h : mag b < 9218868437227405312) : Calls Tryz.prog 244 #[.float .f64 b] w fun e w' => e = .returned (.tuple #[.int .u64 (manF (mag b)), .int .i64 (expF (mag b)), .bool true]) ∧ w = w' := by
  have cN := isNaN_any b w
  have cI := isInf_any b w hb
  rw [nan_no (by omega)] at cN
  rw [inf_no h] at cI
  have CN := Lib.hid cN
  have CI := Lib.hid cI
  have CA := Lib.hid (abs_any b w hb)
  have hr := run_f64bits (mag b) w
  obtain ⟨m, hm⟩ : ∃ m, mag b = m := ⟨_, rfl⟩
  rw [hm] at h CA hr
  rw [hm]
  have hl := low_52 m (by omega)
  have ho := or_52 (m % 4503599627370496) (by omega)
  obtain ⟨x, hx⟩ : ∃ x, m % 4503599627370496 = x := ⟨_, rfl⟩
  obtain ⟨y, hy⟩ : ∃ y, m / 4503599627370496 = y := ⟨_, rfl⟩
  have hy2 : y ≤ 2046 := by omega
  have hyd : (m : Int) / 4503599627370496 = (y : Int) := by omega
  rw [hx] at hl ho
  clear cN cI hm
  by_cases hs : m < 4503599627370496
  · have HM := Lib.hid (show manF m = x by rw [manF, if_pos hs]; omega)
    have HE := Lib.hid (show expF m = -1074 by rw [expF, if_pos hs])
    have hy0 : ((y : Int) == 0) = true := by rw [beq_iff_eq]; omega
    clear hx hy hs ho
    go_enter Tryz.func244, Tryz.ntmps244
    go_wp2_with fail
    refine CN.out.mono ?_
    rintro e w' ⟨rfl, rfl⟩
    go_wp2_with fail
    refine CI.out.mono ?_
    rintro e w' ⟨rfl, rfl⟩
    go_wp2_with fail
    refine CA.out.mono ?_
    rintro e w' ⟨rfl, rfl⟩
    go_wp2
    go_ret3
    exact ⟨by rw [HM.out, HE.out]; rfl, rfl⟩
  · have HM := Lib.hid (show (manF m : Int) = 4503599627370496 + (x : Int) by rw [manF, if_neg hs, hx]; omega)
    have HE := Lib.hid (show expF m = -1074 + (y : Int) - 1 by rw [expF, if_neg hs, hy]; omega)
    have hy0 : ((y : Int) == 0) = false := by rw [beq_eq_false_iff_ne]; omega
    clear hx hy hs
    go_enter Tryz.func244, Tryz.ntmps244
    go_wp2_with fail
    refine CN.out.mono ?_
    rintro e w' ⟨rfl, rfl⟩
    go_wp2_with fail
    refine CI.out.mono ?_
    rintro e w' ⟨rfl, rfl⟩
    go_wp2_with fail
    refine CA.out.mono ?_
    rintro e w' ⟨rfl, rfl⟩
    go_wp2
    go_ret3
    exact ⟨by rw [HM.out, HE.out]; rfl, rfl⟩
end Go.Proofs.YtddfigbpckhfbaaGreatDoor

namespace Go.Proofs.YtddfigbpckhfbaaGreatDoor
open Go.RowKit Go.Lib

theorem from_word (n : Nat) (w : World) (hn : n < 18446744073709551616) : Calls Tryz.prog 156 #[.int .u64 (n : Int)] w (Makes .u32 206 w (dig B32 n)) := by
  have h := from_any (n % 4294967296) (n / 4294967296) w (Nat.mod_lt _ (by omega)) (by omega)
  rw [show ((n % 4294967296 : Nat) : Int) + 4294967296 * ((n / 4294967296 : Nat) : Int) = (n : Int) by omega, Nat.mod_add_div] at h
  exact h
theorem two_lt (a b : Nat) (h : a < 32 * b) : 2 ^ a < B32 ^ b := by
  have e : B32 = 2 ^ 32 := by decide
  rw [e, ← Nat.pow_mul]
  exact Nat.pow_lt_pow_right (by omega) h
theorem man_room {M p : Nat} (hM : M < 9007199254740992) (hp : p ≤ 971) : M * 2 ^ p < B32 ^ 255 := by
  have h : M * 2 ^ p < 2 ^ 53 * 2 ^ p := Nat.mul_lt_mul_of_pos_right hM (Nat.pow_pos (by omega))
  rw [← Nat.pow_add] at h
  exact Nat.lt_trans h (two_lt _ _ (by omega))
/-- A row of numbers is not touched by a store where no number is. -/
theorem Rd.other {κ : IntKind} {W : World} {A : Option Addr} {xs : List Nat} (h : Rd κ W A xs) {g j : Nat} {u0 : Value} (hc : W.cell? ⟨g, j, none⟩ = some u0) (hu : ∀ z, u0 ≠ .int κ z) (u : Value) : Rd κ (W.setCell ⟨g, j, none⟩ u) A xs := fun i hi => by
  obtain ⟨g', o, e, hc'⟩ := h i hi
  refine ⟨g', o, e, ?_⟩
  have hne : (⟨g', o + i, none⟩ : Addr) ≠ ⟨g, j, none⟩ := fun e2 => by
    rw [e2] at hc'
    rw [hc] at hc'
    exact hu _ (Option.some.inj hc')
  rw [World.cell?_setCell_other _ _ _ _ (fun e3 => hne e3.symm)]
  exact hc'
theorem manF_lt {r : Nat} : manF r < 9007199254740992 := by unfold manF; split <;> omega
theorem expF_bd {r : Nat} (h : r < 9218868437227405312) : -1074 ≤ expF r ∧ expF r ≤ 971 := by unfold expF; split <;> omega
/-- The parts of a float as a fraction. -/
def amN (r : Nat) : Nat := manF r * 2 ^ (expF r).toNat
def amD (r : Nat) : Nat := 2 ^ (-expF r).toNat
theorem amD_pos (r : Nat) : 0 < amD r := Nat.pow_pos (by omega)

def AmEnd (w : World) (N D : Nat) (f : Bool) (e : Ending) (w' : World) : Prop := (∃ v', e = .returned (.tuple #[v', .bool f]) ∧ Frac w' v' N D) ∧ Below w.heap.size w w'
/-- timesTwo by any power. -/
theorem timesTwo_any (M : Nat) (z : Int) (v : Value) (w : World) (hM : M < 9007199254740992) (h1 : -1074 ≤ z) (h2 : z ≤ 971) (hf : Frac w v M 1) :
    Calls Tryz.prog 159 #[v, .int .i64 z] w fun e w' => (∃ v', e = .returned v' ∧ Frac w' v' (M * 2 ^ z.toNat) (2 ^ (-z).toNat)) ∧ Below w.heap.size w w' := by
  have hp : ∀ a, a ≤ 1074 → 2 ^ a < B32 ^ 256 := fun a ha => two_lt _ _ (by omega)
  by_cases h : 0 ≤ z
  · obtain ⟨k, rfl⟩ : ∃ k : Nat, z = (k : Int) := ⟨z.toNat, by omega⟩
    have hb : M * 2 ^ k < B32 ^ 256 := by
      have h3 := man_room hM (p := k) (by omega)
      exact Nat.lt_trans h3 (Nat.pow_lt_pow_right (by decide) (by omega))
    have := timesTwo_up M 1 k v w (by omega) hb hf
    rw [show ((k : Nat) : Int).toNat = k from rfl, show (-((k : Nat) : Int)).toNat = 0 by omega, Nat.pow_zero]
    exact this
  · obtain ⟨k, rfl⟩ : ∃ k : Nat, z = -(k : Int) := ⟨(-z).toNat, by omega⟩
    have := timesTwo_down M 1 k v w (by omega) (by omega) (by rw [Nat.one_mul]; exact hp _ (by omega)) hf
    rw [Nat.one_mul] at this
    rw [show (-((k : Nat) : Int)).toNat = 0 by omega, show (-(-((k : Nat) : Int))).toNat = k by omega, Nat.pow_zero, Nat.mul_one]
    exact this
set_option maxRecDepth 100000 in
set_option maxHeartbeats 1000000 in
theorem amount_core (b M : Nat) (z : Int) (f : Bool) (w : World) (hM : M < 9007199254740992) (h1 : -1074 ≤ z) (h2 : z ≤ 971)
    (cP : ∀ W, Calls Tryz.prog 244 #[.float .f64 b] W fun e w' => e = .returned (.tuple #[.int .u64 M, .int .i64 z, .bool f]) ∧ W = w') :
    Calls Tryz.prog 245 #[.float .f64 b] w (AmEnd w (M * 2 ^ z.toNat) (2 ^ (-z).toNat) f) := by
  have CP := Lib.hid cP
  have CF := Lib.hid (fun (W : World) => from_word M W (by omega))
  have CO := Lib.hid (fun (W : World) => from_small 1 W (by omega))
  have CT := Lib.hid (fun (W : World) (v : Value) (h : Frac W v M 1) => timesTwo_any M z v W hM h1 h2 h)
  obtain ⟨N, hN⟩ : ∃ N, M * 2 ^ z.toNat = N := ⟨_, rfl⟩
  obtain ⟨D, hD⟩ : ∃ D, 2 ^ (-z).toNat = D := ⟨_, rfl⟩
  rw [hN, hD] at CT
  rw [hN, hD]
  have hbA := (Below.refl w.heap.size w).alloc (Nat.le_refl _) (.cells #[.slice none 0 0, .slice none 0 0] 193)
  have tR := Two.new w (.slice none 0 0) (.slice none 0 0) 193
  have HTR := Lib.hid tR
  clear cP hN hD tR
  go_enter Tryz.func245, Tryz.ntmps245
  go_wp2_with fail
  refine (CP.out _).mono ?_
  rintro e w' ⟨rfl, rfl⟩
  go_wp2_with fail
  refine (CF.out _).mono ?_
  rintro e w1 ⟨v1, rfl, o1, n1⟩
  obtain ⟨A1, c1, rfl, e1⟩ := o1.slice_
  have Q1 := Lib.hid o1.rd
  have tR := HTR.out.below n1
  have hB := hbA.trans (n1.mono hbA.size)
  clear o1 n1 HTR
  go_wp2_with fail
  refine (CO.out _).mono ?_
  rintro e w2 ⟨v2, rfl, o2, n2⟩
  obtain ⟨A2, c2, rfl, e2⟩ := o2.slice_
  have HF := Lib.hid (show Frac w2 (.agg #[.slice A1 (dig B32 M).length c1, .slice A2 (dig B32 1).length c2]) M 1 from ⟨A1, A2, c1, c2, rfl, e1, e2, Q1.out.below n2, o2.rd⟩)
  have tR := tR.below n2
  have hB := hB.trans (n2.mono hB.size)
  clear o2 n2 Q1
  go_wp2_with fail
  refine (CT.out _ _ HF.out).mono ?_
  rintro e w3 ⟨⟨v3, rfl, A3, A4, c3, c4, rfl, e3, e4, q3, q4⟩, n3⟩
  obtain ⟨r0, r1, y0, y1, yl⟩ := (tR.below n3).facts
  have hB := hB.trans (n3.mono hB.size)
  have Q3 := Lib.hid q3
  have Q4 := Lib.hid q4
  clear n3 tR HF q3 q4
  go_wp2
  have k1 : (w3.setCell ⟨w.heap.size, 0, none⟩ (.slice A3 (dig B32 N).length c3)).cell? ⟨w.heap.size, 1, none⟩ = some (.slice none 0 0) := by
    rw [World.cell?_setCell_other _ _ _ _ (fun e => by cases e)]
    exact r1
  have hBz := (hB.setCell (p := ⟨w.heap.size, 0, none⟩) (Nat.le_refl _) (.slice A3 (dig B32 N).length c3)).setCell (p := ⟨w.heap.size, 1, none⟩) (Nat.le_refl _) (.slice A4 (dig B32 D).length c4)
  exact bodyPost_ret (v := .tuple #[.agg #[.slice A3 (dig B32 N).length c3, .slice A4 (dig B32 D).length c4], .bool f]) (by simp [results, Tryz.results245, go_sem, r0, r1]) rfl ⟨⟨_, rfl, A3, A4, c3, c4, rfl, e3, e4, (Q3.out.other r0 (fun z e => by cases e) _).other k1 (fun z e => by cases e) _, (Q4.out.other r0 (fun z e => by cases e) _).other k1 (fun z e => by cases e) _⟩, hBz⟩
theorem amount_yes (b : Nat) (w : World) (hb : b < 18446744073709551616) (h : mag b < 9218868437227405312) : Calls Tryz.prog 245 #[.float .f64 b] w (AmEnd w (amN (mag b)) (amD (mag b)) true) :=
  amount_core b (manF (mag b)) (expF (mag b)) true w manF_lt (expF_bd h).1 (expF_bd h).2 (fun W => parts_yes b W hb h)
end Go.Proofs.YtddfigbpckhfbaaGreatDoor

namespace Go.Proofs.YtddfigbpckhfbaaGreatDoor
open Go.RowKit Go.Lib

theorem ten_lt (k b : Nat) (h : 4 * k < 32 * b) : 10 ^ k < B32 ^ b := by
  have h1 : 10 ^ k ≤ (2 ^ 4) ^ k := Nat.pow_le_pow_left (by decide) _
  rw [← Nat.pow_mul] at h1
  exact Nat.lt_of_le_of_lt h1 (two_lt _ _ h)
theorem amN_room {r : Nat} (h : r < 9218868437227405312) : amN r < B32 ^ 33 := by
  have h1 := expF_bd h
  have h2 : manF r * 2 ^ (expF r).toNat < 2 ^ 53 * 2 ^ (expF r).toNat := Nat.mul_lt_mul_of_pos_right manF_lt (Nat.pow_pos (by omega))
  rw [← Nat.pow_add] at h2
  exact Nat.lt_trans h2 (two_lt _ _ (by omega))
theorem amD_room {r : Nat} (h : r < 9218868437227405312) : amD r < B32 ^ 34 := two_lt _ _ (by have := expF_bd h; omega)
theorem prod_room {a b p q n : Nat} (ha : a < B32 ^ p) (hb : b < B32 ^ q) (h : p + q ≤ n) : a * b < B32 ^ n := by
  have h1 : a * b < B32 ^ p * B32 ^ q := Nat.mul_lt_mul'' ha hb
  rw [← Nat.pow_add] at h1
  exact Nat.lt_of_lt_of_le h1 (Nat.pow_le_pow_right (by decide) h)
theorem decs_len {n k : Nat} (h : n < 10 ^ k) (hk : 1 ≤ k) : 1 ≤ (decs n).length ∧ (decs n).length ≤ k := by
  unfold decs
  split
  · exact ⟨Nat.le_refl _, hk⟩
  · rename_i h0
    rw [List.length_map, List.length_reverse]
    refine ⟨?_, (dig_len_le (by decide) n k).2 h⟩
    rcases Nat.eq_zero_or_pos (dig 10 n).length with e | e
    · exact absurd (dig_nil (by decide) (List.eq_nil_of_length_eq_zero e)) h0
    · exact e
theorem decs_room {n b : Nat} (h : n < B32 ^ b) (hb : 1 ≤ b) : 1 ≤ (decs n).length ∧ (decs n).length ≤ 10 * b := by
  have h1 : B32 ^ b ≤ (10 ^ 10) ^ b := Nat.pow_le_pow_left (by decide) _
  rw [← Nat.pow_mul] at h1
  exact decs_len (Nat.lt_of_lt_of_le h h1) (by omega)
/-- Digits with as many noughts ahead that one stands ahead of the point. -/
def padT (d : List UInt8) (p : Nat) : List UInt8 := List.replicate (p + 1 - d.length) 48 ++ d
/-- The text with p digits behind the point. -/
def fixT (d : List UInt8) (p : Nat) : List UInt8 := if p = 0 then d else (padT d p).take ((padT d p).length - p) ++ 46 :: (padT d p).drop ((padT d p).length - p)
set_option maxRecDepth 100000 in
set_option maxHeartbeats 2000000 in
theorem fixed_yes (b p : Nat) (w : World) (hb : b < 18446744073709551616) (h : mag b < 9218868437227405312) (hp : p ≤ 200) : Calls Tryz.prog 219 #[.float .f64 b, .int .i64 p] w fun e w' => e = .returned (.tuple #[.string ⟨(fixT (decs (rnd (amN (mag b) * 10 ^ p) (amD (mag b)))) p).toArray⟩, .int .i64 0]) ∧ Below w.heap.size w w' := by
  have CA := Lib.hid (amount_yes b w hb h)
  have CF := Lib.hid (fun (W : World) => fits_yes (p : Nat) W (by omega) (by omega))
  have hN := amN_room h
  have hD := amD_room h
  have hD0 := amD_pos (mag b)
  obtain ⟨N, hNe⟩ : ∃ N, amN (mag b) = N := ⟨_, rfl⟩
  obtain ⟨D, hDe⟩ : ∃ D, amD (mag b) = D := ⟨_, rfl⟩
  rw [hNe] at CA hN
  rw [hDe] at CA hD hD0
  rw [hNe, hDe]
  have h10 : 10 ^ p < B32 ^ 26 := ten_lt _ _ (by omega)
  have hpow : ∀ a c, a ≤ c → B32 ^ a ≤ B32 ^ c := fun a c hac => Nat.pow_le_pow_right (by decide) hac
  have hNT : N * 10 ^ p < B32 ^ 59 := prod_room hN h10 (by omega)
  have CT := Lib.hid (fun (W : World) (v : Value) (hf : Frac W v N D) => timesTen_up N D p v W (by omega) (Nat.lt_of_lt_of_le h10 (hpow _ _ (by omega))) (Nat.lt_of_lt_of_le hN (hpow _ _ (by omega))) (Nat.lt_of_lt_of_le hNT (hpow _ _ (by omega))) hf)
  have cG := fun (W : World) (v : Value) (hf : Frac W v (N * 10 ^ p) D) => digits_any (N * 10 ^ p) D v W (Nat.lt_of_lt_of_le hNT (hpow _ _ (by omega))) (Nat.lt_of_lt_of_le hD (hpow _ _ (by omega))) hD0 hf
  have hq : rnd (N * 10 ^ p) D < B32 ^ 60 := by
    have h1 := rnd_le (N * 10 ^ p) D
    have h2 := Nat.div_le_self (N * 10 ^ p) D
    have h3 : B32 ^ 59 * 2 ≤ B32 ^ 60 := by rw [Nat.pow_succ]; exact Nat.mul_le_mul_left _ (by decide)
    omega
  obtain ⟨hl1, hl2⟩ := decs_room hq (by omega)
  obtain ⟨M, hM⟩ : ∃ M, N * 10 ^ p = M := ⟨_, rfl⟩
  rw [hM] at CT cG hl1 hl2
  rw [hM]
  obtain ⟨d, hd⟩ : ∃ d, decs (rnd M D) = d := ⟨_, rfl⟩
  rw [hd] at cG hl1 hl2
  rw [hd]
  have CG := Lib.hid cG
  clear cG hN hD hD0 hNe hDe h10 hpow hNT hq hM hd hb h
  by_cases hp0 : p = 0
  · have HX := Lib.hid (show fixT d p = d by rw [fixT, if_pos hp0])
    have hpb : ((p : Int) == 0) = true := by rw [beq_iff_eq]; omega
    clear hp0
    go_enter Tryz.func219, Tryz.ntmps219
    go_wp2_with fail
    refine CA.out.mono ?_
    rintro e w1 ⟨⟨v, rfl, Ao, Au, co, cu, rfl, e1, e2, q1, q2⟩, hB⟩
    have hb1 := (Below.refl w1.heap.size w1).alloc (Nat.le_refl _) (.cells #[.slice Ao (dig B32 N).length co, .slice Au (dig B32 D).length cu] 193)
    have HF := Lib.hid (show Frac (w1.alloc (.cells #[.slice Ao (dig B32 N).length co, .slice Au (dig B32 D).length cu] 193)) (.agg #[.slice Ao (dig B32 N).length co, .slice Au (dig B32 D).length cu]) N D from ⟨Ao, Au, co, cu, rfl, e1, e2, q1.below hb1, q2.below hb1⟩)
    have hB := hB.trans (hb1.mono hB.size)
    clear q1 q2 hb1
    go_wp2_with fail
    refine (CF.out _).mono ?_
    rintro e w' ⟨rfl, rfl⟩
    go_wp2_with fail
    refine (CT.out _ _ HF.out).mono ?_
    rintro e w2 ⟨⟨v2, rfl, hf2⟩, hn⟩
    have hB := hB.trans (hn.mono hB.size)
    have HF2 := Lib.hid hf2
    obtain ⟨A2, A3, c2, c3, rfl, _⟩ := hf2
    clear hn
    go_wp2_with fail
    refine (CG.out _ _ HF2.out).mono ?_
    rintro e w3 ⟨rfl, hn⟩
    have hB := hB.trans (hn.mono hB.size)
    clear hn
    go_wp2
    go_ret2
    exact ⟨by rw [HX.out]; rfl, hB⟩
  · have hp1 : 1 ≤ p := by omega
    have hpb : ((p : Int) == 0) = false := by rw [beq_eq_false_iff_ne]; omega
    obtain ⟨S, hS⟩ : ∃ S : ByteArray, (⟨d.toArray⟩ : ByteArray) = S := ⟨_, rfl⟩
    have hSl : S.data.toList = d := by rw [← hS]
    have hSz : S.size = d.length := by rw [← ba_len, hSl]
    have cG := CG.out
    rw [hS] at cG
    have CG := Lib.hid cG
    obtain ⟨z, hz⟩ : ∃ z, p + 1 - S.size = z := ⟨_, rfl⟩
    have hmx : max (0 : Int) ((p : Int) + 1 - (S.size : Int)) = (z : Int) := by omega
    have cR := fun (W : World) => Tryz.strings_Repeat ⟨#[48]⟩ z W (by omega) (by show 1 * z ≤ _; omega)
    replace cR : ∀ W : World, Calls Tryz.prog 236 #[.string ⟨#[48]⟩, .int .i64 z] W fun e w' => e = .returned (.string ⟨(Lib.repeatL [48] z).toArray⟩) ∧ Below W.heap.size W w' := cR
    obtain ⟨Z, hZ⟩ : ∃ Z : ByteArray, (⟨(Lib.repeatL [48] z).toArray⟩ : ByteArray) = Z := ⟨_, rfl⟩
    have hZl : Z.data.toList = List.replicate z 48 := by rw [← hZ, ← repeat_zero]
    have hZs : Z.size = z := by rw [← ba_len, hZl, List.length_replicate]
    rw [hZ] at cR
    have CR := Lib.hid cR
    obtain ⟨P, hP⟩ : ∃ P : ByteArray, Z ++ S = P := ⟨_, rfl⟩
    have hPl : P.data.toList = padT d p := by rw [← hP, ByteArray.data_append, Array.toList_append, hZl, hSl, padT, ← hz, hSz]
    have hPs : P.size = z + S.size := by rw [← hP, ByteArray.size_append, hZs]
    obtain ⟨q, hq⟩ : ∃ q, P.size - p = q := ⟨_, rfl⟩
    have hqi : (P.size : Int) - (p : Int) = (q : Int) := by omega
    have hqP : q ≤ P.size := by omega
    have HE := Lib.hid (show P.extract 0 q ++ ⟨#[46]⟩ ++ P.extract q P.size = ⟨(fixT d p).toArray⟩ by
      apply ByteArray.ext
      apply Array.ext'
      rw [ByteArray.data_append, ByteArray.data_append, Array.toList_append, Array.toList_append, Lib.extract_data, Lib.extract_data, hPl, fixT, if_neg hp0]
      have hl : (padT d p).length = P.size := by rw [← hPl, ba_len]
      rw [hl, hq, List.drop_zero, Nat.sub_zero, List.take_of_length_le (l := (padT d p).drop q) (by rw [List.length_drop, hl]; exact Nat.le_refl _)]
      simp)
    have hx1 : (P.extract 0 q).size = q := by rw [ByteArray.size_extract]; omega
    have hx2 : (P.extract q P.size).size = P.size - q := by rw [ByteArray.size_extract]; omega
    have hSb : S.size ≤ 600 := by omega
    have hZb : Z.size ≤ 300 := by omega
    have hPb : P.size ≤ 900 := by omega
    have hx1b : (P.extract 0 q).size ≤ 900 := by omega
    have hx2b : (P.extract q P.size).size ≤ 900 := by omega
    clear hS hSl hSz cG hz cR hZ hZl hZs hPl hPs hq hx1 hx2 hp0
    go_enter Tryz.func219, Tryz.ntmps219
    go_wp2_with fail
    refine CA.out.mono ?_
    rintro e w1 ⟨⟨v, rfl, Ao, Au, co, cu, rfl, e1, e2, q1, q2⟩, hB⟩
    have hb1 := (Below.refl w1.heap.size w1).alloc (Nat.le_refl _) (.cells #[.slice Ao (dig B32 N).length co, .slice Au (dig B32 D).length cu] 193)
    have HF := Lib.hid (show Frac (w1.alloc (.cells #[.slice Ao (dig B32 N).length co, .slice Au (dig B32 D).length cu] 193)) (.agg #[.slice Ao (dig B32 N).length co, .slice Au (dig B32 D).length cu]) N D from ⟨Ao, Au, co, cu, rfl, e1, e2, q1.below hb1, q2.below hb1⟩)
    have hB := hB.trans (hb1.mono hB.size)
    clear q1 q2 hb1
    go_wp2_with fail
    refine (CF.out _).mono ?_
    rintro e w' ⟨rfl, rfl⟩
    go_wp2_with fail
    refine (CT.out _ _ HF.out).mono ?_
    rintro e w2 ⟨⟨v2, rfl, hf2⟩, hn⟩
    have hB := hB.trans (hn.mono hB.size)
    have HF2 := Lib.hid hf2
    obtain ⟨A2, A3, c2, c3, rfl, _⟩ := hf2
    clear hn
    go_wp2_with fail
    refine (CG.out _ _ HF2.out).mono ?_
    rintro e w3 ⟨rfl, hn⟩
    have hB := hB.trans (hn.mono hB.size)
    clear hn
    go_wp2_with fail
    refine (CR.out _).mono ?_
    rintro e w4 ⟨rfl, hn⟩
    have hB := hB.trans (hn.mono hB.size)
    clear hn hmx
    go_wp2
    go_quiet (fail)
    go_wp2
    go_ret2
    exact ⟨by rw [← HE.out]; rfl, below_drewN hB _⟩
end Go.Proofs.YtddfigbpckhfbaaGreatDoor

namespace Go.Proofs.YtddfigbpckhfbaaGreatDoor
/-- What the program takes for the power of ten in 2 to the k, as a function. -/
def tenP (k : Int) : Int := k * 78913 / 262144
def mulC (k : Int) : Nat := (floatBits .mul .f64 (floatOfInt .f64 k) 4599094494223104511).getD 0
def flo (x : Nat) : Nat := FloatKind.f64.encode ((FloatKind.f64.decode x).integral .down)
def isNum : Ieee.Datum → Bool | .number .. => true | _ => false
def okT (k : Int) : Bool :=
  floatBits .mul .f64 (floatOfInt .f64 k) 4599094494223104511 == some (mulC k) && isNum (FloatKind.f64.decode (mulC k)) && floatToIntVal .f64 (flo (mulC k)) .i64 == some (tenP k)
set_option maxRecDepth 100000 in
theorem okT_all : (List.range 2201).all (fun i => okT ((i : Int) - 1100)) = true := by decide +kernel
def okP (i : Nat) : Bool :=
  decide (10 ^ (tenP (i : Int)).toNat ≤ 2 ^ i) && decide (2 ^ i < 10 ^ ((tenP (i : Int)).toNat + 1)) && decide (0 ≤ tenP (i : Int))
theorem okP_all : (List.range 1101).all okP = true := by decide +kernel
/-- Below one: 10 ^ -p is not below 2 ^ -k, and 10 ^ (-p - 1) is below it. -/
def okN (i : Nat) : Bool :=
  i == 0 || (decide (2 ^ i ≤ 10 ^ (-(tenP (-(i : Int)))).toNat) && decide (10 ^ ((-(tenP (-(i : Int)))).toNat - 1) < 2 ^ i) && decide (tenP (-(i : Int)) < 0))
theorem okN_all : (List.range 1101).all okN = true := by decide +kernel
theorem okT_at {k : Int} (h0 : -1100 ≤ k) (h1 : k ≤ 1100) : okT k = true := by
  have h := List.all_eq_true.1 okT_all (k + 1100).toNat (List.mem_range.2 (by omega))
  rwa [show (((k + 1100).toNat : Nat) : Int) - 1100 = k by omega] at h
theorem mulC_of {k : Int} (h0 : -1100 ≤ k) (h1 : k ≤ 1100) : floatBits .mul .f64 (floatOfInt .f64 k) 4599094494223104511 = some (mulC k) := by
  have h := okT_at h0 h1
  simp only [okT, Bool.and_eq_true, beq_iff_eq] at h
  exact h.1.1
theorem mulC_num {k : Int} (h0 : -1100 ≤ k) (h1 : k ≤ 1100) : isNum (FloatKind.f64.decode (mulC k)) = true := by
  have h := okT_at h0 h1
  simp only [okT, Bool.and_eq_true, beq_iff_eq] at h
  exact h.1.2
theorem flo_int {k : Int} (h0 : -1100 ≤ k) (h1 : k ≤ 1100) : floatToIntVal .f64 (flo (mulC k)) .i64 = some (tenP k) := by
  have h := okT_at h0 h1
  simp only [okT, Bool.and_eq_true, beq_iff_eq] at h
  exact h.2
/-- Not below one: the power of ten is not above 2 to the k, and the next one is. -/
theorem tenP_up {i : Nat} (h : i ≤ 1100) : ∃ p : Nat, tenP (i : Int) = (p : Int) ∧ 10 ^ p ≤ 2 ^ i ∧ 2 ^ i < 10 ^ (p + 1) := by
  have h := List.all_eq_true.1 okP_all i (List.mem_range.2 (by omega))
  simp only [okP, Bool.and_eq_true, decide_eq_true_eq] at h
  exact ⟨(tenP (i : Int)).toNat, by omega, h.1.1, h.1.2⟩
/-- Below one: with p + 1 for the power's opposite. -/
theorem tenP_down {i : Nat} (h0 : i ≠ 0) (h : i ≤ 1100) : ∃ p : Nat, tenP (-(i : Int)) = -((p + 1 : Nat) : Int) ∧ 2 ^ i ≤ 10 ^ (p + 1) ∧ 10 ^ p < 2 ^ i := by
  have h := List.all_eq_true.1 okN_all i (List.mem_range.2 (by omega))
  simp only [okN, Bool.and_eq_true, Bool.or_eq_true, beq_iff_eq, decide_eq_true_eq] at h
  rcases h with h | h
  · exact absurd h h0
  · obtain ⟨p, hp⟩ : ∃ p : Nat, (-(tenP (-(i : Int)))).toNat = p + 1 := ⟨(-(tenP (-(i : Int)))).toNat - 1, by omega⟩
    have h1 := h.1.1
    have h2 := h.1.2
    rw [hp] at h1 h2
    exact ⟨p, by omega, h1, h2⟩
end Go.Proofs.YtddfigbpckhfbaaGreatDoor

namespace Go.Proofs.YtddfigbpckhfbaaGreatDoor
open Go.RowKit Go.Lib

attribute [local irreducible] FloatKind.decode in
theorem floor_step (x : Nat) (s : Bool) (m : Nat) (p : Int) (hd : FloatKind.f64.decode x = .number s m p) : Extern.MathFloor.toIntegral "math.archFloor" .down #[.float .f64 x] = pure (.float .f64 (flo x)) := by
  unfold flo
  conv => lhs; whnf
  rw [hd]
theorem run_floor (x : Nat) (W : World) (h : isNum (FloatKind.f64.decode x) = true) : (callFunc 295 #[.float .f64 x]).run Tryz.prog W = .ok (.value (.float .f64 (flo x))) W := by
  rw [run_callFunc_extern Tryz.func295 (by kernel_rfl) (by kernel_rfl) (by kernel_rfl) (e := Extern.MathFloor.toIntegral "math.archFloor" .down) (by kernel_rfl)]
  cases hd : FloatKind.f64.decode x with
  | number s m p => rw [floor_step x s m p hd]; rfl
  | infinity s => rw [hd] at h; cases h
  | nan s t => rw [hd] at h; cases h
theorem floor_any (x : Nat) (w : World) (h : isNum (FloatKind.f64.decode x) = true) : Calls Tryz.prog 287 #[.float .f64 x] w fun e w' => e = .returned (.float .f64 (flo x)) ∧ w = w' := by
  have h1 := fun W => run_floor x W h
  go_enter Tryz.func287, Tryz.ntmps287
  go_wp2
  go_ret
  exact ⟨rfl, rfl⟩
theorem tens_any (k : Int) (w : World) (h0 : -1100 ≤ k) (h1 : k ≤ 1100) : Calls Tryz.prog 273 #[.int .i64 k] w fun e w' => e = .returned (.int .i64 (tenP k)) ∧ w = w' := by
  have CF := Lib.hid (floor_any (mulC k) w (mulC_num h0 h1))
  have hm : ∀ t W, (binOp .mul t (.float .f64 (floatOfInt .f64 k)) (.float .f64 4599094494223104511)).run Tryz.prog W = .ok (.float .f64 (mulC k)) W := fun t W => run_float_arith W .mul t .f64 _ _ _ (mulC_of h0 h1)
  have hc : ∀ W, (convert 24 3 (.float .f64 (flo (mulC k)))).run Tryz.prog W = .ok (.int .i64 (tenP k)) W := fun W => run_convert_float_int W 24 3 .f64 .i64 _ _ (by rw [Tryz.underlying24]; rfl) Tryz.underlying3 (flo_int h0 h1)
  go_enter Tryz.func273, Tryz.ntmps273
  go_wp2_with (simp only [hm])
  refine CF.out.mono ?_
  rintro e w' ⟨rfl, rfl⟩
  go_wp2_with fail
  go_ret
  exact ⟨rfl, rfl⟩
end Go.Proofs.YtddfigbpckhfbaaGreatDoor

namespace Go.Proofs.YtddfigbpckhfbaaGreatDoor
open Go.RowKit Go.Lib

theorem zero_read {b : Nat} (h : mag b = 0) : (FloatKind.f64.format.order b 0 == some .eq) = true := by
  show (Ieee.double.order b 0 == some .eq) = true
  unfold Ieee.Format.order
  rw [read_fin (b := b) (by omega), h, show Ieee.double.read 0 = .number false 0 (-1074) by decide]
  generalize (b / 9223372036854775808 % 2 == 1) = s
  cases s <;> decide
set_option maxRecDepth 100000 in
set_option maxHeartbeats 1000000 in
theorem sci_zero (b p : Nat) (w : World) (hb : b < 18446744073709551616) (h : mag b = 0) (hp : p ≤ 200) : Calls Tryz.prog 251 #[.float .f64 b, .int .i64 p] w fun e w' => e = .returned (.tuple #[.string ⟨(List.replicate (p + 1) (48 : UInt8)).toArray⟩, .int .i64 0, .int .i64 0]) ∧ Below w.heap.size w w' := by
  have CA := Lib.hid (amount_yes b w hb (by omega))
  have CF := Lib.hid (fun (W : World) => fits_yes (p : Nat) W (by omega) (by omega))
  have hz := zero_read h
  have cR := fun (W : World) => Tryz.strings_Repeat ⟨#[48]⟩ (p + 1) W (by omega) (by show 1 * (p + 1) ≤ _; omega)
  replace cR : ∀ W : World, Calls Tryz.prog 236 #[.string ⟨#[48]⟩, .int .i64 ((p + 1 : Nat) : Int)] W fun e w' => e = .returned (.string ⟨(Lib.repeatL [48] (p + 1)).toArray⟩) ∧ Below W.heap.size W w' := cR
  rw [repeat_zero] at cR
  rw [show ((p + 1 : Nat) : Int) = (p : Int) + 1 by omega] at cR
  have CR := Lib.hid cR
  obtain ⟨Z, hZ⟩ : ∃ Z : ByteArray, (⟨(List.replicate (p + 1) (48 : UInt8)).toArray⟩ : ByteArray) = Z := ⟨_, rfl⟩
  clear cR
  rw [hZ] at CR ⊢
  obtain ⟨N, hNe⟩ : ∃ N, amN (mag b) = N := ⟨_, rfl⟩
  obtain ⟨D, hDe⟩ : ∃ D, amD (mag b) = D := ⟨_, rfl⟩
  rw [hNe, hDe] at CA
  clear hZ hNe hDe h hb
  go_enter Tryz.func251, Tryz.ntmps251
  go_wp2_with fail
  refine CA.out.mono ?_
  rintro e w1 ⟨⟨v, rfl, Ao, Au, co, cu, rfl, e1, e2, q1, q2⟩, hB⟩
  clear q1 q2
  have hB := hB.alloc hB.size (.cells #[.slice Ao (dig B32 N).length co, .slice Au (dig B32 D).length cu] 193)
  go_wp2_with fail
  refine (CF.out _).mono ?_
  rintro e w' ⟨rfl, rfl⟩
  go_wp2_with fail
  refine (CR.out _).mono ?_
  rintro e w4 ⟨rfl, hn⟩
  have hB := hB.trans (hn.mono hB.size)
  clear hn
  go_wp2
  go_ret3
  exact ⟨rfl, hB⟩
end Go.Proofs.YtddfigbpckhfbaaGreatDoor

namespace Go.Proofs.YtddfigbpckhfbaaGreatDoor
open Go.RowKit Go.Lib

theorem timesTen_any (N D : Nat) (k : Int) (v : Value) (w : World) (h0 : -600 ≤ k) (h1 : k ≤ 600) (hN : N < B32 ^ 34) (hD : D < B32 ^ 34) (hf : Frac w v N D) :
    Calls Tryz.prog 157 #[v, .int .i64 k] w fun e w' => (∃ v', e = .returned v' ∧ Frac w' v' (N * 10 ^ k.toNat) (D * 10 ^ (-k).toNat)) ∧ Below w.heap.size w w' := by
  have hpow : ∀ a, a ≤ 256 → B32 ^ a ≤ B32 ^ 256 := fun a ha => Nat.pow_le_pow_right (by decide) ha
  have h10 : ∀ a, a ≤ 600 → 10 ^ a < B32 ^ 76 := fun a ha => ten_lt _ _ (by omega)
  by_cases h : 0 ≤ k
  · obtain ⟨n, rfl⟩ : ∃ n : Nat, k = (n : Int) := ⟨k.toNat, by omega⟩
    have e1 : ((n : Int)).toNat = n := by omega
    have e2 : (-(n : Int)).toNat = 0 := by omega
    rw [e1, e2, Nat.pow_zero, Nat.mul_one]
    have hn := h10 n (by omega)
    exact timesTen_up N D n v w (by omega) (Nat.lt_of_lt_of_le hn (hpow _ (by omega))) (Nat.lt_of_lt_of_le hN (hpow _ (by omega))) (Nat.lt_of_lt_of_le (prod_room hN hn (n := 110) (by omega)) (hpow _ (by omega))) hf
  · obtain ⟨n, rfl⟩ : ∃ n : Nat, k = -(n : Int) := ⟨(-k).toNat, by omega⟩
    have e1 : (-(n : Int)).toNat = 0 := by omega
    have e2 : (-(-(n : Int))).toNat = n := by omega
    rw [e1, e2, Nat.pow_zero, Nat.mul_one]
    have hn := h10 n (by omega)
    exact timesTen_down N D n v w (by omega) (by omega) (Nat.lt_of_lt_of_le hn (hpow _ (by omega))) (Nat.lt_of_lt_of_le hD (hpow _ (by omega))) (Nat.lt_of_lt_of_le (prod_room hD hn (n := 110) (by omega)) (hpow _ (by omega))) hf
/-- The digits of N / D times 10 to the p, less 10 to the P. -/
def sciD (N D : Nat) (k : Int) : List UInt8 := decs (rnd (N * 10 ^ k.toNat) (D * 10 ^ (-k).toNat))
theorem sci_digits (N D : Nat) (k : Int) (v : Value) (w : World) (h0 : -600 ≤ k) (h1 : k ≤ 600) (hN : N < B32 ^ 34) (hD : D < B32 ^ 34) (hD0 : 0 < D) (hf : Frac w v (N * 10 ^ k.toNat) (D * 10 ^ (-k).toNat)) :
    Calls Tryz.prog 247 #[v] w fun e w' => e = .returned (.string ⟨(sciD N D k).toArray⟩) ∧ Below w.heap.size w w' := by
  have hpow : ∀ a, a ≤ 255 → B32 ^ a ≤ B32 ^ 255 := fun a ha => Nat.pow_le_pow_right (by decide) ha
  have h10 : ∀ a, a ≤ 600 → 10 ^ a < B32 ^ 76 := fun a ha => ten_lt _ _ (by omega)
  exact digits_any _ _ v w (Nat.lt_of_lt_of_le (prod_room hN (h10 _ (by omega)) (n := 110) (by omega)) (hpow _ (by omega))) (Nat.lt_of_lt_of_le (prod_room hD (h10 _ (by omega)) (n := 110) (by omega)) (hpow _ (by omega))) (Nat.mul_pos hD0 (Nat.pow_pos (by omega))) hf
end Go.Proofs.YtddfigbpckhfbaaGreatDoor

namespace Go.Proofs.YtddfigbpckhfbaaGreatDoor
open Go.RowKit Go.Lib

theorem rnd_short {A B p : Nat} (hB : 0 < B) (h : 5 * A < 10 ^ p * B) : (decs (rnd A B)).length ≤ p + 1 := by
  have h1 := rnd_le A B
  have h2 : A / B < 10 ^ p := (Nat.div_lt_iff_lt_mul hB).2 (by generalize 10 ^ p * B = C at h ⊢; omega)
  have h3 : rnd A B < 10 ^ (p + 1) := by rw [Nat.pow_succ]; generalize A / B = Q at h1 h2; generalize 10 ^ p = T at h2 ⊢; omega
  exact (decs_len h3 (by omega)).2
theorem sci_stop (N m bN p : Nat) (hN : N < 2 ^ bN) (h0 : -1100 ≤ (bN : Int) - ((m + 1 : Nat) : Int)) (h1 : (bN : Int) - ((m + 1 : Nat) : Int) ≤ 1100) :
    (sciD N (2 ^ m) ((p : Int) - (tenP ((bN : Int) - ((m + 1 : Nat) : Int)) + 2))).length ≤ p + 1 := by
  have hm : 0 < 2 ^ m := Nat.pow_pos (by omega)
  unfold sciD
  refine rnd_short (Nat.mul_pos hm (Nat.pow_pos (by omega))) ?_
  by_cases hk : m + 1 ≤ bN
  · obtain ⟨i, hi⟩ : ∃ i, bN = m + 1 + i := ⟨bN - (m + 1), by omega⟩
    rw [show (bN : Int) - ((m + 1 : Nat) : Int) = (i : Int) by omega] at h0 h1 ⊢
    obtain ⟨q, hq, -, hlt⟩ := tenP_up (i := i) (by omega)
    rw [hq]
    have hN2 : 5 * N < 10 ^ (q + 2) * 2 ^ m := by
      have e : 2 ^ bN = 2 ^ m * 2 * 2 ^ i := by rw [hi, Nat.pow_add, Nat.pow_succ]
      rw [e] at hN
      have e2 : 2 ^ m * 2 * 2 ^ i ≤ 2 ^ m * 2 * 10 ^ (q + 1) := Nat.mul_le_mul_left _ (Nat.le_of_lt hlt)
      have e3 : 10 ^ (q + 2) * 2 ^ m = 5 * (2 ^ m * 2 * 10 ^ (q + 1)) := by rw [Nat.pow_succ 10 (q + 1)]; rw [Nat.mul_right_comm (10 ^ (q + 1)) 10, Nat.mul_right_comm (2 ^ m) 2, Nat.mul_comm (2 ^ m) (10 ^ (q + 1))]; generalize 10 ^ (q + 1) * 2 ^ m = Z; omega
      rw [e3]
      generalize 2 ^ m * 2 * 10 ^ (q + 1) = Z at e2 ⊢
      generalize 2 ^ m * 2 * 2 ^ i = Y at e2 hN
      omega
    by_cases hp : q + 2 ≤ p
    · rw [show ((p : Int) - ((q : Int) + 2)).toNat = p - (q + 2) by omega, show (-((p : Int) - ((q : Int) + 2))).toNat = 0 by omega, Nat.pow_zero, Nat.mul_one]
      have e : 10 ^ p = 10 ^ (q + 2) * 10 ^ (p - (q + 2)) := by rw [← Nat.pow_add]; congr 1; omega
      rw [e, Nat.mul_right_comm (10 ^ (q + 2)), ← Nat.mul_assoc]
      exact Nat.mul_lt_mul_of_pos_right hN2 (Nat.pow_pos (by omega))
    · rw [show ((p : Int) - ((q : Int) + 2)).toNat = 0 by omega, show (-((p : Int) - ((q : Int) + 2))).toNat = q + 2 - p by omega, Nat.pow_zero, Nat.mul_one]
      have e : 10 ^ (q + 2) = 10 ^ p * 10 ^ (q + 2 - p) := by rw [← Nat.pow_add]; congr 1; omega
      rw [e, Nat.mul_assoc, Nat.mul_comm (10 ^ (q + 2 - p)) (2 ^ m)] at hN2
      exact hN2
  · obtain ⟨i, hi⟩ : ∃ i, m + 1 = bN + i := ⟨m + 1 - bN, by omega⟩
    rw [show (bN : Int) - ((m + 1 : Nat) : Int) = -(i : Int) by omega] at h0 h1 ⊢
    obtain ⟨q, hq, -, hlt⟩ := tenP_down (i := i) (by omega) (by omega)
    rw [hq]
    have hN2 : N * 10 ^ q < 2 ^ m * 2 := by
      have e : N * 2 ^ i < 2 ^ bN * 2 ^ i := Nat.mul_lt_mul_of_pos_right hN (Nat.pow_pos (by omega))
      rw [← Nat.pow_add, ← hi, Nat.pow_succ] at e
      exact Nat.lt_of_le_of_lt (Nat.mul_le_mul_left _ (Nat.le_of_lt hlt)) e
    by_cases hp : p + q = 0
    · obtain ⟨rfl, rfl⟩ : p = 0 ∧ q = 0 := by omega
      rw [show (((0 : Nat) : Int) - (-((0 + 1 : Nat) : Int) + 2)).toNat = 0 by omega, show (-(((0 : Nat) : Int) - (-((0 + 1 : Nat) : Int) + 2))).toNat = 1 by omega]
      simp only [Nat.pow_zero, Nat.mul_one, Nat.one_mul, Nat.pow_one] at hN2 ⊢
      omega
    · obtain ⟨r, hr⟩ : ∃ r, p + q = r + 1 := ⟨p + q - 1, by omega⟩
      rw [show ((p : Int) - (-((q + 1 : Nat) : Int) + 2)).toNat = r by omega, show (-((p : Int) - (-((q + 1 : Nat) : Int) + 2))).toNat = 0 by omega, Nat.pow_zero, Nat.mul_one]
      have e : N * 10 ^ q * 10 ^ p < 2 ^ m * 2 * 10 ^ p := Nat.mul_lt_mul_of_pos_right hN2 (Nat.pow_pos (by omega))
      rw [Nat.mul_assoc, ← Nat.pow_add, Nat.add_comm q p, hr, Nat.pow_succ, ← Nat.mul_assoc, Nat.mul_right_comm (2 ^ m) 2, Nat.mul_comm (2 ^ m) (10 ^ p)] at e
      generalize N * 10 ^ r = X at e ⊢
      generalize 10 ^ p * 2 ^ m = Y at e ⊢
      omega
end Go.Proofs.YtddfigbpckhfbaaGreatDoor

namespace Go.Proofs.YtddfigbpckhfbaaGreatDoor
open Go.RowKit Go.Lib

set_option maxRecDepth 100000 in
set_option maxHeartbeats 2000000 in
theorem sci_core (b p N D bN bD : Nat) (P0 : Int) (S : Nat → ByteArray) (w : World) (hp : p ≤ 200) (hP0 : -380 ≤ P0) (hP1 : P0 ≤ 380)
    (hz : (FloatKind.f64.format.order b 0 == some .eq) = false)
    (hN : N < B32 ^ 34) (hD : D < B32 ^ 34) (hD0 : 0 < D)
    (hS : ∀ j, S j = ⟨(sciD N D ((p : Int) - (P0 + (j : Int)))).toArray⟩) (hSz : ∀ j, (S j).size ≤ 2000) (hS2 : (S 2).size ≤ p + 1)
    (hbN : bitsN (dig B32 N) = bN) (hbD : bitsN (dig B32 D) = bD) (hbN1 : bN ≤ 5000) (hbD1 : bD ≤ 5000) (hNl : (dig B32 N).length ≤ 1000) (hDl : (dig B32 D).length ≤ 1000)
    (cA : Calls Tryz.prog 245 #[.float .f64 b] w (AmEnd w N D true))
    (cX : ∀ W, Calls Tryz.prog 273 #[.int .i64 ((bN : Int) - (bD : Int))] W fun e w' => e = .returned (.int .i64 P0) ∧ W = w') :
    Calls Tryz.prog 251 #[.float .f64 b, .int .i64 p] w fun e w' => (∃ j : Nat, (∀ i, i < j → p + 1 < (S i).size) ∧ (S j).size ≤ p + 1 ∧ e = .returned (.tuple #[.string (S j), .int .i64 (P0 + (j : Int)), .int .i64 0])) ∧ Below w.heap.size w w' := by
  have CA := Lib.hid cA
  have hwr : IntKind.i64.wrap ((bN : Int) - (bD : Int)) = (bN : Int) - (bD : Int) := IntWalk.i64_in _ (by omega)
  rw [← hwr] at cX
  have CX := Lib.hid cX
  clear hwr
  have CF := Lib.hid (fun (W : World) => fits_yes (p : Nat) W (by omega) (by omega))
  have CT := Lib.hid (fun (j : Nat) (hj : j ≤ 2) (W : World) (v : Value) (hf : Frac W v N D) => timesTen_any N D ((p : Int) - (P0 + (j : Int))) v W (by omega) (by omega) hN hD hf)
  have cG := fun (j : Nat) (hj : j ≤ 2) (W : World) (v : Value) (hf : Frac W v (N * 10 ^ ((p : Int) - (P0 + (j : Int))).toNat) (D * 10 ^ (-((p : Int) - (P0 + (j : Int)))).toNat)) => sci_digits N D ((p : Int) - (P0 + (j : Int))) v W (by omega) (by omega) hN hD hD0 hf
  simp only [← hS] at cG
  have CG := Lib.hid cG
  have cB := fun (W : World) (A : Option Addr) (c : Nat) (h : Rd .u32 W A (dig B32 N)) => bits_any A c (dig B32 N) W (lim_dig _) hNl h
  have cC := fun (W : World) (A : Option Addr) (c : Nat) (h : Rd .u32 W A (dig B32 D)) => bits_any A c (dig B32 D) W (lim_dig _) hDl h
  rw [hbN] at cB
  rw [hbD] at cC
  have CB := Lib.hid cB
  have CC := Lib.hid cC
  have HZ := Lib.hid hSz
  have HS2 := Lib.hid hS2
  clear cA cX cG cB cC hS hSz hS2 hN hD hD0 hbN hbD hNl hDl
  go_enter Tryz.func251, Tryz.ntmps251
  go_wp2_with fail
  refine CA.out.mono ?_
  rintro e w1 ⟨⟨v, rfl, Ao, Au, co, cu, rfl, e1, e2, q1, q2⟩, hB⟩
  have hb1 := (Below.refl w1.heap.size w1).alloc (Nat.le_refl _) (.cells #[.slice Ao (dig B32 N).length co, .slice Au (dig B32 D).length cu] 193)
  have t1 := Two.new w1 (.slice Ao (dig B32 N).length co) (.slice Au (dig B32 D).length cu) 193
  have HB := Lib.hid (hB.trans (hb1.mono hB.size))
  have hF : ∀ W, Below w1.heap.size w1 W → Frac W (.agg #[.slice Ao (dig B32 N).length co, .slice Au (dig B32 D).length cu]) N D := fun W h => ⟨Ao, Au, co, cu, rfl, e1, e2, q1.below h, q2.below h⟩
  have HF := Lib.hid hF
  have HQ1 := Lib.hid (q1.below hb1)
  have HQ2 := Lib.hid (q2.below hb1)
  have hsz : w1.heap.size ≤ (w1.alloc (.cells #[.slice Ao (dig B32 N).length co, .slice Au (dig B32 D).length cu] 193)).heap.size := by rw [World.size_alloc]; omega
  obtain ⟨W2, hW2⟩ : ∃ W2, w1.alloc (.cells #[.slice Ao (dig B32 N).length co, .slice Au (dig B32 D).length cu] 193) = W2 := ⟨_, rfl⟩
  rw [hW2] at HQ1 HQ2 t1 hb1 HB hsz
  have HW2 := Lib.hid hW2
  have HT := Lib.hid t1
  have Hb1 := Lib.hid hb1
  obtain ⟨f0, f1, z0, z1, fl⟩ := t1.facts
  clear q1 q2 hb1 t1 hB hF hW2
  go_wp2_with fail
  refine (CF.out _).mono ?_
  rintro e w' ⟨rfl, rfl⟩
  go_wp2_with fail
  rw [HW2.out]
  have hR := Below.refl W2.heap.size W2
  go_region_with (first
    | (go_at_call 158; (with_reducible refine (CB.out _ _ _ (HQ1.out.below hR.drew)).mono ?_); rintro e W3 ⟨rfl, h3⟩; have b3 : Below W2.heap.size W2 W3 := h3 ▸ hR.drew; obtain ⟨f0, f1, z0, z1, _⟩ := (HT.out.below b3).facts; clear h3)
    | (go_at_call 158; (with_reducible refine (CC.out _ _ _ (HQ2.out.below b3)).mono ?_); rintro e W4 ⟨rfl, h4⟩; have b4 : Below W2.heap.size W2 W4 := h4 ▸ b3; clear h4)
    | (go_at_call 273; (with_reducible refine (CX.out _).mono ?_); rintro e W5 ⟨rfl, h5⟩; have b5 : Below W2.heap.size W2 W5 := h5 ▸ b4; clear h5))
  all_goals
    clear hR f0 f1 z0 z1
    have HA := Lib.hid (HF.out _ (Hb1.out.trans (b5.mono hsz)))
    have CT0 := CT.out 0 (by omega)
    have CG0 := CG.out 0 (by omega)
    simp only [Int.natCast_zero, Int.add_zero] at CT0 CG0
    obtain ⟨f0, f1, z0, z1, _⟩ := (HT.out.below b5).facts
    have hk0 : IntKind.i64.wrap ((p : Int) - P0) = (p : Int) - P0 := IntWalk.i64_in _ (by omega)
    go_wp2_with fail
    refine (CT0 _ _ HA.out).mono ?_
    rintro e w6 ⟨⟨v6, rfl, hf6⟩, h6⟩
    have HF6 := Lib.hid hf6
    have b6 : Below W2.heap.size W2 w6 := b5.trans (h6.mono b5.size)
    obtain ⟨A2, A3, c2, c3, rfl, _⟩ := hf6
    go_wp2_with fail
    refine (CG0 _ _ HF6.out).mono ?_
    rintro e w7 ⟨rfl, h7⟩
    have b7 : Below W2.heap.size W2 w7 := b6.trans (h7.mono b6.size)
    clear h6 h7 b6 b5 b4 b3 f0 f1 z0 z1 hk0 CT0 CG0 HF6 HA
    go_wp2
    go_loopw [9, 10] (fun pw dg wr => ∃ j : Nat, j ≤ 2 ∧ pw = .int .i64 (P0 + (j : Int)) ∧ dg = .string (S j) ∧ (∀ i, i < j → p + 1 < (S i).size) ∧ Below W2.heap.size W2 wr) (fun pw _ _ => (P0 + 2 - RowKit.intOf pw).toNat)
    case atStart => exact ⟨0, by omega, by simp, rfl, fun i h => absurd h (Nat.not_lt_zero i), b7⟩
    case round =>
      obtain ⟨j, hj, rfl, rfl, hl, bw⟩ := hrel
      have hl := Lib.hid hl
      have hsj := HZ.out j
      by_cases hgt : p + 1 < (S j).size
      · have hj1 : j < 2 := by
          rcases Nat.lt_or_ge j 2 with h | h
          · exact h
          · obtain rfl : j = 2 := by omega
            have := HS2.out
            omega
        have HA := Lib.hid (HF.out _ (Hb1.out.trans (bw.mono hsz)))
        have CT1 := CT.out (j + 1) (by omega)
        have CG1 := CG.out (j + 1) (by omega)
        rw [show P0 + ((j + 1 : Nat) : Int) = P0 + (j : Int) + 1 by omega] at CT1 CG1
        obtain ⟨f0, f1, z0, z1, _⟩ := (HT.out.below bw).facts
        have hk1 : IntKind.i64.wrap ((p : Int) - (P0 + (j : Int) + 1)) = (p : Int) - (P0 + (j : Int) + 1) := IntWalk.i64_in _ (by omega)
        go_wp2_with fail
        refine (CT1 _ _ HA.out).mono ?_
        rintro e w8 ⟨⟨v8, rfl, hf8⟩, h8⟩
        have HF8 := Lib.hid hf8
        have b8 := bw.trans (h8.mono bw.size)
        obtain ⟨A4, A5, c4, c5, rfl, _⟩ := hf8
        go_wp2_with fail
        refine (CG1 _ _ HF8.out).mono ?_
        rintro e w9 ⟨rfl, h9⟩
        have b9 := b8.trans (h9.mono b8.size)
        clear h8 h9 b8
        go_wp2
        go_roundw
        case rel => exact ⟨j + 1, by omega, by go_num, rfl, fun i hi => by
          by_cases e : i = j
          · subst e; exact hgt
          · exact hl.out i (by omega), b9⟩
        case measure => simp [RowKit.intOf]; omega
      · go_wp2
        go_ret3
        exact ⟨⟨j, hl.out, by omega, rfl⟩, HB.out.trans (bw.mono HB.out.size)⟩
end Go.Proofs.YtddfigbpckhfbaaGreatDoor

namespace Go.Proofs.YtddfigbpckhfbaaGreatDoor

/-- What the float of rung r is, counted in the least one. -/
def V (r : Nat) : Nat := if r < 4503599627370496 then r else (4503599627370496 + r % 4503599627370496) * 2 ^ (r / 4503599627370496 - 1)
def U (r : Nat) : Nat := 2 ^ (r / 4503599627370496 - 1)
theorem U_pos (r : Nat) : 0 < U r := Nat.pow_pos (by omega)
theorem V_succ (r : Nat) : V (r + 1) = V r + U r := by
  unfold V U
  by_cases h : r + 1 < 4503599627370496
  · rw [if_pos h, if_pos (by omega), show r / 4503599627370496 - 1 = 0 by omega, Nat.pow_zero]
  · rw [if_neg h]
    by_cases h2 : r < 4503599627370496
    · obtain rfl : r = 4503599627370495 := by omega
      decide
    · rw [if_neg h2]
      by_cases h3 : (r + 1) % 4503599627370496 = 0
      · rw [h3, show (r + 1) / 4503599627370496 - 1 = r / 4503599627370496 - 1 + 1 by omega, Nat.pow_succ, show r % 4503599627370496 = 4503599627370495 by omega]
        generalize 2 ^ (r / 4503599627370496 - 1) = z
        omega
      · rw [show (r + 1) / 4503599627370496 = r / 4503599627370496 by omega, show (r + 1) % 4503599627370496 = r % 4503599627370496 + 1 by omega, ← Nat.add_assoc, Nat.succ_mul]
theorem V_lt {r s : Nat} (h : r < s) : V r < V s := by
  induction s with
  | zero => omega
  | succ s ih =>
    have h1 := V_succ s
    have h2 := U_pos s
    rcases Nat.lt_or_ge r s with h3 | h3
    · have := ih h3; omega
    · obtain rfl : r = s := by omega
      omega
theorem V_le {r s : Nat} (h : r ≤ s) : V r ≤ V s := by
  rcases Nat.lt_or_ge r s with h1 | h1
  · exact Nat.le_of_lt (V_lt h1)
  · obtain rfl : r = s := by omega
    exact Nat.le_refl _
theorem V_inj {r s : Nat} (h : V r = V s) : r = s := by
  rcases Nat.lt_trichotomy r s with h1 | h1 | h1
  · have := V_lt h1; omega
  · exact h1
  · have := V_lt h1; omega
theorem V_at (e m : Nat) (hm : m ≤ 9007199254740992) (h : e = 0 ∨ 4503599627370496 ≤ m) : V (e * 4503599627370496 + m) = m * 2 ^ e := by
  unfold V
  by_cases h1 : m = 9007199254740992
  · subst h1
    rw [if_neg (by omega), show (e * 4503599627370496 + 9007199254740992) % 4503599627370496 = 0 by omega, show (e * 4503599627370496 + 9007199254740992) / 4503599627370496 - 1 = e + 1 by omega, Nat.pow_succ]
    generalize 2 ^ e = z
    omega
  · by_cases h2 : 4503599627370496 ≤ m
    · rw [if_neg (by omega), show (e * 4503599627370496 + m) / 4503599627370496 - 1 = e by omega, show 4503599627370496 + (e * 4503599627370496 + m) % 4503599627370496 = m by omega]
    · obtain rfl : e = 0 := by omega
      rw [if_pos (by omega)]
      simp

/-- r is the rung nearest to X / (2 D); of two, the even one; the last is infinity. -/
structure Near (X D r : Nat) : Prop where
  lo : ∀ q, r = q + 1 → (V q + V r) * D ≤ X
  loe : ∀ q, r = q + 1 → (V q + V r) * D = X → r % 2 = 0
  hi : r < 9218868437227405312 → X ≤ (V r + V (r + 1)) * D
  hie : r < 9218868437227405312 → X = (V r + V (r + 1)) * D → r % 2 = 0
  top : r ≤ 9218868437227405312
/-- A number that is not greater has no greater nearest float. -/
theorem Near.le {X D r X' D' r' : Nat} (hD : 0 < D) (hD' : 0 < D') (h : X * D' ≤ X' * D) (a : Near X D r) (b : Near X' D' r') : r ≤ r' := by
  rcases Nat.lt_or_ge r' r with hlt | hge
  · exfalso
    obtain ⟨q, rfl⟩ : ∃ q, r = q + 1 := ⟨r - 1, by omega⟩
    have h1 := a.lo q rfl
    have h2 := b.hi (by have := a.top; omega)
    have e1 : (V q + V (q + 1)) * D * D' ≤ X * D' := Nat.mul_le_mul_right _ h1
    have e2 : X' * D ≤ (V r' + V (r' + 1)) * D' * D := Nat.mul_le_mul_right _ h2
    rw [Nat.mul_right_comm _ D' D] at e2
    rcases Nat.lt_or_ge r' q with h3 | h3
    · have h4 := V_lt h3
      have h5 := V_le (show r' + 1 ≤ q + 1 by omega)
      have h6 : (V r' + V (r' + 1)) * D * D' < (V q + V (q + 1)) * D * D' := Nat.mul_lt_mul_of_pos_right (Nat.mul_lt_mul_of_pos_right (by omega) hD) hD'
      omega
    · obtain rfl : r' = q := by omega
      have e3 : X * D' = (V r' + V (r' + 1)) * D * D' := by omega
      have e4 : X' * D = (V r' + V (r' + 1)) * D' * D := by rw [Nat.mul_right_comm _ D' D]; omega
      have p1 := a.loe r' rfl (Nat.eq_of_mul_eq_mul_right hD' e3).symm
      have p2 := b.hie (by have := a.top; omega) (Nat.eq_of_mul_eq_mul_right hD e4)
      omega
  · exact hge
theorem Near.uniq {X D r X' D' r' : Nat} (hD : 0 < D) (hD' : 0 < D') (h : X * D' = X' * D) (a : Near X D r) (b : Near X' D' r') : r = r' :=
  Nat.le_antisymm (a.le hD hD' (by omega) b) (b.le hD' hD (by omega) a)
/-- The rung of a rounded natural times a power of two. -/
theorem near_core {X D e m : Nat} (hm : m < 9007199254740992) (hm2 : e = 0 ∨ 4503599627370496 ≤ m)
    (h1 : X ≤ (2 * m + 1) * 2 ^ e * D) (h1e : X = (2 * m + 1) * 2 ^ e * D → m % 2 = 0)
    (h2 : 0 < m → (2 * m - 1) * 2 ^ e * D ≤ X) (h2e : 0 < m → (2 * m - 1) * 2 ^ e * D = X → m % 2 = 0)
    (hlow : ∀ f, e = f + 1 → m = 4503599627370496 → (4 * m - 1) * 2 ^ f * D ≤ X) : Near X D (min (e * 4503599627370496 + m) 9218868437227405312) := by
  obtain ⟨R, hR⟩ : ∃ R, e * 4503599627370496 + m = R := ⟨_, rfl⟩
  rw [hR]
  have v0 : V R = m * 2 ^ e := by rw [← hR]; exact V_at e m (by omega) hm2
  have v1 : V (R + 1) = (m + 1) * 2 ^ e := by rw [← hR, Nat.add_assoc]; exact V_at e (m + 1) (by omega) (by omega)
  have hp : R % 2 = m % 2 := by omega
  have s1 : V R + V (R + 1) = (2 * m + 1) * 2 ^ e := by rw [v0, v1, ← Nat.add_mul]; congr 1; omega
  have LO : ∀ q, R = q + 1 → (V q + V R) * D ≤ X ∧ ((V q + V R) * D = X → R % 2 = 0) := fun q hq => by
    by_cases hc : e = 0 ∨ 4503599627370496 < m
    · have hm0 : 0 < m := by omega
      have vq : V q = (m - 1) * 2 ^ e := by
        rw [show q = e * 4503599627370496 + (m - 1) by omega]
        exact V_at e (m - 1) (by omega) (by omega)
      have s0 : V q + V R = (2 * m - 1) * 2 ^ e := by rw [v0, vq, ← Nat.add_mul]; congr 1; omega
      rw [s0, hp]
      exact ⟨h2 hm0, h2e hm0⟩
    · obtain ⟨f, rfl⟩ : ∃ f, e = f + 1 := ⟨e - 1, by omega⟩
      have hm4 : m = 4503599627370496 := by omega
      have vq : V q = 9007199254740991 * 2 ^ f := by
        rw [show q = f * 4503599627370496 + 9007199254740991 by omega]
        exact V_at f _ (by omega) (by omega)
      have s0 : V q + V R = (4 * m - 1) * 2 ^ f := by
        rw [v0, vq, hm4, Nat.pow_succ]
        generalize 2 ^ f = z
        omega
      rw [s0]
      exact ⟨hlow f rfl hm4, fun _ => by omega⟩
  rcases Nat.lt_or_ge R 9218868437227405312 with hlt | hge
  · rw [Nat.min_eq_left (by omega)]
    exact ⟨fun q e => (LO q e).1, fun q e => (LO q e).2, fun _ => by rw [s1]; exact h1, fun _ e => by rw [s1] at e; rw [hp]; exact h1e e, by omega⟩
  · rw [Nat.min_eq_right hge]
    refine ⟨fun q hq => ?_, fun _ _ _ => rfl, fun h => absurd h (by omega), fun h => absurd h (by omega), Nat.le_refl _⟩
    obtain ⟨Q, hQ⟩ : ∃ Q, R = Q + 1 := ⟨R - 1, by omega⟩
    refine Nat.le_trans (Nat.mul_le_mul_right _ ?_) (LO Q hQ).1
    have a1 := V_le (show q ≤ Q by omega)
    have a2 := V_le hge
    omega

theorem rnd_near (A B : Nat) (hB : 0 < B) : (2 * A ≤ (2 * rnd A B + 1) * B ∧ (2 * A = (2 * rnd A B + 1) * B → rnd A B % 2 = 0)) ∧ (0 < rnd A B → (2 * rnd A B - 1) * B ≤ 2 * A ∧ ((2 * rnd A B - 1) * B = 2 * A → rnd A B % 2 = 0)) := by
  have h0 := Nat.div_add_mod A B
  have hs := Nat.mod_lt A hB
  unfold rnd
  generalize A / B = q at *
  generalize A % B = s at *
  have e1 : ∀ k, (2 * q + k) * B = 2 * (B * q) + k * B := fun k => by rw [Nat.add_mul, Nat.mul_assoc, Nat.mul_comm q B]
  obtain ⟨T, hT⟩ : ∃ T, B * q = T := ⟨_, rfl⟩
  rw [hT] at e1 h0
  split
  · rename_i h
    have a1 : (2 * (q + 1) + 1) * B = 2 * T + 3 * B := by rw [show 2 * (q + 1) + 1 = 2 * q + 3 by omega, e1]
    have a2 : (2 * (q + 1) - 1) * B = 2 * T + B := by rw [show 2 * (q + 1) - 1 = 2 * q + 1 by omega, e1, Nat.one_mul]
    rw [a1, a2]
    refine ⟨⟨by omega, fun h => by omega⟩, fun _ => ⟨by omega, fun h => by omega⟩⟩
  · rename_i h
    have a1 : (2 * q + 1) * B = 2 * T + B := by rw [e1, Nat.one_mul]
    rw [a1]
    refine ⟨⟨by omega, fun h => by omega⟩, fun hq => ?_⟩
    have a2 : (2 * q - 1) * B + B = 2 * T := by
      rw [← Nat.succ_mul, show (2 * q - 1).succ = 2 * q + 0 by omega, e1]; omega
    exact ⟨by omega, fun h => by omega⟩
/-- What rounding gives in the measure of the least float: e is the power's place, X and D the number. -/
theorem rnd_scaled {X D A B e : Nat} (hB : 0 < B) (hD : 0 < D) (h : X * B = 2 * A * (D * 2 ^ e)) : (X ≤ (2 * rnd A B + 1) * 2 ^ e * D ∧ (X = (2 * rnd A B + 1) * 2 ^ e * D → rnd A B % 2 = 0)) ∧ (0 < rnd A B → (2 * rnd A B - 1) * 2 ^ e * D ≤ X ∧ ((2 * rnd A B - 1) * 2 ^ e * D = X → rnd A B % 2 = 0)) := by
  obtain ⟨⟨h1, h1e⟩, h2⟩ := rnd_near A B hB
  obtain ⟨m, hm⟩ : ∃ m, rnd A B = m := ⟨_, rfl⟩
  rw [hm] at h1 h1e h2 ⊢
  have hc : ∀ t, t * 2 ^ e * D * B = t * B * (D * 2 ^ e) := fun t => by
    rw [Nat.mul_right_comm t B, ← Nat.mul_assoc t, Nat.mul_right_comm t D]
  have h0 : 0 < D * 2 ^ e := Nat.mul_pos hD (Nat.pow_pos (by omega))
  refine ⟨⟨?_, fun he => h1e ?_⟩, fun hm0 => ⟨?_, fun he => (h2 hm0).2 ?_⟩⟩
  · refine Nat.le_of_mul_le_mul_right ?_ hB
    rw [h, hc]
    exact Nat.mul_le_mul_right _ h1
  · refine Nat.eq_of_mul_eq_mul_right h0 ?_
    rw [← h, ← hc, he]
  · refine Nat.le_of_mul_le_mul_right ?_ hB
    rw [h, hc]
    exact Nat.mul_le_mul_right _ (h2 hm0).1
  · refine Nat.eq_of_mul_eq_mul_right h0 ?_
    rw [← h, ← hc, he]
end Go.Proofs.YtddfigbpckhfbaaGreatDoor

namespace Go.Proofs.YtddfigbpckhfbaaGreatDoor

def S1074 : Nat := 2 ^ 1074
theorem S_eq (c : Nat) (h : c = 1074) : S1074 = 2 ^ c := by subst h; rfl
/-- A fraction times 2 to the -p. -/
def rdA (N : Nat) (p : Int) : Nat := N * 2 ^ (-p).toNat
def rdB (D : Nat) (p : Int) : Nat := D * 2 ^ p.toNat
def rdM (N D : Nat) (p : Int) : Nat := rnd (rdA N p) (rdB D p)
theorem rdB_pos {D : Nat} (hD : 0 < D) (p : Int) : 0 < rdB D p := Nat.mul_pos hD (Nat.pow_pos (by omega))
theorem rd_scaled (N D : Nat) (p : Int) (hp : -1074 ≤ p) : 2 * N * S1074 * rdB D p = 2 * rdA N p * (D * 2 ^ (p + 1074).toNat) := by
  obtain ⟨c, hc⟩ : ∃ c : Nat, c = 1074 := ⟨_, rfl⟩
  rw [S_eq c hc, rdA, rdB]
  have e : 2 ^ c * 2 ^ p.toNat = 2 ^ (-p).toNat * 2 ^ (p + 1074).toNat := by
    rw [← Nat.pow_add, ← Nat.pow_add]
    congr 1
    omega
  calc 2 * N * 2 ^ c * (D * 2 ^ p.toNat) = 2 * N * D * (2 ^ c * 2 ^ p.toNat) := by ac_rfl
    _ = 2 * N * D * (2 ^ (-p).toNat * 2 ^ (p + 1074).toNat) := by rw [e]
    _ = 2 * (N * 2 ^ (-p).toNat) * (D * 2 ^ (p + 1074).toNat) := by ac_rfl
/-- The power is the least one, or there are digits enough. -/
def Low (N D : Nat) (p : Int) : Prop := p = -1074 ∨ 18014398509481983 * rdB D p ≤ 4 * rdA N p
theorem low_man {N D : Nat} {p : Int} (hD : 0 < D) (h : 18014398509481983 * rdB D p ≤ 4 * rdA N p) : 4503599627370496 ≤ rdM N D p := by
  have h1 := (rnd_near (rdA N p) (rdB D p) (rdB_pos hD p)).1.1
  have hB := rdB_pos hD p
  unfold rdM
  generalize rnd (rdA N p) (rdB D p) = m at *
  generalize rdA N p = A at *
  generalize rdB D p = B at *
  have h2 : 18014398509481983 * B ≤ (2 * (2 * m + 1)) * B := by rw [Nat.mul_assoc]; omega
  have h3 := Nat.le_of_mul_le_mul_right h2 hB
  omega
theorem read_near {N D : Nat} {p : Int} (hD : 0 < D) (hp : -1074 ≤ p) (hm : rdM N D p < 9007199254740992) (hl : Low N D p) :
    Near (2 * N * S1074) D (min ((p + 1074).toNat * 4503599627370496 + rdM N D p) 9218868437227405312) := by
  have hB := rdB_pos hD p
  have hX := rd_scaled N D p hp
  obtain ⟨⟨h1, h1e⟩, h2⟩ := rnd_scaled hB hD hX
  refine near_core hm ?_ h1 h1e (fun h => (h2 h).1) (fun h => (h2 h).2) ?_
  · rcases hl with rfl | hl
    · exact Or.inl rfl
    · exact Or.inr (low_man hD hl)
  · intro f hf hm4
    rcases hl with rfl | hl
    · exact absurd hf (by omega)
    · change rdM N D p = _ at hm4
      show (4 * rdM N D p - 1) * 2 ^ f * D ≤ _
      rw [hm4]
      refine Nat.le_of_mul_le_mul_right ?_ hB
      rw [hX, hf, Nat.pow_succ]
      have h3 : 18014398509481983 * rdB D p * (D * 2 ^ f) ≤ 4 * rdA N p * (D * 2 ^ f) := Nat.mul_le_mul_right _ hl
      calc (4 * 4503599627370496 - 1) * 2 ^ f * D * rdB D p = 18014398509481983 * rdB D p * (D * 2 ^ f) := by
            rw [show 4 * 4503599627370496 - 1 = 18014398509481983 by omega]; ac_rfl
        _ ≤ 4 * rdA N p * (D * 2 ^ f) := h3
        _ = 2 * rdA N p * (D * (2 ^ f * 2)) := by
            rw [show (4 : Nat) = 2 * 2 by omega]; ac_rfl
theorem rd_half (N D : Nat) (p : Int) : rdA N (p - 1) * rdB D p = 2 * rdA N p * rdB D (p - 1) := by
  unfold rdA rdB
  have e : 2 ^ (-(p - 1)).toNat * 2 ^ p.toNat = 2 * (2 ^ (-p).toNat * 2 ^ (p - 1).toNat) := by
    rw [← Nat.pow_add, ← Nat.pow_add, Nat.mul_comm 2, ← Nat.pow_succ]
    congr 1
    omega
  calc N * 2 ^ (-(p - 1)).toNat * (D * 2 ^ p.toNat) = N * D * (2 ^ (-(p - 1)).toNat * 2 ^ p.toNat) := by ac_rfl
    _ = N * D * (2 * (2 ^ (-p).toNat * 2 ^ (p - 1).toNat)) := by rw [e]
    _ = 2 * (N * 2 ^ (-p).toNat) * (D * 2 ^ (p - 1).toNat) := by ac_rfl
/-- Where the power below gave too many digits, there are enough. -/
theorem low_next {N D : Nat} {p : Int} (hD : 0 < D) (h : 9007199254740992 ≤ rdM N D (p - 1)) : Low N D p := by
  right
  have hB := rdB_pos hD p
  have hB' := rdB_pos hD (p - 1)
  have h1 := ((rnd_near (rdA N (p - 1)) (rdB D (p - 1)) hB').2 (by show 0 < rdM N D (p - 1); omega)).1
  change (2 * rdM N D (p - 1) - 1) * _ ≤ _ at h1
  have h2 : 18014398509481983 * rdB D (p - 1) ≤ 2 * rdA N (p - 1) := Nat.le_trans (Nat.mul_le_mul_right _ (by omega)) h1
  refine Nat.le_of_mul_le_mul_right ?_ hB'
  have h3 : 18014398509481983 * rdB D (p - 1) * rdB D p ≤ 2 * rdA N (p - 1) * rdB D p := Nat.mul_le_mul_right _ h2
  calc 18014398509481983 * rdB D p * rdB D (p - 1) = 18014398509481983 * rdB D (p - 1) * rdB D p := Nat.mul_right_comm _ _ _
    _ ≤ 2 * rdA N (p - 1) * rdB D p := h3
    _ = 2 * (rdA N (p - 1) * rdB D p) := Nat.mul_assoc _ _ _
    _ = 2 * (2 * rdA N p * rdB D (p - 1)) := by rw [rd_half]
    _ = 4 * rdA N p * rdB D (p - 1) := by rw [← Nat.mul_assoc, ← Nat.mul_assoc]
/-- At the first power there are enough. -/
theorem low_first {N D a b : Nat} (ha : 1 ≤ a) (hN : 2 ^ (a - 1) ≤ N) (hD : D < 2 ^ b) : Low N D (max ((a : Int) - (b : Int) - 53) (-1074)) := by
  by_cases h : (a : Int) - (b : Int) - 53 ≤ -1074
  · left; omega
  · right
    obtain ⟨p, hp⟩ : ∃ p, max ((a : Int) - (b : Int) - 53) (-1074) = p := ⟨_, rfl⟩
    rw [hp]
    have hp2 : p = (a : Int) - (b : Int) - 53 := by omega
    unfold rdA rdB
    have e1 : 18014398509481983 * (D * 2 ^ p.toNat) ≤ 2 ^ 54 * (2 ^ b * 2 ^ p.toNat) :=
      Nat.mul_le_mul (by decide) (Nat.mul_le_mul_right _ (Nat.le_of_lt hD))
    have e2 : 2 ^ 2 * (2 ^ (a - 1) * 2 ^ (-p).toNat) ≤ 2 ^ 2 * (N * 2 ^ (-p).toNat) := Nat.mul_le_mul_left _ (Nat.mul_le_mul_right _ hN)
    rw [← Nat.pow_add, ← Nat.pow_add] at e1 e2
    have e3 : 2 ^ (54 + (b + p.toNat)) ≤ 2 ^ (2 + (a - 1 + (-p).toNat)) := Nat.pow_le_pow_right (by omega) (by omega)
    have e4 : 2 ^ 2 * (N * 2 ^ (-p).toNat) = 4 * (N * 2 ^ (-p).toNat) := rfl
    omega
/-- Two powers above the first the digits are not too many. -/
theorem rd_stop {N D a b : Nat} {p : Int} (hb : 1 ≤ b) (hN : N < 2 ^ a) (hD : 2 ^ (b - 1) ≤ D) (hp : (a : Int) - (b : Int) - 51 ≤ p) : rdM N D p < 9007199254740992 := by
  have h1 := rnd_le (rdA N p) (rdB D p)
  have hB : 0 < rdB D p := rdB_pos (Nat.lt_of_lt_of_le (Nat.pow_pos (by omega)) hD) p
  have h2 : rdA N p / rdB D p < 4503599627370496 := by
    rw [Nat.div_lt_iff_lt_mul hB]
    unfold rdA rdB
    have e1 : N * 2 ^ (-p).toNat < 2 ^ a * 2 ^ (-p).toNat := Nat.mul_lt_mul_of_pos_right hN (Nat.pow_pos (by omega))
    have e2 : 2 ^ 52 * (2 ^ (b - 1) * 2 ^ p.toNat) ≤ 2 ^ 52 * (D * 2 ^ p.toNat) := Nat.mul_le_mul_left _ (Nat.mul_le_mul_right _ hD)
    rw [← Nat.pow_add] at e1
    rw [← Nat.pow_add, ← Nat.pow_add] at e2
    have e3 : 2 ^ (a + (-p).toNat) ≤ 2 ^ (52 + (b - 1 + p.toNat)) := Nat.pow_le_pow_right (by omega) (by omega)
    have e4 : 2 ^ 52 * (D * 2 ^ p.toNat) = 4503599627370496 * (D * 2 ^ p.toNat) := rfl
    omega
  unfold rdM
  omega
theorem near_zero {D : Nat} (_hD : 0 < D) : Near 0 D 0 :=
  ⟨fun q e => absurd e (by omega), fun q e => absurd e (by omega), fun _ => Nat.zero_le _, fun _ _ => rfl, by omega⟩
end Go.Proofs.YtddfigbpckhfbaaGreatDoor

namespace Go.Proofs.YtddfigbpckhfbaaGreatDoor
open Go.RowKit Go.Lib

theorem dbl_frac : Ieee.double.fractionBits = 52 := rfl
theorem word_pos (r : Nat) : Ieee.double.word false r = r := rfl
theorem log2_bd {n : Nat} (h : 0 < n) : 2 ^ n.log2 ≤ n ∧ n < 2 ^ (n.log2 + 1) := ⟨Nat.log2_self_le (by omega), Nat.lt_log2_self⟩
theorem log2_is {n k : Nat} (h1 : 2 ^ k ≤ n) (h2 : n < 2 ^ (k + 1)) : n.log2 = k := by
  have h0 : 0 < n := Nat.lt_of_lt_of_le (Nat.pow_pos (by omega)) h1
  obtain ⟨a, b⟩ := log2_bd h0
  have c1 := (Nat.pow_lt_pow_iff_right (show 1 < 2 by omega)).1 (Nat.lt_of_le_of_lt h1 b)
  have c2 := (Nat.pow_lt_pow_iff_right (show 1 < 2 by omega)).1 (Nat.lt_of_le_of_lt a h2)
  omega
theorem log2_mul {m : Nat} (j : Nat) (h : 0 < m) : (m * 2 ^ j).log2 = m.log2 + j := by
  obtain ⟨a, b⟩ := log2_bd h
  refine log2_is ?_ ?_
  · rw [Nat.pow_add]; exact Nat.mul_le_mul_right _ a
  · rw [Nat.add_right_comm, Nat.pow_add]; exact Nat.mul_lt_mul_of_pos_right b (Nat.pow_pos (by omega))
theorem log2_le52 {m : Nat} (h : 0 < m) (h2 : m < 9007199254740992) : m.log2 ≤ 52 := by
  have := (log2_bd h).1
  have h3 : 2 ^ m.log2 < 2 ^ 53 := Nat.lt_of_le_of_lt this h2
  have := (Nat.pow_lt_pow_iff_right (show 1 < 2 by omega)).1 h3
  omega
theorem log2_52 {m : Nat} (h : 4503599627370496 ≤ m) (h2 : m < 9007199254740992) : m.log2 = 52 := log2_is h h2
theorem cut_exact (m j : Nat) (hm : 0 < m) : Ieee.Toward.even.cut false (m * 2 ^ j) j = m := by
  have hp : 0 < 2 ^ j := Nat.pow_pos (by omega)
  have hl := log2_mul j hm
  have hmin : min j ((m * 2 ^ j).log2 + 2) = j := by omega
  unfold Ieee.Toward.cut
  simp only [hmin, Nat.one_shiftLeft, Nat.mul_div_cancel _ hp, Nat.mul_mod_left]
  have h1 : (2 ^ j == 0) = false := by rw [beq_eq_false_iff_ne]; omega
  simp [h1]
/-- A number that is a float is written as it. -/
theorem nearest_exact {m j e : Nat} {place : Int} (hm : 0 < m) (hm2 : m < 9007199254740992) (he : place + (j : Int) + 1074 = (e : Int)) (hc : e = 0 ∨ 4503599627370496 ≤ m) :
    Ieee.double.nearest false (m * 2 ^ j) place = min (e * 4503599627370496 + m) 9218868437227405312 := by
  have hne : m * 2 ^ j ≠ 0 := Nat.pos_iff_ne_zero.1 (Nat.mul_pos hm (Nat.pow_pos (by omega)))
  have hl := log2_mul j hm
  have hb := log2_le52 hm hm2
  have hlast : max (place + ((m * 2 ^ j).log2 : Int) - ((52 : Nat) : Int)) (-1074) = place + (j : Int) := by
    rcases hc with h | h
    · omega
    · have := log2_52 h hm2; omega
  unfold Ieee.Format.nearest
  rw [if_neg hne]
  simp only [dbl_frac, dbl_least, dbl_binade, dbl_inf, hlast]
  rw [show (place - (place + (j : Int))).toNat = 0 by omega, show (place + (j : Int) - place).toNat = j by omega, Nat.shiftLeft_zero, cut_exact m j hm, show (place + (j : Int) - -1074).toNat = e by omega, word_pos]
/-- The bits of a natural below 2^53 as a float. -/
def fw (m : Nat) : Nat := if m = 0 then 0 else (m.log2 + 1022) * 4503599627370496 + m * 2 ^ (52 - m.log2)
theorem full_bd {m : Nat} (h : 0 < m) (h2 : m < 9007199254740992) : 4503599627370496 ≤ m * 2 ^ (52 - m.log2) ∧ m * 2 ^ (52 - m.log2) < 9007199254740992 := by
  obtain ⟨a, b⟩ := log2_bd h
  have hb := log2_le52 h h2
  have c1 : 2 ^ m.log2 * 2 ^ (52 - m.log2) ≤ m * 2 ^ (52 - m.log2) := Nat.mul_le_mul_right _ a
  have c2 : m * 2 ^ (52 - m.log2) < 2 ^ (m.log2 + 1) * 2 ^ (52 - m.log2) := Nat.mul_lt_mul_of_pos_right b (Nat.pow_pos (by omega))
  rw [← Nat.pow_add, show m.log2 + (52 - m.log2) = 52 by omega] at c1
  rw [← Nat.pow_add, show m.log2 + 1 + (52 - m.log2) = 53 by omega] at c2
  exact ⟨c1, c2⟩
theorem fw_pos {m : Nat} (h : 0 < m) : fw m = (m.log2 + 1022) * 4503599627370496 + m * 2 ^ (52 - m.log2) := if_neg (by omega)
theorem fw_bd {m : Nat} (h2 : m < 9007199254740992) : fw m < 4845873199050653696 := by
  rcases Nat.eq_zero_or_pos m with rfl | h
  · decide
  · have := full_bd h h2
    have := log2_le52 h h2
    rw [fw_pos h]
    omega
theorem fw_mag {m : Nat} (h2 : m < 9007199254740992) : mag (fw m) = fw m := Nat.mod_eq_of_lt (by have := fw_bd h2; omega)
theorem fw_V {m : Nat} (h2 : m < 9007199254740992) : V (fw m) = m * S1074 := by
  rcases Nat.eq_zero_or_pos m with rfl | h
  · show V 0 = _
    rw [Nat.zero_mul]; decide
  · obtain ⟨c, hc⟩ : ∃ c : Nat, c = 1074 := ⟨_, rfl⟩
    have hb := log2_le52 h h2
    obtain ⟨f1, f2⟩ := full_bd h h2
    rw [fw_pos h, V_at _ _ (Nat.le_of_lt f2) (Or.inr f1), S_eq c hc, Nat.mul_assoc, ← Nat.pow_add]
    congr 2
    omega
theorem nearest_up {m : Nat} (hm : 0 < m) (hm2 : m < 9007199254740992) : Ieee.double.nearest false m 0 = fw m := by
  have hb := log2_le52 hm hm2
  obtain ⟨f1, f2⟩ := full_bd hm hm2
  have hlast : max ((0 : Int) + (m.log2 : Int) - ((52 : Nat) : Int)) (-1074) = (m.log2 : Int) - 52 := by omega
  rw [fw_pos hm]
  unfold Ieee.Format.nearest
  rw [if_neg (by omega)]
  simp only [dbl_frac, dbl_least, dbl_binade, dbl_inf, hlast]
  have hcut := cut_exact (m * 2 ^ (52 - m.log2)) 0 (by omega)
  rw [Nat.pow_zero, Nat.mul_one] at hcut
  rw [show ((0 : Int) - ((m.log2 : Int) - 52)).toNat = 52 - m.log2 by omega, show ((m.log2 : Int) - 52 - 0).toNat = 0 by omega, Nat.shiftLeft_eq, hcut, show ((m.log2 : Int) - 52 - -1074).toNat = m.log2 + 1022 by omega, Nat.min_eq_left (by omega), word_pos]
/-- float64(m) of a natural below 2^53. -/
theorem float_nat {m : Nat} (hm2 : m < 9007199254740992) : floatOfInt .f64 (m : Int) = fw m := by
  rcases Nat.eq_zero_or_pos m with rfl | h
  · decide
  · show Ieee.double.write (.number (decide ((m : Int) < 0)) ((m : Int)).natAbs 0) = _
    rw [show decide ((m : Int) < 0) = false from decide_eq_false (by omega), Int.natAbs_natCast]
    exact nearest_up h hm2
theorem expF_lo (r : Nat) : -1074 ≤ expF r := by unfold expF; split <;> omega
/-- A finite float other than nought is not equal to it. -/
theorem order_zero {r : Nat} (h0 : 0 < r) (h : r < 9218868437227405312) : Ieee.double.order r 0 = some .gt := by
  have hm : mag r = r := Nat.mod_eq_of_lt (by omega)
  unfold Ieee.Format.order
  rw [read_fin (by rw [hm]; exact h), hm, show Ieee.double.read 0 = .number false 0 (-1074) by decide, show (r / 9223372036854775808 % 2 == 1) = false by rw [beq_eq_false_iff_ne]; omega]
  have he : -1074 ≤ expF r := (expF_lo r)
  have hp : 0 < manF r := by unfold manF; split <;> omega
  show some (compare _ _) = _
  rw [show min (expF r) (-1074) = -1074 by omega]
  have h1 : Ieee.signed false 0 ((-1074 : Int) - -1074).toNat = 0 := by decide
  have h2 : 0 < Ieee.signed false (manF r) (expF r - -1074).toNat := by
    show (0 : Int) < ((manF r <<< _ : Nat) : Int)
    rw [Nat.shiftLeft_eq]
    have := Nat.mul_pos hp (Nat.pow_pos (n := (expF r - -1074).toNat) (show 0 < 2 by omega))
    omega
  rw [h1]
  exact congrArg some (Int.compare_eq_gt.2 h2)
theorem val_V {r : Nat} : manF r <<< (expF r - -1074).toNat = V r := by
  rw [Nat.shiftLeft_eq]
  unfold manF expF V
  split
  · rw [show ((-1074 : Int) - -1074).toNat = 0 by omega]; simp
  · congr 2
    omega
/-- Which of two floats that are finite and not below nought is the greater one. -/
theorem order_V {r s : Nat} (hr : r < 9218868437227405312) (hs : s < 9218868437227405312) : Ieee.double.order r s = some (compare (r : Int) (s : Int)) := by
  have hm : ∀ x, x < 9218868437227405312 → mag x = x := fun x h => Nat.mod_eq_of_lt (by omega)
  have hg : ∀ x, x < 9218868437227405312 → (x / 9223372036854775808 % 2 == 1) = false := fun x h => by rw [beq_eq_false_iff_ne]; omega
  unfold Ieee.Format.order
  rw [read_fin (by rw [hm r hr]; exact hr), hm r hr, read_fin (by rw [hm s hs]; exact hs), hm s hs, hg r hr, hg s hs]
  show some (compare (Ieee.signed false (manF r) (expF r - min (expF r) (expF s)).toNat) (Ieee.signed false (manF s) (expF s - min (expF r) (expF s)).toNat)) = _
  have h1 := expF_lo r
  have h2 := expF_lo s
  obtain ⟨c, hc⟩ : ∃ c : Nat, min (expF r) (expF s) + 1074 = (c : Int) := ⟨(min (expF r) (expF s) + 1074).toNat, by omega⟩
  have key : ∀ x : Nat, (expF x - -1074).toNat = (expF x - min (expF r) (expF s)).toNat + c → manF x * 2 ^ (expF x - min (expF r) (expF s)).toNat * 2 ^ c = V x := fun x hx => by
    rw [← val_V, Nat.shiftLeft_eq, hx, Nat.pow_add, Nat.mul_assoc]
  have kr := key r (by omega)
  have ks := key s (by omega)
  show some (compare ((manF r <<< _ : Nat) : Int) ((manF s <<< _ : Nat) : Int)) = _
  rw [Nat.shiftLeft_eq, Nat.shiftLeft_eq]
  generalize manF r * 2 ^ (expF r - min (expF r) (expF s)).toNat = x at *
  generalize manF s * 2 ^ (expF s - min (expF r) (expF s)).toNat = y at *
  have hp : 0 < 2 ^ c := Nat.pow_pos (by omega)
  congr 1
  rcases Nat.lt_trichotomy r s with h | h | h
  · rw [Int.compare_eq_lt.2 (show (r : Int) < (s : Int) by omega), Int.compare_eq_lt]
    have hv := V_lt h
    rw [← kr, ← ks] at hv
    have := Nat.lt_of_mul_lt_mul_right hv
    omega
  · subst h
    have : x = y := Nat.eq_of_mul_eq_mul_right hp (by rw [kr, ks])
    rw [this, Int.compare_eq_eq.2 rfl, Int.compare_eq_eq.2 rfl]
  · rw [Int.compare_eq_gt.2 (show (s : Int) < (r : Int) by omega), Int.compare_eq_gt]
    have hv := V_lt h
    rw [← kr, ← ks] at hv
    have := Nat.lt_of_mul_lt_mul_right hv
    omega
end Go.Proofs.YtddfigbpckhfbaaGreatDoor

namespace Go.Proofs.YtddfigbpckhfbaaGreatDoor
open Go.RowKit Go.Lib

theorem low_andNot (f k : Nat) (hf : f < 4503599627370496) (hk : k < 2048) : bits .andNot .u64 ((k * 4503599627370496 + f : Nat) : Int) 9218868437227405312 = (f : Int) := by
  have h := u64_andNot_nat (k * 4503599627370496 + f) 9218868437227405312 (by omega) (by omega)
  rw [show (18446744073709551615 : Nat) - 9218868437227405312 = 2 ^ 63 ||| (2 ^ 52 - 1) by decide, Nat.and_or_distrib_left, Nat.and_two_pow_sub_one_eq_mod] at h
  have h0 : (k * 4503599627370496 + f) &&& 2 ^ 63 = 0 := by
    apply Nat.eq_of_testBit_eq
    intro i
    rw [Nat.testBit_and, Nat.testBit_two_pow, Nat.zero_testBit]
    by_cases hi : 63 = i
    · subst hi
      rw [Nat.testBit_lt_two_pow (show k * 4503599627370496 + f < 2 ^ 63 by omega)]
      rfl
    · simp [hi]
  rw [h0, Nat.zero_or, show (k * 4503599627370496 + f) % 2 ^ 52 = f by omega] at h
  exact h
theorem or_exp (f k : Nat) (hf : f < 4503599627370496) (hk : k < 2048) : bits .or .u64 (f : Int) ((k : Int) * 4503599627370496) = (k : Int) * 4503599627370496 + (f : Int) := by
  have h := u64_or_nat f (k * 4503599627370496) (by omega) (by omega)
  rw [Nat.or_comm, show k * 4503599627370496 ||| f = k * 4503599627370496 + f from or_low (k := 52) hf] at h
  rw [Int.natCast_mul, Int.natCast_add, Int.natCast_mul] at h
  exact h
theorem and_exp : ∀ y : Nat, y < 2048 → bits .and .i64 (y : Int) 2047 = (y : Int) := by decide +kernel
set_option maxRecDepth 100000 in
set_option maxHeartbeats 1000000 in
theorem normalize_any (r : Nat) (w : World) (h1 : 4503599627370496 ≤ r) (h2 : r < 9218868437227405312) : Calls Tryz.prog 213 #[.float .f64 r] w fun e w' => e = .returned (.tuple #[.float .f64 r, .int .i64 0]) ∧ w = w' := by
  have CA := Lib.hid (abs_any r w (by omega))
  have hm : mag r = r := Nat.mod_eq_of_lt (by omega)
  rw [hm] at CA
  have ho : (FloatKind.f64.format.order r 4503599627370496 == some .lt) = false := by
    show (Ieee.double.order r 4503599627370496 == some .lt) = false
    rw [order_V h2 (by omega)]
    rcases Nat.lt_or_ge 4503599627370496 r with h | h
    · rw [Int.compare_eq_gt.2 (by omega)]; rfl
    · rw [Int.compare_eq_eq.2 (by omega)]; rfl
  clear hm
  go_enter Tryz.func213, Tryz.ntmps213
  go_wp2_with fail
  refine CA.out.mono ?_
  rintro e w' ⟨rfl, rfl⟩
  go_wp2
  go_ret2
  exact ⟨rfl, rfl⟩
set_option maxRecDepth 100000 in
theorem inf_any (w : World) : Calls Tryz.prog 214 #[.int .i64 1] w fun e w' => e = .returned (.float .f64 9218868437227405312) ∧ w = w' := by
  have h1 : ∀ W : World, (callFunc 10 #[.int .u64 9218868437227405312]).run Tryz.prog W = .ok (.value (.float .f64 9218868437227405312)) W := fun W => run_f64from 9218868437227405312 W
  go_enter Tryz.func214, Tryz.ntmps214
  go_wp2
  go_ret
  exact ⟨rfl, rfl⟩
theorem ord_zero_eq {r : Nat} (h0 : 0 < r) (h : r < 9218868437227405312) : (FloatKind.f64.format.order r 0 == some .eq) = false := by
  show (Ieee.double.order r 0 == some .eq) = false
  rw [order_zero h0 h]; rfl
theorem ord_zero_lt {r : Nat} (h0 : 0 < r) (h : r < 9218868437227405312) : (FloatKind.f64.format.order r 0 == some .lt) = false := by
  show (Ieee.double.order r 0 == some .lt) = false
  rw [order_zero h0 h]; rfl
/-- The last product of Ldexp: of 2 to the -53, and of one. -/
theorem mul_small {m : Nat} (hm : 0 < m) (h2 : m < 4503599627370496) : floatBits .mul .f64 4368491638549381120 ((m.log2 + 2) * 4503599627370496 + (m * 2 ^ (52 - m.log2) - 4503599627370496)) = some m := by
  obtain ⟨f1, f2⟩ := full_bd hm (by omega)
  have hl : m.log2 < 52 := by
    obtain ⟨a, b⟩ := log2_bd hm
    have h3 : 2 ^ m.log2 < 2 ^ 52 := Nat.lt_of_le_of_lt a h2
    exact (Nat.pow_lt_pow_iff_right (show 1 < 2 by omega)).1 h3
  obtain ⟨y, hy⟩ : ∃ y, (m.log2 + 2) * 4503599627370496 + (m * 2 ^ (52 - m.log2) - 4503599627370496) = y := ⟨_, rfl⟩
  rw [hy]
  have hmy : mag y = y := Nat.mod_eq_of_lt (by omega)
  have hman : manF y = m * 2 ^ (52 - m.log2) := by rw [manF, if_neg (by omega)]; omega
  have hexp : expF y = (m.log2 : Int) - 1073 := by rw [expF, if_neg (by omega)]; omega
  show (((Ieee.double.read 4368491638549381120).product (Ieee.double.read y)).map Ieee.double.write) = _
  rw [show Ieee.double.read 4368491638549381120 = .number false 4503599627370496 (-105) by decide, read_fin (by rw [hmy]; omega), hmy, hman, hexp, show (y / 9223372036854775808 % 2 == 1) = false by rw [beq_eq_false_iff_ne]; omega]
  show some (Ieee.double.nearest false (4503599627370496 * (m * 2 ^ (52 - m.log2))) (-105 + ((m.log2 : Int) - 1073))) = _
  have hx := nearest_exact (m := m) (j := 104 - m.log2) (e := 0) (place := -105 + ((m.log2 : Int) - 1073)) hm (by omega) (by omega) (Or.inl rfl)
  have hp : 4503599627370496 * (m * 2 ^ (52 - m.log2)) = m * 2 ^ (104 - m.log2) := by
    have e : 2 ^ 52 * 2 ^ (52 - m.log2) = 2 ^ (104 - m.log2) := by rw [← Nat.pow_add, show 52 + (52 - m.log2) = 104 - m.log2 by omega]
    rw [show (4503599627370496 : Nat) = 2 ^ 52 by decide, Nat.mul_left_comm, e]
  rw [hp, hx]
  exact congrArg some (by omega)
theorem mul_one {m k : Nat} (h1 : 4503599627370496 ≤ m) (h2 : m < 9007199254740992) (hk0 : 1 ≤ k) (hk : k ≤ 2046) : floatBits .mul .f64 4607182418800017408 (k * 4503599627370496 + (m - 4503599627370496)) = some (k * 4503599627370496 + (m - 4503599627370496)) := by
  obtain ⟨y, hy⟩ : ∃ y, k * 4503599627370496 + (m - 4503599627370496) = y := ⟨_, rfl⟩
  rw [hy]
  have hmy : mag y = y := Nat.mod_eq_of_lt (by omega)
  have hman : manF y = m := by rw [manF, if_neg (by omega)]; omega
  have hexp : expF y = (k : Int) - 1075 := by rw [expF, if_neg (by omega)]; omega
  show (((Ieee.double.read 4607182418800017408).product (Ieee.double.read y)).map Ieee.double.write) = _
  rw [show Ieee.double.read 4607182418800017408 = .number false 4503599627370496 (-52) by decide, read_fin (by rw [hmy]; omega), hmy, hman, hexp, show (y / 9223372036854775808 % 2 == 1) = false by rw [beq_eq_false_iff_ne]; omega]
  show some (Ieee.double.nearest false (4503599627370496 * m) (-52 + ((k : Int) - 1075))) = _
  have hx := nearest_exact (m := m) (j := 52) (e := k - 1) (place := -52 + ((k : Int) - 1075)) (by omega) h2 (by omega) (Or.inr h1)
  rw [Nat.mul_comm 4503599627370496 m, show m * 4503599627370496 = m * 2 ^ 52 from rfl, hx]
  exact congrArg some (by omega)

theorem from_sum (k f : Nat) (W : World) : (callFunc 10 #[.int .u64 ((k : Int) * 4503599627370496 + (f : Int))]).run Tryz.prog W = .ok (.value (.float .f64 (k * 4503599627370496 + f))) W := by
  have h := run_f64from (k * 4503599627370496 + f) W
  rwa [Int.natCast_add, Int.natCast_mul] at h
/-- The bits of m times 2 to the p. -/
def ldB (m : Nat) (p : Int) : Nat := if m = 0 then 0 else min ((p + 1074).toNat * 4503599627370496 + m) 9218868437227405312
theorem split_sum {l q : Nat} (f1 : 4503599627370496 ≤ q) : (l + 1022) * 4503599627370496 + q = (l + 1023) * 4503599627370496 + (q - 4503599627370496) := by omega
theorem split_bits {X l q f y : Nat} (h : X = (l + 1022) * 4503599627370496 + q) (hf : q - 4503599627370496 = f) (hy : l + 1023 = y) (f1 : 4503599627370496 ≤ q) : X = y * 4503599627370496 + f := by
  rw [h, ← hf, ← hy]
  exact split_sum f1
theorem ldB_low {m : Nat} (hm : 0 < m) (h : m < 4503599627370496) : ldB m (-1074) = m := by
  rw [ldB, if_neg (by omega), show ((-1074 : Int) + 1074).toNat = 0 by decide, Nat.zero_mul, Nat.zero_add]
  exact Nat.min_eq_left (by omega)
theorem ldB_inf {m : Nat} {p : Int} (_hm : 0 < m) (h : 4503599627370496 ≤ m) (hp : 972 ≤ p) : ldB m p = 9218868437227405312 := by
  obtain ⟨e, he⟩ : ∃ e, (p + 1074).toNat = e := ⟨_, rfl⟩
  rw [ldB, if_neg (by omega), he]
  exact Nat.min_eq_right (by omega)
theorem ldB_fin {m k f : Nat} {p : Int} (h : 4503599627370496 ≤ m) (h2 : m < 9007199254740992) (hk : p + 1075 = (k : Int)) (hk1 : 1 ≤ k) (hk2 : k ≤ 2046) (hf : f = m - 4503599627370496) : ldB m p = k * 4503599627370496 + f := by
  obtain ⟨e, he⟩ : ∃ e, (p + 1074).toNat = e := ⟨_, rfl⟩
  rw [ldB, if_neg (by omega), he, Nat.min_eq_left (by omega)]
  omega
set_option maxRecDepth 100000 in
set_option maxHeartbeats 1000000 in
theorem ldexp_zero (p : Int) (w : World) : Calls Tryz.prog 176 #[.float .f64 0, .int .i64 p] w fun e w' => e = .returned (.float .f64 0) ∧ w = w' := by
  have hz : (FloatKind.f64.format.order 0 0 == some .eq) = true := by decide
  go_enter Tryz.func176, Tryz.ntmps176
  go_wp2
  go_ret
  exact ⟨rfl, rfl⟩
set_option maxRecDepth 100000 in
set_option maxHeartbeats 1000000 in
theorem ldexp_pos (m : Nat) (p : Int) (w : World) (hm : 0 < m) (h2 : m < 9007199254740992) (hp : -1074 ≤ p) (hp2 : p ≤ 100000) (hc : p = -1074 ∨ 4503599627370496 ≤ m) :
    Calls Tryz.prog 176 #[.float .f64 (fw m), .int .i64 p] w fun e w' => e = .returned (.float .f64 (ldB m p)) ∧ w = w' := by
  obtain ⟨f1, f2⟩ := full_bd hm h2
  have hb := log2_le52 hm h2
  have hfb := fw_bd h2
  have hfp := fw_pos hm
  have hmg := fw_mag h2
  have hlt52 : m < 4503599627370496 → m.log2 < 52 := fun hs => by
    obtain ⟨a, b⟩ := log2_bd hm
    have h3 : 2 ^ m.log2 < 2 ^ 52 := Nat.lt_of_le_of_lt a hs
    exact (Nat.pow_lt_pow_iff_right (show 1 < 2 by omega)).1 h3
  have hge52 : 4503599627370496 ≤ m → m.log2 = 52 := fun hs => log2_52 hs h2
  have hms := fun hs => mul_small hm hs
  have hfull : m.log2 = 52 → m * 2 ^ (52 - m.log2) = m := fun e => by rw [e, Nat.sub_self, Nat.pow_zero, Nat.mul_one]
  obtain ⟨X, hX⟩ : ∃ X, fw m = X := ⟨_, rfl⟩
  rw [hX] at hfb hfp hmg
  rw [hX]
  clear hX
  obtain ⟨q, hq⟩ : ∃ q, m * 2 ^ (52 - m.log2) = q := ⟨_, rfl⟩
  rw [hq] at f1 f2 hfp hms hfull
  clear hq
  obtain ⟨l, hl⟩ : ∃ l, m.log2 = l := ⟨_, rfl⟩
  rw [hl] at hb hfp hlt52 hge52 hms hfull
  clear hl
  obtain ⟨f, hf⟩ : ∃ f, q - 4503599627370496 = f := ⟨_, rfl⟩
  obtain ⟨y, hy⟩ : ∃ y, l + 1023 = y := ⟨_, rfl⟩
  have hx : X = y * 4503599627370496 + f := split_bits hfp hf hy f1
  have hf2 : f < 4503599627370496 := by omega
  have hyb : y ≤ 1075 := by omega
  have hya : 1023 ≤ y := by omega
  have C1 := fun W => isInf_any X W (by omega)
  have C2 := fun W => isNaN_any X W
  rw [inf_no (by rw [hmg]; omega)] at C1
  rw [nan_no (by rw [hmg]; omega)] at C2
  have C3 := fun W => normalize_any X W (by omega) (by omega)
  have hz := ord_zero_eq (r := X) (by omega) (by omega)
  have hlt := ord_zero_lt (r := X) (by omega) (by omega)
  have hbits := fun W => run_f64bits X W
  have han := low_andNot f y hf2 (by omega)
  rw [← hx] at han
  have had := and_exp y (by omega)
  have hdv : (X : Int) / 4503599627370496 = (y : Int) := by omega
  have CI := Lib.hid C1
  have CN := Lib.hid C2
  have CM := Lib.hid C3
  have CF := Lib.hid (fun W => inf_any W)
  by_cases hs : m < 4503599627370496
  · have hp0 : p = -1074 := by omega
    subst hp0
    have hl := hlt52 hs
    have hms := hms hs
    have hyc : y ≤ 1074 := by omega
    obtain ⟨k, hk⟩ : ∃ k, l + 2 = k := ⟨_, rfl⟩
    have hor := or_exp f k hf2 (by omega)
    rw [hf, hk] at hms
    have hke : (-1074 : Int) + ((y : Int) - 1023) + 53 + 1023 = (k : Int) := by omega
    have hfr := fun W => from_sum k f W
    have hmul : ∀ t W, (binOp .mul t (.float .f64 4368491638549381120) (.float .f64 (k * 4503599627370496 + f))).run Tryz.prog W = .ok (.float .f64 m) W := fun t W => run_float_arith W .mul t .f64 _ _ _ hms
    have HE := Lib.hid (ldB_low hm hs)
    clear f1 f2 hb hfb hfp hmg hf hy hx hl hk hms hs hc C1 C2 C3 hm h2 hlt52 hge52 hfull hf2
    go_enter Tryz.func176, Tryz.ntmps176
    go_wp2_with fail
    refine (CI.out _).mono ?_
    rintro e w' ⟨rfl, rfl⟩
    go_wp2_with fail
    refine (CN.out _).mono ?_
    rintro e w' ⟨rfl, rfl⟩
    go_wp2_with fail
    refine (CM.out _).mono ?_
    rintro e w' ⟨rfl, rfl⟩
    go_wp2_with fail
    go_wp2
    go_ret
    exact ⟨by rw [HE.out]; rfl, rfl⟩
  · have hl := hge52 (by omega)
    have hqm := hfull hl
    have hfm : f = m - 4503599627370496 := by omega
    have hyl : y = 1075 := by omega
    by_cases hov : 972 ≤ p
    · have HE := Lib.hid (ldB_inf hm (by omega) hov)
      have hp0 : (1023 : Int) < p + ((y : Int) - 1023) := by omega
      have hp1 : ¬ p + ((y : Int) - 1023) < -1075 := by omega
      have hp3 : p + ((y : Int) - 1023) ≤ 200000 := by omega
      clear f1 f2 hb hfb hfp hmg hf hy hx hl hms hs hc C1 C2 C3 hm h2 hlt52 hge52 hfull hf2 hqm hfm hyl hov
      go_enter Tryz.func176, Tryz.ntmps176
      go_wp2_with fail
      refine (CI.out _).mono ?_
      rintro e w' ⟨rfl, rfl⟩
      go_wp2_with fail
      refine (CN.out _).mono ?_
      rintro e w' ⟨rfl, rfl⟩
      go_wp2_with fail
      refine (CM.out _).mono ?_
      rintro e w' ⟨rfl, rfl⟩
      go_wp2_with fail
      refine (CF.out _).mono ?_
      rintro e w' ⟨rfl, rfl⟩
      go_wp2
      go_ret
      exact ⟨by rw [HE.out]; rfl, rfl⟩
    · obtain ⟨k, hk⟩ : ∃ k : Nat, p + 1075 = (k : Int) := ⟨(p + 1075).toNat, by omega⟩
      have hk1 : 1 ≤ k := by omega
      have hk2 : k ≤ 2046 := by omega
      have hor := or_exp f k hf2 (by omega)
      have hmo := mul_one (m := m) (k := k) (by omega) h2 hk1 hk2
      rw [← hfm] at hmo
      have hke : p + ((y : Int) - 1023) + 1023 = (k : Int) := by omega
      have hfr := fun W => from_sum k f W
      have hmul : ∀ t W, (binOp .mul t (.float .f64 4607182418800017408) (.float .f64 (k * 4503599627370496 + f))).run Tryz.prog W = .ok (.float .f64 (k * 4503599627370496 + f)) W := fun t W => run_float_arith W .mul t .f64 _ _ _ hmo
      have HE := Lib.hid (ldB_fin (by omega) h2 hk hk1 hk2 hfm)
      have hp0 : ¬ (1023 : Int) < p + ((y : Int) - 1023) := by omega
      have hp1 : ¬ p + ((y : Int) - 1023) < -1075 := by omega
      have hp2 : ¬ p + ((y : Int) - 1023) < -1022 := by omega
      clear f1 f2 hb hfb hfp hmg hf hy hx hl hms hs hc C1 C2 C3 hm h2 hlt52 hge52 hfull hf2 hqm hfm hyl hov hmo hk
      go_enter Tryz.func176, Tryz.ntmps176
      go_wp2_with fail
      refine (CI.out _).mono ?_
      rintro e w' ⟨rfl, rfl⟩
      go_wp2_with fail
      refine (CN.out _).mono ?_
      rintro e w' ⟨rfl, rfl⟩
      go_wp2_with fail
      refine (CM.out _).mono ?_
      rintro e w' ⟨rfl, rfl⟩
      go_wp2_with fail
      go_ret
      exact ⟨by rw [HE.out]; rfl, rfl⟩
theorem ldB_any (m : Nat) (p : Int) (w : World) (h2 : m < 9007199254740992) (hp : -1074 ≤ p) (hp2 : p ≤ 100000) (hc : p = -1074 ∨ 4503599627370496 ≤ m ∨ m = 0) :
    Calls Tryz.prog 176 #[.float .f64 (fw m), .int .i64 p] w fun e w' => e = .returned (.float .f64 (ldB m p)) ∧ w = w' := by
  rcases Nat.eq_zero_or_pos m with rfl | hm
  · exact ldexp_zero p w
  · exact ldexp_pos m p w hm h2 hp hp2 (by omega)
set_option maxRecDepth 100000 in
theorem ldexp_any (m : Nat) (p : Int) (w : World) (h2 : m < 9007199254740992) (hp : -1074 ≤ p) (hp2 : p ≤ 100000) (hc : p = -1074 ∨ 4503599627370496 ≤ m ∨ m = 0) :
    Calls Tryz.prog 130 #[.float .f64 (floatOfInt .f64 (m : Int)), .int .i64 p] w fun e w' => e = .returned (.float .f64 (ldB m p)) ∧ w = w' := by
  rw [float_nat h2]
  have CL := Lib.hid (ldB_any m p w h2 hp hp2 hc)
  clear h2 hp hp2 hc
  obtain ⟨X, hX⟩ : ∃ X, fw m = X := ⟨_, rfl⟩
  rw [hX] at CL ⊢
  clear hX
  go_enter Tryz.func130, Tryz.ntmps130
  go_wp2_with fail
  refine CL.out.mono ?_
  rintro e w' ⟨rfl, rfl⟩
  go_wp2
  go_ret
  exact ⟨rfl, rfl⟩
end Go.Proofs.YtddfigbpckhfbaaGreatDoor
