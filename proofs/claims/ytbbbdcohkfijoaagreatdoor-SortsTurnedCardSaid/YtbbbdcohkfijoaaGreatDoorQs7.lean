/- Several texts in one (The definition of layer 4: value, of more than 1000 digits behind the noughts; Plain: the texts of a float by e, f and g, and what is read of them. No walk here; Contracts of layer 5: Signbit, and the pieces of a number with a point (pointed); The order of floats by a whole number, and what a number is called that has no digits (boundless); Contracts of layer 5: Number, by a verb with a point, and of what has no digits; Contracts of layer 5: a number as a string, by a pattern of one part (Conv); Contracts of layer 4: what its laws share: whole numbers read, what is left of whole numbers, the fixed examples; Contracts of layer 6: values made, and what they count as; Contracts of layer 6: a value that came in; what a value counts as; values compared; Contracts of layer 6: values as strings; values compared; Contracts of layer 6: values compared as strings; truth; The example of layer 6's laws; the law CellNames; The walk of the law CellTexts; Plain: values in order. No walk here; Contracts of layer 7: orders that go by numbers or values; Layer 7: each order is one; values compared; A slice of strings that came in, opened and shut; A slice of layer 7's items that came in, opened; Contracts of layer 7's laws: entries made of items; lists of numbers compared; Contracts of layer 1: the bytes of a code, in the program and in the definition; Plain arithmetic of layer 1: the character at a place of a string; Plain arithmetic of layer 1: the places at which the characters of a string begin; Contracts of layer 1: Len, recase, Lower, Upper; Contracts of layer 7: values written; every order of the table at once; Known). -/
import Derived.WalkSpells
import Derived.RegionTactic
import Derived.ChangeAlike
import Derived.Lib.LazyBuf
import Derived.Lib.BufferRead
import Derived.Deep.RegionWith
import Derived.Deep.QuietTactic
import Derived.BigQuiet
import Derived.Deep.RegionHeld3
import Derived.Deep.DeepCutAuto
import Derived.OpenShut
import Derived.ChangeShapes
import Derived.WideShapes
import Derived.Deep.Strs
import Derived.Deep.Slices
import Derived.Deep.Fields
import Derived.ChangeSame
import Derived.Deep.RegionHeldLaw
import Derived.Deep.AppendLies
import Derived.Test.YtbbbdcohkfijoaaGreatDoorRows
import Derived.WalkKit
import Derived.WalkLawsBesides
import Derived.Lib.Hide
import Derived.Test.YtbbbdcohkfijoaaGreatDoorShelf
import Derived.Lib.DecodeN
import Derived.Shelf.Unicode.DecodeSlow
import Derived.Lib.RuneCount
import Derived.RangeFuncNested
import Derived.RangeFuncBound
import Derived.RangeFuncCalls
import Derived.RangeFuncLeaves
import Derived.Shelf.Abstract
import Derived.Shelf.RegionOpen
import Derived.OwnWalkIn
import Derived.TacticsInMore
import Derived.LoopNIn
import Derived.LoopIn
import Derived.Lib.RuneCountTail
import Derived.WalkSmall
import Derived.Deep.Upon
import Derived.Test.YtbbbdcohkfijoaaGreatDoorQs2
import Derived.Test.YtbbbdcohkfijoaaGreatDoorQs3
import Derived.Test.YtbbbdcohkfijoaaGreatDoorQs4
import Derived.Test.YtbbbdcohkfijoaaGreatDoorQs5
import Derived.Test.YtbbbdcohkfijoaaGreatDoorQs6
namespace Go.Proofs.YtbbbdcohkfijoaaGreatDoor
open Go.RowKit Go.Lib

theorem near_same {X D X' D' r : Nat} (hD : 0 < D) (hD' : 0 < D') (h : X * D' = X' * D) (a : Near X D r) : Near X' D' r := by
  have le1 : ∀ M, M * D ≤ X → M * D' ≤ X' := fun M hM => by
    refine Nat.le_of_mul_le_mul_right (c := D) ?_ hD
    rw [← h, Nat.mul_right_comm]
    exact Nat.mul_le_mul_right _ hM
  have le2 : ∀ M, X ≤ M * D → X' ≤ M * D' := fun M hM => by
    refine Nat.le_of_mul_le_mul_right (c := D) ?_ hD
    rw [← h, Nat.mul_right_comm]
    exact Nat.mul_le_mul_right _ hM
  have eq2 : ∀ M, X' = M * D' → X = M * D := fun M hM => by
    exact Nat.eq_of_mul_eq_mul_right hD' (by rw [h, hM, Nat.mul_right_comm])
  exact ⟨fun q e => le1 _ (a.lo q e), fun q e g => a.loe q e (eq2 _ g.symm).symm, fun g => le2 _ (a.hi g), fun g e => a.hie g (eq2 _ e), a.top⟩
end Go.Proofs.YtbbbdcohkfijoaaGreatDoor

namespace Go.Proofs.YtbbbdcohkfijoaaGreatDoor
open Go.RowKit Go.Lib

/-- What Sci answers of the float r with p digits behind the first one. -/
noncomputable def sciX (r p : Nat) : List UInt8 × Int :=
  @dite _ (∃ x : Int × Nat, SciOk (amN r) (amD r) p x.1 x.2) (Classical.propDecidable _) (fun h => (decs (Classical.choose h).2, (Classical.choose h).1)) (fun _ => (List.replicate (p + 1) 48, 0))
/-- Digits with a point behind the first. -/
def ptT (d : List UInt8) (q : Bool) : List UInt8 := if q = true then d.take 1 ++ 46 :: d.drop 1 else d
/-- The power of ten. -/
def expT (P : Int) : List UInt8 := (if P < 0 then [101, 45] else [101, 43]) ++ ((if P.natAbs < 10 then [48] else []) ++ decs P.natAbs)
def fixP (r q : Nat) (full : Bool) : List UInt8 := fixT (decs (rnd (amN r * 10 ^ q) (amD r))) q ++ if q = 0 ∧ full = true then [46] else []
/-- Without noughts at the end, and without a point there. -/
def trimG (full : Bool) (d : List UInt8) : List UInt8 := if full = false ∧ d.contains 46 = true then Lib.trimSuffix (Lib.trimRightB d 48) [46] else d
noncomputable def genT (r n : Nat) (full : Bool) : List UInt8 :=
  if (sciX r n).2 < -4 ∨ ((n : Int) + 1 ≤ (sciX r n).2) then trimG full (ptT (sciX r n).1 (decide (0 < n) || full)) ++ expT (sciX r n).2
  else trimG full (fixP r ((n : Int) - (sciX r n).2).toNat full)
/-- The pieces as one, as wide as is asked for. -/
def laidL (sg base D : List UInt8) (wd : Int) (minus noughts : Bool) : List UInt8 :=
  if noughts = true ∧ minus = false then sg ++ (base ++ (List.replicate (wd - ((sg ++ base ++ D).length : Int)).toNat 48 ++ D))
  else fillL (sg ++ base ++ D) (wd - ((sg ++ base ++ D).length : Int)) minus
end Go.Proofs.YtbbbdcohkfijoaaGreatDoor

namespace Go.Proofs.YtbbbdcohkfijoaaGreatDoor
open Go.RowKit Go.Lib

def sbB (x : Nat) : Bool := decide (9223372036854775808 ≤ x)
theorem Five.three {W : World} {g : Nat} {a b c : Value} {t : TypeId} (h : Five W g #[a, b, c] t) : W.cell? ⟨g, 0, none⟩ = some a ∧ W.cell? ⟨g, 1, none⟩ = some b ∧ W.cell? ⟨g, 2, none⟩ = some c ∧ W.frozen? ⟨g, 0, none⟩ = false ∧ W.frozen? ⟨g, 1, none⟩ = false ∧ W.frozen? ⟨g, 2, none⟩ = false :=
  ⟨h.cell 0, h.cell 1, h.cell 2, h.fro 0, h.fro 1, h.fro 2⟩
/-- The digits of a number by a verb with a point. -/
noncomputable def ptD (r : Nat) (pr : Int) (a : Bool) (c : Nat) : List UInt8 :=
  if c = 102 ∨ c = 70 then fixP r (if pr < 0 then 6 else pr).toNat a
  else if c = 101 ∨ c = 69 then ptT (sciX r (if pr < 0 then 6 else pr).toNat).1 (decide (0 < (if pr < 0 then 6 else pr).toNat) || a) ++ expT (sciX r (if pr < 0 then 6 else pr).toNat).2
  else genT r ((max 1 (if pr < 0 then 6 else pr)) - 1).toNat a
end Go.Proofs.YtbbbdcohkfijoaaGreatDoor

namespace Go.Proofs.YtbbbdcohkfijoaaGreatDoor
open Go.RowKit Go.Lib

/-- Floats in order: a whole number for each that is no NaN. -/
def keyZ (x : Nat) : Int := if (x / 9223372036854775808 % 2 == 1) = true then -(mag x : Int) else (mag x : Int)
theorem cmp_ext {a b c d : Int} (h1 : a < b ↔ c < d) (h2 : a = b ↔ c = d) : compare a b = compare c d := by
  rcases Int.lt_trichotomy a b with h | h | h
  · rw [Int.compare_eq_lt.2 h, Int.compare_eq_lt.2 (h1.1 h)]
  · rw [Int.compare_eq_eq.2 h, Int.compare_eq_eq.2 (h2.1 h)]
  · rw [Int.compare_eq_gt.2 h, Int.compare_eq_gt.2 (by omega)]
theorem cmp_iff {a b c d : Int} (h : compare a b = compare c d) : (a < b ↔ c < d) ∧ (a = b ↔ c = d) :=
  ⟨by rw [← Int.compare_eq_lt, ← Int.compare_eq_lt, h], by rw [← Int.compare_eq_eq, ← Int.compare_eq_eq, h]⟩
theorem manF_zero {r : Nat} : manF r = 0 ↔ r = 0 := by
  unfold manF
  split <;> omega
theorem order_key {x y : Nat} (hx : mag x ≤ 9218868437227405312) (hy : mag y ≤ 9218868437227405312) : Ieee.double.order x y = some (compare (keyZ x) (keyZ y)) := by
  unfold Ieee.Format.order keyZ
  have bx := mag_lt x
  have by' := mag_lt y
  rcases Nat.lt_or_ge (mag x) 9218868437227405312 with h1 | h1
  · rcases Nat.lt_or_ge (mag y) 9218868437227405312 with h2 | h2
    · have hV := order_V h1 h2
      unfold Ieee.Format.order at hV
      rw [read_fin (by rw [mag_no h1]; exact h1), read_fin (by rw [mag_no h2]; exact h2), mag_no h1, mag_no h2] at hV
      rw [read_fin h1, read_fin h2]
      have s1 : (mag x / 9223372036854775808 % 2 == 1) = false := by rw [beq_eq_false_iff_ne]; omega
      have s2 : (mag y / 9223372036854775808 % 2 == 1) = false := by rw [beq_eq_false_iff_ne]; omega
      rw [s1, s2] at hV
      change some (compare (Ieee.signed false (manF (mag x)) (expF (mag x) - min (expF (mag x)) (expF (mag y))).toNat) (Ieee.signed false (manF (mag y)) (expF (mag y) - min (expF (mag x)) (expF (mag y))).toNat)) = _ at hV
      change some (compare (Ieee.signed _ (manF (mag x)) (expF (mag x) - min (expF (mag x)) (expF (mag y))).toNat) (Ieee.signed _ (manF (mag y)) (expF (mag y) - min (expF (mag x)) (expF (mag y))).toNat)) = _
      have hz1 := @manF_zero (mag x)
      have hz2 := @manF_zero (mag y)
      generalize (x / 9223372036854775808 % 2 == 1) = sx
      generalize (y / 9223372036854775808 % 2 == 1) = sy
      generalize (expF (mag x) - min (expF (mag x)) (expF (mag y))).toNat = k1 at *
      generalize (expF (mag y) - min (expF (mag x)) (expF (mag y))).toNat = k2 at *
      generalize manF (mag x) = m1 at *
      generalize manF (mag y) = m2 at *
      unfold Ieee.signed at hV ⊢
      have q1 : m1 <<< k1 = 0 ↔ m1 = 0 := by
        rw [Nat.shiftLeft_eq]
        constructor
        · intro h
          rcases Nat.mul_eq_zero.1 h with h | h
          · exact h
          · have := Nat.pow_pos (n := k1) (show 0 < 2 by omega); omega
        · rintro rfl; exact Nat.zero_mul _
      have q2 : m2 <<< k2 = 0 ↔ m2 = 0 := by
        rw [Nat.shiftLeft_eq]
        constructor
        · intro h
          rcases Nat.mul_eq_zero.1 h with h | h
          · exact h
          · have := Nat.pow_pos (n := k2) (show 0 < 2 by omega); omega
        · rintro rfl; exact Nat.zero_mul _
      generalize m1 <<< k1 = A at *
      generalize m2 <<< k2 = C at *
      obtain ⟨e1, e2⟩ := cmp_iff (Option.some.inj hV)
      simp only [Bool.false_eq_true, ↓reduceIte] at e1 e2
      congr 1
      have n1 : A = 0 ↔ mag x = 0 := q1.trans hz1
      have n2 : C = 0 ↔ mag y = 0 := q2.trans hz2
      clear q1 q2 hz1 hz2 hV
      cases sx <;> cases sy <;> simp only [Bool.false_eq_true, ↓reduceIte]
      all_goals refine cmp_ext ⟨fun h => ?_, fun h => ?_⟩ ⟨fun h => ?_, fun h => ?_⟩ <;> omega
    · rw [read_fin h1, read_inf (by omega)]
      show some (if (y / 9223372036854775808 % 2 == 1) then Ordering.gt else Ordering.lt) = _
      generalize (x / 9223372036854775808 % 2 == 1) = sx
      generalize (y / 9223372036854775808 % 2 == 1) = sy
      congr 1
      cases sx <;> cases sy <;> simp only [Bool.false_eq_true, ↓reduceIte]
      · exact (Int.compare_eq_lt.2 (by omega)).symm
      · exact (Int.compare_eq_gt.2 (by omega)).symm
      · exact (Int.compare_eq_lt.2 (by omega)).symm
      · exact (Int.compare_eq_gt.2 (by omega)).symm
  · rcases Nat.lt_or_ge (mag y) 9218868437227405312 with h2 | h2
    · rw [read_inf (by omega), read_fin h2]
      show some (if (x / 9223372036854775808 % 2 == 1) then Ordering.lt else Ordering.gt) = _
      generalize (x / 9223372036854775808 % 2 == 1) = sx
      generalize (y / 9223372036854775808 % 2 == 1) = sy
      congr 1
      cases sx <;> cases sy <;> simp only [Bool.false_eq_true, ↓reduceIte]
      · exact (Int.compare_eq_gt.2 (by omega)).symm
      · exact (Int.compare_eq_gt.2 (by omega)).symm
      · exact (Int.compare_eq_lt.2 (by omega)).symm
      · exact (Int.compare_eq_lt.2 (by omega)).symm
    · rw [read_inf (by omega), read_inf (by omega)]
      have e1 : mag x = 9218868437227405312 := by omega
      have e2 : mag y = 9218868437227405312 := by omega
      rw [e1, e2]
      generalize (x / 9223372036854775808 % 2 == 1) = sx
      generalize (y / 9223372036854775808 % 2 == 1) = sy
      cases sx <;> cases sy <;> rfl
theorem order_nan_l {x y : Nat} (h : 9218868437227405312 < mag x) : Ieee.double.order x y = none := by
  unfold Ieee.Format.order
  rw [read_nan h]
  rfl
theorem order_nan_r {x y : Nat} (h : 9218868437227405312 < mag y) : Ieee.double.order x y = none := by
  unfold Ieee.Format.order
  rw [read_nan h]
  cases Ieee.double.read x <;> rfl
/-- Is it +inf, is it -inf? -/
def infP (x : Nat) : Bool := decide (x = 9218868437227405312)
def infM (x : Nat) : Bool := decide (x = 18442240474082181120)
/-- What a number is called that has no digits. -/
def oddL (x : Nat) : Option (List UInt8) := if nanB x = true then some [43, 110, 97, 110] else if infP x = true then some [43, 105, 110, 102] else if infM x = true then some [45, 105, 110, 102] else none
end Go.Proofs.YtbbbdcohkfijoaaGreatDoor

namespace Go.Proofs.YtbbbdcohkfijoaaGreatDoor
open Go.RowKit Go.Lib

/-- Capitals, if the verb writes them. -/
def capL (c : Nat) (l : List UInt8) : List UInt8 := if vCap.contains c.toUInt8 = true then Lib.toUpperA l else l
noncomputable def pointT (m p b a z : Bool) (wd pr : Int) (c x : Nat) : List UInt8 := laidL (signL p b c (sbB x)) [] (capL c (ptD (mag x) pr a c)) wd m z
end Go.Proofs.YtbbbdcohkfijoaaGreatDoor

namespace Go.Proofs.YtbbbdcohkfijoaaGreatDoor
open Go.RowKit Go.Lib

/-- %.6g, %.3f, %.17g -/
abbrev p6g : ByteArray := ⟨#[37, 46, 54, 103]⟩
/-- What Conv answers by "%.6g". -/
noncomputable def conv6 (x : Nat) : List UInt8 := if wholeB x 4846369599423283200 = true then wholeT x else match oddL x with
  | some n => n
  | none => pointT false false false false false 0 6 103 x
end Go.Proofs.YtbbbdcohkfijoaaGreatDoor

namespace Go.Proofs.YtbbbdcohkfijoaaGreatDoor
open Go.RowKit Go.Lib

theorem f3 : fw 3 = 4613937818241073152 := by decide +kernel
theorem f1 : fw 1 = 4607182418800017408 := by decide +kernel
end Go.Proofs.YtbbbdcohkfijoaaGreatDoor

namespace Go.Proofs.YtbbbdcohkfijoaaGreatDoor
open Go.RowKit Go.Lib

theorem run_store_float (a : Addr) (n : Nat) (m : Mode) (w : World) : (store a (.float .f64 n) m).run Tryz.prog w = stored Tryz.prog w a (.float .f64 n) m := run_store _ w a _ m rfl
set_option maxRecDepth 100000 in
theorem cOf_any (x : Nat) (w : World) : Calls Tryz.prog 82 #[.float .f64 x] w fun e w' => e = .returned (.agg #[.int .i64 1, .float .f64 x, .string ⟨#[]⟩]) ∧ Below w.heap.size w w' := by
  have F := Lib.hid (Five.new w #[.int .i64 0, .float .f64 0, .string ⟨#[]⟩] 48)
  have HB := Lib.hid ((Below.refl w.heap.size w).alloc (Nat.le_refl _) (.cells #[.int .i64 0, .float .f64 0, .string ⟨#[]⟩] 48))
  obtain ⟨q0, q1, q2, r0, r1, r2⟩ := F.out.three
  have hst := run_store_float
  go_enter Tryz.func82, Tryz.ntmps82
  go_wp2_with fail
  exact bodyPost_ret (v := .agg #[.int .i64 1, .float .f64 x, .string ⟨#[]⟩]) (by simp [results, Tryz.results82, go_sem]) rfl ⟨rfl, (Below.refl w.heap.size w).alloc (Nat.le_refl _) _⟩
/-- The float nearest to a fraction. -/
noncomputable def nearR (X D : Nat) : Nat := @dite _ (∃ r, Near X D r) (Classical.propDecidable _) (fun h => Classical.choose h) (fun _ => 0)
theorem nearR_of {X D r : Nat} (hD : 0 < D) (h : Near X D r) : nearR X D = r := by
  unfold nearR
  have he : ∃ r, Near X D r := ⟨r, h⟩
  rw [dif_pos he]
  exact (Classical.choose_spec he).uniq hD hD rfl h
/-- The number that a text begins with. -/
noncomputable def preN (l : List UInt8) : Nat := turned (sigL l).1 (nearR (2 * (pv ((sigL l).2.1 ++ (sigL l).2.2.1) * 10 ^ ((sigL l).2.2.2.1 - ((sigL l).2.2.1.length : Int)).toNat) * S1074) (10 ^ (-((sigL l).2.2.2.1 - ((sigL l).2.2.1.length : Int))).toNat))
theorem prefix_val (s : ByteArray) (w : World) (hs : s.size ≤ 140737488355328) : Calls Tryz.prog 52 #[.string s] w fun e w' => e = .returned (.tuple #[.float .f64 (preN s.data.toList), .int .i64 (sigL s.data.toList).2.2.2.2]) ∧ Below w.heap.size w w' := by
  obtain ⟨b, X1, X2, xe, z, hX⟩ : ∃ b X1 X2 xe z, sigL s.data.toList = (b, X1, X2, xe, z) := ⟨_, _, _, _, _, rfl⟩
  refine (prefix_any s w hs b X1 X2 xe z hX).mono ?_
  rintro e w' ⟨r, rfl, hN, hB⟩
  refine ⟨?_, hB⟩
  unfold preN
  rw [hX]
  simp only
  rw [nearR_of (Nat.pow_pos (by omega)) hN.out]
end Go.Proofs.YtbbbdcohkfijoaaGreatDoor

namespace Go.Proofs.YtbbbdcohkfijoaaGreatDoor
open Go.RowKit Go.Lib

/-- A value as a number. -/
noncomputable def numV2 (k : Int) (n : Nat) (s : ByteArray) : Nat := if k = 1 ∨ k = 3 then n else if k = 2 then preN s.data.toList else 0
set_option maxRecDepth 100000 in
set_option maxHeartbeats 4000000 in
theorem cNumber_any (k : Int) (n : Nat) (s : ByteArray) (w : World) (hs : s.size ≤ 140737488355328) : Calls Tryz.prog 84 #[.agg #[.int .i64 k, .float .f64 n, .string s]] w fun e w' => e = .returned (.float .f64 (numV2 k n s)) ∧ Below w.heap.size w w' := by
  have cP := fun W => prefix_val s W hs
  have F := Five.new w #[.int .i64 k, .float .f64 n, .string s] 48
  have hb := (Below.refl w.heap.size w).alloc (Nat.le_refl _) (.cells #[.int .i64 k, .float .f64 n, .string s] 48)
  unfold numV2
  obtain ⟨x, hx⟩ : ∃ x, preN s.data.toList = x := ⟨_, rfl⟩
  obtain ⟨zz, hzz⟩ : ∃ zz, (sigL s.data.toList).2.2.2.2 = zz := ⟨_, rfl⟩
  rw [hx, hzz] at cP
  rw [hx]
  obtain ⟨y, hy⟩ : ∃ y, (if k = 1 ∨ k = 3 then n else if k = 2 then x else 0) = y := ⟨_, rfl⟩
  rw [hy]
  have HY := Lib.hid hy
  have CP := Lib.hid cP
  have HB := Lib.hid hb
  clear cP hx hzz hy hb F
  have hcase : k = 1 ∨ k = 3 ∨ k = 2 ∨ (k ≠ 1 ∧ k ≠ 3 ∧ k ≠ 2) := by omega
  rcases hcase with rfl | rfl | rfl | ⟨h1, h2, h3⟩
  · go_enter Tryz.func84, Tryz.ntmps84
    go_wp2_with fail
    go_ret
    exact ⟨by rw [← HY.out]; rfl, HB.out⟩
  · go_enter Tryz.func84, Tryz.ntmps84
    go_wp2_with fail
    go_ret
    exact ⟨by rw [← HY.out]; rfl, HB.out⟩
  · go_enter Tryz.func84, Tryz.ntmps84
    go_wp2_with fail
    refine (CP.out _).mono ?_
    rintro e W2 ⟨rfl, h2⟩
    have hBf := HB.out.trans (h2.mono HB.out.size)
    clear h2
    go_wp2_with fail
    go_ret
    exact ⟨by rw [← HY.out]; rfl, hBf⟩
  · have v1 : (k == 1) = false := by rw [beq_eq_false_iff_ne]; exact h1
    have v2 : (k == 3) = false := by rw [beq_eq_false_iff_ne]; exact h2
    have v3 : (k == 2) = false := by rw [beq_eq_false_iff_ne]; exact h3
    have hy0 : y = 0 := by rw [← HY.out, if_neg (by omega), if_neg h3]
    clear h1 h2 h3
    go_enter Tryz.func84, Tryz.ntmps84
    go_wp2_with fail
    go_ret
    exact ⟨by first | rfl | (rw [hy0]; rfl), HB.out⟩
end Go.Proofs.YtbbbdcohkfijoaaGreatDoor

namespace Go.Proofs.YtbbbdcohkfijoaaGreatDoor
open Go.RowKit Go.Lib

set_option maxRecDepth 100000 in
set_option maxHeartbeats 4000000 in
theorem written_str (k : Int) (n : Nat) (s P : ByteArray) (w : World) (h : k = 2 ∨ k = 3) : Calls Tryz.prog 88 #[.agg #[.int .i64 k, .float .f64 n, .string s], .string P] w fun e w' => e = .returned (.string s) ∧ Below w.heap.size w w' := by
  have hb := (Below.refl w.heap.size w).alloc (Nat.le_refl _) (.cells #[.int .i64 k, .float .f64 n, .string s] 48)
  have HB := Lib.hid hb
  clear hb
  rcases h with rfl | rfl
  all_goals
    go_enter Tryz.func88, Tryz.ntmps88
    go_wp2_with fail
    go_ret
    exact ⟨rfl, HB.out⟩
set_option maxRecDepth 100000 in
set_option maxHeartbeats 4000000 in
theorem written_none (k : Int) (n : Nat) (s P : ByteArray) (w : World) (h1 : k ≠ 1) (h2 : k ≠ 2) (h3 : k ≠ 3) : Calls Tryz.prog 88 #[.agg #[.int .i64 k, .float .f64 n, .string s], .string P] w fun e w' => e = .returned (.string ⟨#[]⟩) ∧ Below w.heap.size w w' := by
  have hb := (Below.refl w.heap.size w).alloc (Nat.le_refl _) (.cells #[.int .i64 k, .float .f64 n, .string s] 48)
  have HB := Lib.hid hb
  have v1 : (k == 1) = false := by rw [beq_eq_false_iff_ne]; exact h1
  have v2 : (k == 3) = false := by rw [beq_eq_false_iff_ne]; exact h3
  have v3 : (k == 2) = false := by rw [beq_eq_false_iff_ne]; exact h2
  clear hb h1 h2 h3
  go_enter Tryz.func88, Tryz.ntmps88
  go_wp2_with fail
  go_ret
  exact ⟨rfl, HB.out⟩
set_option maxRecDepth 100000 in
set_option maxHeartbeats 4000000 in
theorem written_num (n : Nat) (s P T : ByteArray) (w : World) (hC : ∀ W, PowTab W → Calls Tryz.prog 71 #[.float .f64 n, .string P] W fun e w' => e = .returned (.string T) ∧ Below W.heap.size W w') (hT : PowTab w) : Calls Tryz.prog 88 #[.agg #[.int .i64 1, .float .f64 n, .string s], .string P] w fun e w' => e = .returned (.string T) ∧ Below w.heap.size w w' := by
  have hb := (Below.refl w.heap.size w).alloc (Nat.le_refl _) (.cells #[.int .i64 1, .float .f64 n, .string s] 48)
  have C := Lib.hid (hC _ (Lib.tabBelow_of_tabIs hT _ hb))
  have HB := Lib.hid hb
  clear hb hC hT
  go_enter Tryz.func88, Tryz.ntmps88
  go_wp2_with fail
  refine C.out.mono ?_
  rintro e W2 ⟨rfl, h2⟩
  have hBf := HB.out.trans (h2.mono HB.out.size)
  clear h2
  go_wp2_with fail
  go_ret
  exact ⟨rfl, hBf⟩
/-- A value as a string, by a pattern that makes T of its number. -/
def wrT (k : Int) (s T : ByteArray) : ByteArray := if k = 1 then T else if k = 2 ∨ k = 3 then s else ⟨#[]⟩
theorem written_any (k : Int) (n : Nat) (s P T : ByteArray) (w : World) (hC : k = 1 → ∀ W, PowTab W → Calls Tryz.prog 71 #[.float .f64 n, .string P] W fun e w' => e = .returned (.string T) ∧ Below W.heap.size W w') (hT : PowTab w) : Calls Tryz.prog 88 #[.agg #[.int .i64 k, .float .f64 n, .string s], .string P] w fun e w' => e = .returned (.string (wrT k s T)) ∧ Below w.heap.size w w' := by
  unfold wrT
  by_cases h1 : k = 1
  · subst h1
    rw [if_pos rfl]
    exact written_num n s P T w (hC rfl) hT
  · rw [if_neg h1]
    by_cases h2 : k = 2 ∨ k = 3
    · rw [if_pos h2]
      exact written_str k n s P w h2
    · rw [if_neg h2]
      exact written_none k n s P w h1 (by omega) (by omega)
/-- Numbers in order, NaN behind all others. -/
def rkB (x : Nat) : Int := if nanB x = true then 1 else 0
def ltB (x y : Nat) : Bool := FloatKind.f64.format.order x y == some .lt
def gtB (x y : Nat) : Bool := FloatKind.f64.format.order x y == some .gt
def cmpN (x y : Nat) : Int := if ltB x y = true then -1 else if gtB x y = true then 1 else rkB x - rkB y
set_option maxRecDepth 100000 in
theorem rank_any (x : Nat) (w : World) : Calls Tryz.prog 139 #[.float .f64 x] w fun e w' => e = .returned (.int .i64 (rkB x)) ∧ w = w' := by
  have cN := fun W => isNaN_any x W
  unfold rkB
  generalize nanB x = v at *
  have CN := Lib.hid cN
  clear cN
  cases v with
  | true =>
    go_enter Tryz.func139, Tryz.ntmps139
    go_wp2_with fail
    refine (CN.out _).mono ?_
    rintro e w' ⟨rfl, rfl⟩
    go_wp2_with fail
    go_ret
    exact ⟨rfl, rfl⟩
  | false =>
    go_enter Tryz.func139, Tryz.ntmps139
    go_wp2_with fail
    refine (CN.out _).mono ?_
    rintro e w' ⟨rfl, rfl⟩
    go_wp2_with fail
    go_ret
    exact ⟨rfl, rfl⟩
set_option maxRecDepth 100000 in
set_option maxHeartbeats 4000000 in
theorem cmpNum_any (x y : Nat) (w : World) : Calls Tryz.prog 86 #[.float .f64 x, .float .f64 y] w fun e w' => e = .returned (.int .i64 (cmpN x y)) ∧ w = w' := by
  have C1 := Lib.hid (fun W => rank_any x W)
  have C2 := Lib.hid (fun W => rank_any y W)
  have hr1 : 0 ≤ rkB x ∧ rkB x ≤ 1 := by unfold rkB; split <;> omega
  have hr2 : 0 ≤ rkB y ∧ rkB y ≤ 1 := by unfold rkB; split <;> omega
  obtain ⟨a, ha⟩ : ∃ a, rkB x = a := ⟨_, rfl⟩
  obtain ⟨b, hb⟩ : ∃ b, rkB y = b := ⟨_, rfl⟩
  have C1 := C1.out
  have C2 := C2.out
  rw [ha] at C1 hr1
  rw [hb] at C2 hr2
  have C1 := Lib.hid C1
  have C2 := Lib.hid C2
  obtain ⟨c, hc⟩ : ∃ c, cmpN x y = c := ⟨_, rfl⟩
  rw [hc]
  unfold cmpN at hc
  rw [ha, hb] at hc
  obtain ⟨v, hv⟩ : ∃ v, ltB x y = v := ⟨_, rfl⟩
  obtain ⟨u, hu⟩ : ∃ u, gtB x y = u := ⟨_, rfl⟩
  rw [hv, hu] at hc
  have hv2 : (FloatKind.f64.format.order x y == some .lt) = v := hv
  have hu2 : (FloatKind.f64.format.order x y == some .gt) = u := hu
  have HC := Lib.hid hc
  obtain ⟨hr1a, hr1b⟩ := hr1
  obtain ⟨hr2a, hr2b⟩ := hr2
  have hwr : IntKind.i64.wrap (a - b) = a - b := by rw [IntKind.wrap_i64]; omega
  have hwr2 : wrap64 (a - b) = a - b := by unfold wrap64; omega
  clear ha hb hc hv hu
  cases v with
  | true =>
    go_enter Tryz.func86, Tryz.ntmps86
    go_wp2_with fail
    go_ret
    exact ⟨by rw [← HC.out]; rfl, rfl⟩
  | false =>
    cases u with
    | true =>
      go_enter Tryz.func86, Tryz.ntmps86
      go_wp2_with fail
      go_ret
      exact ⟨by rw [← HC.out]; rfl, rfl⟩
    | false =>
      go_enter Tryz.func86, Tryz.ntmps86
      go_wp2_with fail
      refine (C1.out _).mono ?_
      rintro e w' ⟨rfl, rfl⟩
      go_wp2_with fail
      refine (C2.out _).mono ?_
      rintro e w' ⟨rfl, rfl⟩
      go_wp2_with fail
      go_ret
      exact ⟨by rw [← HC.out]; rfl, rfl⟩
set_option maxRecDepth 100000 in
set_option maxHeartbeats 8000000 in
theorem cCompare_num (ka kb : Int) (x y : Nat) (s t P : ByteArray) (w : World) (ha : ka ≠ 2) (hb : kb ≠ 2) (hs : s.size ≤ 140737488355328) (ht : t.size ≤ 140737488355328) :
    Calls Tryz.prog 31 #[.agg #[.int .i64 ka, .float .f64 x, .string s], .agg #[.int .i64 kb, .float .f64 y, .string t], .string P] w fun e w' => e = .returned (.int .i64 (cmpN (numV2 ka x s) (numV2 kb y t))) ∧ Below w.heap.size w w' := by
  have v1 : (ka != 2) = true := by rw [bne_iff_ne]; exact ha
  have v2 : (kb != 2) = true := by rw [bne_iff_ne]; exact hb
  have v3 : (ka == 2) = false := by rw [beq_eq_false_iff_ne]; exact ha
  have v4 : (kb == 2) = false := by rw [beq_eq_false_iff_ne]; exact hb
  have CA := Lib.hid (fun W => cNumber_any ka x s W hs)
  have CB := Lib.hid (fun W => cNumber_any kb y t W ht)
  have CC := Lib.hid (fun W => cmpNum_any (numV2 ka x s) (numV2 kb y t) W)
  have fA := (Five.new w #[.int .i64 ka, .float .f64 x, .string s] 48).alloc (.cells #[.int .i64 kb, .float .f64 y, .string t] 48)
  have fB := Five.new (w.alloc (.cells #[.int .i64 ka, .float .f64 x, .string s] 48)) #[.int .i64 kb, .float .f64 y, .string t] 48
  have hB0 := ((Below.refl w.heap.size w).alloc (Nat.le_refl _) (.cells #[.int .i64 ka, .float .f64 x, .string s] 48)).alloc (by simp) (.cells #[.int .i64 kb, .float .f64 y, .string t] 48)
  rw [World.size_alloc] at fB
  obtain ⟨B, hB⟩ : ∃ B, w.heap.size = B := ⟨_, rfl⟩
  obtain ⟨W2, hW2⟩ : ∃ W2, (w.alloc (.cells #[.int .i64 ka, .float .f64 x, .string s] 48)).alloc (.cells #[.int .i64 kb, .float .f64 y, .string t] 48) = W2 := ⟨_, rfl⟩
  rw [hW2] at fA fB hB0
  rw [hB] at fA fB hB0 ⊢
  have HB := Lib.hid hB
  have HW2 := Lib.hid hW2
  have hle : B ≤ W2.heap.size := Nat.le_of_lt fA.lt
  have FA := Lib.hid fA
  have FB := Lib.hid fB
  have HB0 := Lib.hid hB0
  have HCW := Lib.hid (fun (W : World) (h : Below W2.heap.size W2 W) => (show W.cell? ⟨B, 0, none⟩ = some (.int .i64 ka) ∧ W.cell? ⟨B, 1, none⟩ = some (.float .f64 x) ∧ W.cell? ⟨B, 2, none⟩ = some (.string s) ∧ W.cell? ⟨B + 1, 0, none⟩ = some (.int .i64 kb) ∧ W.cell? ⟨B + 1, 1, none⟩ = some (.float .f64 y) ∧ W.cell? ⟨B + 1, 2, none⟩ = some (.string t) from ⟨(FA.out.below h).cell 0, (FA.out.below h).cell 1, (FA.out.below h).cell 2, (FB.out.below h).cell 0, (FB.out.below h).cell 1, (FB.out.below h).cell 2⟩))
  obtain ⟨a0, a1, a2, b0, b1, b2⟩ := HCW.out W2 (Below.refl _ _)
  clear ha hb hB hW2 fA fB hB0
  go_enter Tryz.func31, Tryz.ntmps31
  go_wp2_with fail
  rw [HW2.out, HB.out]
  go_region_held3 (fun w' => w'.cell? ⟨B, 0, none⟩ = some (.int .i64 ka) ∧ w'.cell? ⟨B, 1, none⟩ = some (.float .f64 x) ∧ w'.cell? ⟨B, 2, none⟩ = some (.string s) ∧ w'.cell? ⟨B + 1, 0, none⟩ = some (.int .i64 kb) ∧ w'.cell? ⟨B + 1, 1, none⟩ = some (.float .f64 y) ∧ w'.cell? ⟨B + 1, 2, none⟩ = some (.string t))
    (first | (with_reducible exact S3) | (with_reducible exact S2) | (with_reducible exact S1) | go_keep)
    (first
    | (go_at_call 84; (with_reducible refine (CA.out _).mono ?_); rintro e W3 ⟨rfl, h3⟩; have b3 : Below W2.heap.size W2 W3 := ⟨h3.os, h3.tape, h3.output, h3.size, h3.block⟩; have S1 := HCW.out _ b3; clear h3)
    | (go_at_call 84; (with_reducible refine (CB.out _).mono ?_); rintro e W4 ⟨rfl, h4⟩; have b4 : Below W2.heap.size W2 W4 := b3.trans ((⟨h4.os, h4.tape, h4.output, h4.size, h4.block⟩ : Below W3.heap.size W3 W4).mono b3.size); have S2 := HCW.out _ b4; clear h4)
    | (go_at_call 86; (with_reducible refine (CC.out _).mono ?_); rintro e w' ⟨rfl, rfl⟩))
  all_goals
    have hBf := HB0.out.trans (b4.mono hle)
    go_wp2_with fail
    go_ret
    exact ⟨rfl, by first | exact hBf | exact ⟨hBf.os, hBf.tape, hBf.output, hBf.size, hBf.block⟩⟩
end Go.Proofs.YtbbbdcohkfijoaaGreatDoor

namespace Go.Proofs.YtbbbdcohkfijoaaGreatDoor
open Go.RowKit Go.Lib

set_option maxRecDepth 100000 in
set_option maxHeartbeats 8000000 in
theorem cCompare_str (ka kb : Int) (x y : Nat) (s t P TA TB : ByteArray) (w : World) (hab : ka = 2 ∨ (ka ≠ 2 ∧ kb = 2)) (hTA : ka = 1 → ∀ W, PowTab W → Calls Tryz.prog 71 #[.float .f64 x, .string P] W fun e w' => e = .returned (.string TA) ∧ Below W.heap.size W w') (hTB : kb = 1 → ∀ W, PowTab W → Calls Tryz.prog 71 #[.float .f64 y, .string P] W fun e w' => e = .returned (.string TB) ∧ Below W.heap.size W w') (hT : PowTab w) :
    Calls Tryz.prog 31 #[.agg #[.int .i64 ka, .float .f64 x, .string s], .agg #[.int .i64 kb, .float .f64 y, .string t], .string P] w fun e w' => e = .returned (.int .i64 (Lib.compareBytes (wrT ka s TA).data.toList (wrT kb t TB).data.toList)) ∧ Below w.heap.size w w' := by
  have CA := Lib.hid (fun (W : World) (hW : PowTab W) => written_any ka x s P TA W hTA hW)
  have CB := Lib.hid (fun (W : World) (hW : PowTab W) => written_any kb y t P TB W hTB hW)
  have CC := Lib.hid (fun W => Tryz.strings_Compare (wrT ka s TA) (wrT kb t TB) W)
  have HT := Lib.hid (Lib.tabBelow_of_tabIs hT)
  have fA := (Five.new w #[.int .i64 ka, .float .f64 x, .string s] 48).alloc (.cells #[.int .i64 kb, .float .f64 y, .string t] 48)
  have fB := Five.new (w.alloc (.cells #[.int .i64 ka, .float .f64 x, .string s] 48)) #[.int .i64 kb, .float .f64 y, .string t] 48
  have hB0 := ((Below.refl w.heap.size w).alloc (Nat.le_refl _) (.cells #[.int .i64 ka, .float .f64 x, .string s] 48)).alloc (by simp) (.cells #[.int .i64 kb, .float .f64 y, .string t] 48)
  rw [World.size_alloc] at fB
  obtain ⟨B, hB⟩ : ∃ B, w.heap.size = B := ⟨_, rfl⟩
  obtain ⟨W2, hW2⟩ : ∃ W2, (w.alloc (.cells #[.int .i64 ka, .float .f64 x, .string s] 48)).alloc (.cells #[.int .i64 kb, .float .f64 y, .string t] 48) = W2 := ⟨_, rfl⟩
  rw [hW2] at fA fB hB0
  rw [hB] at fA fB hB0 ⊢
  have HB := Lib.hid hB
  have HW2 := Lib.hid hW2
  have hle : B ≤ W2.heap.size := Nat.le_of_lt fA.lt
  have FA := Lib.hid fA
  have FB := Lib.hid fB
  have HB0 := Lib.hid hB0
  have HCW := Lib.hid (fun (W : World) (h : Below W2.heap.size W2 W) => (show W.cell? ⟨B, 0, none⟩ = some (.int .i64 ka) ∧ W.cell? ⟨B, 1, none⟩ = some (.float .f64 x) ∧ W.cell? ⟨B, 2, none⟩ = some (.string s) ∧ W.cell? ⟨B + 1, 0, none⟩ = some (.int .i64 kb) ∧ W.cell? ⟨B + 1, 1, none⟩ = some (.float .f64 y) ∧ W.cell? ⟨B + 1, 2, none⟩ = some (.string t) from ⟨(FA.out.below h).cell 0, (FA.out.below h).cell 1, (FA.out.below h).cell 2, (FB.out.below h).cell 0, (FB.out.below h).cell 1, (FB.out.below h).cell 2⟩))
  obtain ⟨a0, a1, a2, b0, b1, b2⟩ := HCW.out W2 (Below.refl _ _)
  have hTW := fun (W : World) (h : Below W2.heap.size W2 W) => HT.out W (by rw [hB]; exact hB0.trans (h.mono hle))
  have HTW := Lib.hid hTW
  clear hB hW2 fA fB hB0 hTA hTB hT hTW
  obtain ⟨XA, hXA⟩ : ∃ XA, wrT ka s TA = XA := ⟨_, rfl⟩
  obtain ⟨XB, hXB⟩ : ∃ XB, wrT kb t TB = XB := ⟨_, rfl⟩
  rw [hXA, hXB] at CC ⊢
  rw [hXA] at CA
  rw [hXB] at CB
  obtain ⟨R, hR2⟩ : ∃ R, Lib.compareBytes XA.data.toList XB.data.toList = R := ⟨_, rfl⟩
  rw [hR2] at CC ⊢
  clear hR2 hXA hXB
  have hR := Below.refl W2.heap.size W2
  have hcase : (ka = 2) ∨ ((ka != 2) = true ∧ (ka == 2) = false ∧ kb = 2) := by
    rcases hab with h | ⟨h1, h2⟩
    · exact Or.inl h
    · exact Or.inr ⟨by rw [bne_iff_ne]; exact h1, by rw [beq_eq_false_iff_ne]; exact h1, h2⟩
  clear hab
  rcases hcase with rfl | ⟨v1, v2, rfl⟩
  · go_enter Tryz.func31, Tryz.ntmps31
    go_wp2_with fail
    rw [HW2.out, HB.out]
    go_region_held3 (fun w' => w'.cell? ⟨B, 0, none⟩ = some (.int .i64 2) ∧ w'.cell? ⟨B, 1, none⟩ = some (.float .f64 x) ∧ w'.cell? ⟨B, 2, none⟩ = some (.string s) ∧ w'.cell? ⟨B + 1, 0, none⟩ = some (.int .i64 kb) ∧ w'.cell? ⟨B + 1, 1, none⟩ = some (.float .f64 y) ∧ w'.cell? ⟨B + 1, 2, none⟩ = some (.string t))
      (first | (with_reducible exact S3) | (with_reducible exact S2) | (with_reducible exact S1) | go_keep)
      (first
      | (go_at_call 88; (with_reducible refine (CA.out _ (HTW.out _ (by first | exact hR | exact hR.drew | exact below_drewN hR _))).mono ?_); rintro e W3 ⟨rfl, h3⟩; have b3 : Below W2.heap.size W2 W3 := ⟨h3.os, h3.tape, h3.output, h3.size, h3.block⟩; have S1 := HCW.out _ b3; clear h3)
      | (go_at_call 88; (with_reducible refine (CB.out _ (HTW.out _ (by first | exact b3 | exact b3.drew | exact below_drewN b3 _))).mono ?_); rintro e W4 ⟨rfl, h4⟩; have b4 : Below W2.heap.size W2 W4 := b3.trans ((⟨h4.os, h4.tape, h4.output, h4.size, h4.block⟩ : Below W3.heap.size W3 W4).mono b3.size); have S2 := HCW.out _ b4; clear h4)
      | (go_at_call 87; (with_reducible refine (CC.out _).mono ?_); rintro e w' ⟨rfl, rfl⟩))
    all_goals
      have hBf := HB0.out.trans (b4.mono hle)
      go_wp2_with fail
      go_ret
      exact ⟨rfl, by first | exact hBf | exact ⟨hBf.os, hBf.tape, hBf.output, hBf.size, hBf.block⟩⟩
  · go_enter Tryz.func31, Tryz.ntmps31
    go_wp2_with fail
    rw [HW2.out, HB.out]
    go_region_held3 (fun w' => w'.cell? ⟨B, 0, none⟩ = some (.int .i64 ka) ∧ w'.cell? ⟨B, 1, none⟩ = some (.float .f64 x) ∧ w'.cell? ⟨B, 2, none⟩ = some (.string s) ∧ w'.cell? ⟨B + 1, 0, none⟩ = some (.int .i64 2) ∧ w'.cell? ⟨B + 1, 1, none⟩ = some (.float .f64 y) ∧ w'.cell? ⟨B + 1, 2, none⟩ = some (.string t))
      (first | (with_reducible exact S3) | (with_reducible exact S2) | (with_reducible exact S1) | go_keep)
      (first
      | (go_at_call 88; (with_reducible refine (CA.out _ (HTW.out _ (by first | exact hR | exact hR.drew | exact below_drewN hR _))).mono ?_); rintro e W3 ⟨rfl, h3⟩; have b3 : Below W2.heap.size W2 W3 := ⟨h3.os, h3.tape, h3.output, h3.size, h3.block⟩; have S1 := HCW.out _ b3; clear h3)
      | (go_at_call 88; (with_reducible refine (CB.out _ (HTW.out _ (by first | exact b3 | exact b3.drew | exact below_drewN b3 _))).mono ?_); rintro e W4 ⟨rfl, h4⟩; have b4 : Below W2.heap.size W2 W4 := b3.trans ((⟨h4.os, h4.tape, h4.output, h4.size, h4.block⟩ : Below W3.heap.size W3 W4).mono b3.size); have S2 := HCW.out _ b4; clear h4)
      | (go_at_call 87; (with_reducible refine (CC.out _).mono ?_); rintro e w' ⟨rfl, rfl⟩))
    all_goals
      have hBf := HB0.out.trans (b4.mono hle)
      go_wp2_with fail
      go_ret
      exact ⟨rfl, by first | exact hBf | exact ⟨hBf.os, hBf.tape, hBf.output, hBf.size, hBf.block⟩⟩
end Go.Proofs.YtbbbdcohkfijoaaGreatDoor

namespace Go.Proofs.YtbbbdcohkfijoaaGreatDoor
open Go.RowKit Go.Lib

theorem preN_fw {l X1 X2 : List UInt8} {b : Bool} {xe z : Int} {m : Nat} (hX : sigL l = (b, X1, X2, xe, z)) (hm : m < 9007199254740992) (he : pv (X1 ++ X2) * 10 ^ (xe - (X2.length : Int)).toNat = m * 10 ^ (-(xe - (X2.length : Int))).toNat) : preN l = turned b (fw m) := by
  unfold preN
  rw [hX]
  simp only
  have hs := Near.self (r := fw m) (by have := fw_bd hm; omega)
  rw [fw_V hm] at hs
  rw [nearR_of (Nat.pow_pos (by omega)) (near_same (by omega) (Nat.pow_pos (by omega)) ?_ hs)]
  rw [he, Nat.mul_one]
  generalize S1074 = z
  ac_rfl
end Go.Proofs.YtbbbdcohkfijoaaGreatDoor

namespace Go.Proofs.YtbbbdcohkfijoaaGreatDoor
open Go.RowKit Go.Lib

theorem cmp_facts : ∀ (l m : List UInt8), (Op.bytesLess l m = true ↔ Lib.compareBytes l m = -1) ∧ (Lib.compareBytes l m = 0 ↔ l = m) ∧ (Lib.compareBytes l m = -1 ∨ Lib.compareBytes l m = 0 ∨ Lib.compareBytes l m = 1)
  | [], [] => ⟨by decide, by decide, by decide⟩
  | [], _ :: _ => ⟨⟨fun _ => rfl, fun _ => rfl⟩, ⟨(fun h => by cases h), (fun h => by cases h)⟩, Or.inl rfl⟩
  | _ :: _, [] => ⟨⟨(fun h => by cases h), (fun h => by cases h)⟩, ⟨(fun h => by cases h), (fun h => by cases h)⟩, Or.inr (Or.inr rfl)⟩
  | a :: x, b :: y => by
    obtain ⟨i1, i2, i3⟩ := cmp_facts x y
    have e1 : Op.bytesLess (a :: x) (b :: y) = (decide (a < b) || (a == b && Op.bytesLess x y)) := rfl
    have e2 : Lib.compareBytes (a :: x) (b :: y) = if a < b then -1 else if b < a then 1 else Lib.compareBytes x y := rfl
    rw [e1, e2]
    by_cases h1 : a < b
    · have hne : a ≠ b := fun e => by rw [e] at h1; exact absurd h1 (UInt8.lt_irrefl b)
      rw [if_pos h1, decide_eq_true h1]
      exact ⟨⟨fun _ => rfl, fun _ => rfl⟩, ⟨(fun h => by cases h), (fun h => absurd (List.cons.inj h).1 hne)⟩, Or.inl rfl⟩
    · rw [if_neg h1, decide_eq_false h1, Bool.false_or]
      by_cases h2 : b < a
      · have hne : a ≠ b := fun e => by rw [e] at h2; exact absurd h2 (UInt8.lt_irrefl b)
        rw [if_pos h2, beq_eq_false_iff_ne.2 hne, Bool.false_and]
        exact ⟨⟨(fun h => by cases h), (fun h => by cases h)⟩, ⟨(fun h => by cases h), (fun h => absurd (List.cons.inj h).1 hne)⟩, Or.inr (Or.inr rfl)⟩
      · have he : a = b := UInt8.le_antisymm (UInt8.not_lt.1 h2) (UInt8.not_lt.1 h1)
        rw [if_neg h2, he, beq_self_eq_true, Bool.true_and]
        refine ⟨i1, i2.trans ⟨fun h => by rw [h], fun h => (List.cons.inj h).2⟩, i3⟩
theorem cmp_three (l m : List UInt8) : (Op.bytesLess l m = true ∧ (l == m) = false ∧ Lib.compareBytes l m = -1) ∨ (Op.bytesLess l m = false ∧ (l == m) = true ∧ Lib.compareBytes l m = 0) ∨ (Op.bytesLess l m = false ∧ (l == m) = false ∧ Lib.compareBytes l m = 1) := by
  obtain ⟨f1, f2, f3⟩ := cmp_facts l m
  rcases f3 with h | h | h
  · exact Or.inl ⟨f1.2 h, beq_eq_false_iff_ne.2 (fun e => by have := f2.2 e; omega), h⟩
  · exact Or.inr (Or.inl ⟨Bool.eq_false_iff.2 (fun e => by have := f1.1 e; omega), beq_iff_eq.2 (f2.1 h), h⟩)
  · exact Or.inr (Or.inr ⟨Bool.eq_false_iff.2 (fun e => by have := f1.1 e; omega), beq_eq_false_iff_ne.2 (fun e => by have := f2.2 e; omega), h⟩)
end Go.Proofs.YtbbbdcohkfijoaaGreatDoor

namespace Go.Proofs.YtbbbdcohkfijoaaGreatDoor
open Go.RowKit Go.Lib

/-- A number's place among all: NaN stands behind all others. -/
def keyN (x : Nat) : Int := if 9218868437227405312 < mag x then 9223372036854775808 else keyZ x
theorem keyZ_bd (x : Nat) : -9223372036854775808 < keyZ x ∧ keyZ x < 9223372036854775808 := by
  have := mag_lt x
  unfold keyZ
  split <;> omega
theorem cmpN_key (x y : Nat) : cmpN x y = if keyN x < keyN y then -1 else if keyN y < keyN x then 1 else 0 := by
  have bx := keyZ_bd x
  have by' := keyZ_bd y
  unfold cmpN ltB gtB rkB keyN
  rcases Nat.lt_or_ge 9218868437227405312 (mag x) with hx | hx
  · rw [show FloatKind.f64.format.order x y = none from order_nan_l hx, nan_yes hx, if_pos hx]
    rw [if_neg (show ¬ ((none : Option Ordering) == some .lt) = true by decide), if_neg (show ¬ ((none : Option Ordering) == some .gt) = true by decide), if_pos rfl]
    rcases Nat.lt_or_ge 9218868437227405312 (mag y) with hy | hy
    · rw [nan_yes hy, if_pos hy, if_pos rfl, if_neg (by omega), if_neg (by omega)]
      rfl
    · rw [nan_no hy, if_neg (by omega : ¬ 9218868437227405312 < mag y), if_neg (by decide), if_neg (by omega), if_pos (by omega)]
      rfl
  · rw [if_neg (by omega : ¬ 9218868437227405312 < mag x), nan_no hx]
    rcases Nat.lt_or_ge 9218868437227405312 (mag y) with hy | hy
    · rw [show FloatKind.f64.format.order x y = none from order_nan_r hy, nan_yes hy, if_pos hy]
      rw [if_neg (show ¬ ((none : Option Ordering) == some .lt) = true by decide), if_neg (show ¬ ((none : Option Ordering) == some .gt) = true by decide), if_neg (by decide), if_pos rfl, if_pos (by omega)]
      rfl
    · rw [if_neg (by omega : ¬ 9218868437227405312 < mag y), nan_no hy, show FloatKind.f64.format.order x y = some (compare (keyZ x) (keyZ y)) from order_key hx hy]
      rcases Int.lt_trichotomy (keyZ x) (keyZ y) with h | h | h
      · rw [Int.compare_eq_lt.2 h, if_pos (by decide), if_pos h]
      · rw [Int.compare_eq_eq.2 h, if_neg (by decide), if_neg (by decide), if_neg (by decide), if_neg (by omega), if_neg (by omega)]
        rfl
      · rw [Int.compare_eq_gt.2 h, if_neg (by decide), if_pos (by decide), if_neg (by omega), if_pos h]
theorem cb_step (a b : UInt8) (l m : List UInt8) : (a.toNat < b.toNat → Lib.compareBytes (a :: l) (b :: m) = -1) ∧ (b.toNat < a.toNat → Lib.compareBytes (a :: l) (b :: m) = 1) ∧ (a.toNat = b.toNat → Lib.compareBytes (a :: l) (b :: m) = Lib.compareBytes l m) := by
  have e2 : Lib.compareBytes (a :: l) (b :: m) = if a < b then -1 else if b < a then 1 else Lib.compareBytes l m := rfl
  have l1 := UInt8.lt_iff_toNat_lt (a := a) (b := b)
  have l2 := UInt8.lt_iff_toNat_lt (a := b) (b := a)
  rw [e2]
  refine ⟨fun h => if_pos (l1.2 h), fun h => ?_, fun h => ?_⟩
  · rw [if_neg (fun k => by have := l1.1 k; omega), if_pos (l2.2 h)]
  · rw [if_neg (fun k => by have := l1.1 k; omega), if_neg (fun k => by have := l2.1 k; omega)]
theorem cb_swap : ∀ l m : List UInt8, Lib.compareBytes m l = -Lib.compareBytes l m
  | [], [] => rfl
  | [], _ :: _ => rfl
  | _ :: _, [] => rfl
  | a :: l, b :: m => by
    have h1 := cb_step a b l m
    have h2 := cb_step b a m l
    have h3 := cb_swap l m
    omega
theorem cb_trans : ∀ l m n : List UInt8, Lib.compareBytes l m ≤ 0 → Lib.compareBytes m n ≤ 0 → Lib.compareBytes l n ≤ 0 ∧ ((Lib.compareBytes l m = 0 ∧ Lib.compareBytes m n = 0) ↔ Lib.compareBytes l n = 0)
  | [], [], [] => fun _ _ => by decide
  | [], [], _ :: _ => fun _ _ => ⟨by show (-1 : Int) ≤ 0; decide, ⟨fun h => absurd h.2 (by show ¬ (-1 : Int) = 0; decide), fun h => absurd h (by show ¬ (-1 : Int) = 0; decide)⟩⟩
  | [], _ :: _, [] => fun _ h => absurd h (by show ¬ (1 : Int) ≤ 0; decide)
  | [], _ :: _, _ :: _ => fun _ _ => ⟨by show (-1 : Int) ≤ 0; decide, ⟨fun h => absurd h.1 (by show ¬ (-1 : Int) = 0; decide), fun h => absurd h (by show ¬ (-1 : Int) = 0; decide)⟩⟩
  | _ :: _, [], _ => fun h _ => absurd h (by show ¬ (1 : Int) ≤ 0; decide)
  | _ :: _, _ :: _, [] => fun _ h => absurd h (by show ¬ (1 : Int) ≤ 0; decide)
  | a :: l, b :: m, c :: n => by
    have h1 := cb_step a b l m
    have h2 := cb_step b c m n
    have h3 := cb_step a c l n
    have ih := cb_trans l m n
    intro k1 k2
    rcases Nat.lt_trichotomy a.toNat b.toNat with q1 | q1 | q1 <;> rcases Nat.lt_trichotomy b.toNat c.toNat with q2 | q2 | q2
    · have := h1.1 q1; have := h2.1 q2; have := h3.1 (by omega); omega
    · have := h1.1 q1; have := h3.1 (by omega); omega
    · have := h2.2.1 q2; omega
    · have := h2.1 q2; have := h3.1 (by omega); omega
    · rw [h1.2.2 q1] at k1 ⊢
      rw [h2.2.2 q2] at k2 ⊢
      rw [h3.2.2 (by omega)]
      exact ih k1 k2
    · have := h2.2.1 q2; omega
    · have := h1.2.1 q1; omega
    · have := h1.2.1 q1; omega
    · have := h1.2.1 q1; omega
/-- What Compare answers by "%.6g". -/
noncomputable def w6 (k : Int) (n : Nat) (s : ByteArray) : ByteArray := wrT k s ⟨(conv6 n).toArray⟩
end Go.Proofs.YtbbbdcohkfijoaaGreatDoor

namespace Go.Proofs.YtbbbdcohkfijoaaGreatDoor
open Go.RowKit Go.Lib

/-- An item's value set anew. -/
theorem itc_set {w W : World} {b a : Nat} {d : Dat} (h : Blk W b (itC a d) 136) (hg : w.grownBy W (some b)) (k : Int) (n : Nat) (s : ByteArray) :
    Blk (((W.setCell ⟨b, 2, none⟩ (.int .i64 k)).setCell ⟨b, 3, none⟩ (.float .f64 n)).setCell ⟨b, 4, none⟩ (.string s)) b (itC a { d with kind := k, num := n, str := s }) 136 ∧ w.grownBy (((W.setCell ⟨b, 2, none⟩ (.int .i64 k)).setCell ⟨b, 3, none⟩ (.float .f64 n)).setCell ⟨b, 4, none⟩ (.string s)) (some b) :=
  ⟨((h.set (j := 2) (u := .int .i64 k)).set (j := 3) (u := .float .f64 n)).set (j := 4) (u := .string s), ((hg.trans (srt_grown_set W b 2 _)).trans (srt_grown_set _ b 3 _)).trans (srt_grown_set _ b 4 _)⟩
theorem srt_grown_below {w W : World} {r : Option Nat} (h : Below w.heap.size w W) : w.grownBy W r := ⟨h.os, h.tape, h.output, h.size, fun i hi _ => h.block i hi⟩
noncomputable def rdKey (d : Dat) : Dat := { d with kind := 1, num := preN d.key.data.toList, str := ⟨#[]⟩ }
set_option maxRecDepth 100000 in
theorem readies_countKey (w0 : World) (B : Nat) (conv : ByteArray) (n : Nat) (es : Nat → Dat) (hk : ∀ a, a < n → (es a).key.size ≤ 140737488355328) : Readies w0 B fCountKey conv n es (fun a => rdKey (es a)) := by
  intro W b a ha _ h
  have hk := hk a ha
  obtain ⟨d, hd⟩ : ∃ d, es a = d := ⟨_, rfl⟩
  rw [hd] at h hk
  show Calls _ _ _ _ fun e w' => (∃ r, e = .returned r) ∧ Blk w' b (itC a (rdKey (es a))) 136 ∧ W.grownBy w' (some b)
  rw [hd]
  obtain ⟨p1, -, -, -, -⟩ := Itc.cells h
  have C1 := Lib.hid (prefix_val d.key W hk)
  have C2 := Lib.hid (fun W => cOf_any (preN d.key.data.toList) W)
  have hst := srt_store_float
  obtain ⟨z, hz⟩ : ∃ z, (sigL d.key.data.toList).2.2.2.2 = z := ⟨_, rfl⟩
  rw [hz] at C1
  have H := Lib.hid h
  obtain ⟨N, hN⟩ : ∃ N, preN d.key.data.toList = N := ⟨_, rfl⟩
  unfold rdKey
  rw [hN] at C1 C2 ⊢
  clear h hd hk hz hN
  go_enter Tryz.func146, Tryz.ntmps146
  go_wp2_with fail
  refine C1.out.mono ?_
  rintro e W2 ⟨rfl, h2⟩
  go_wp2_with fail
  refine (C2.out _).mono ?_
  rintro e W3 ⟨rfl, h3⟩
  have h4 := h2.trans (h3.mono h2.size)
  have k3 := H.out.below h4 H.out.lt
  obtain ⟨z1, z2⟩ := itc_set k3 (srt_grown_below h4) 1 N ⟨#[]⟩
  obtain ⟨-, c2, c3, c4, -⟩ := Itc.cells k3
  have f2 := k3.fro 2
  have f3 := k3.fro 3
  have f4 := k3.fro 4
  have Z := Lib.hid (And.intro z1 z2)
  clear z1 z2 k3 h2 h3 h4 p1
  go_wp2_with fail
  go_end0
  exact ⟨⟨_, rfl⟩, Z.out⟩
noncomputable def rdNum (d : Dat) : Dat := { d with kind := 1, num := numV2 d.kind d.num d.str, str := ⟨#[]⟩ }
set_option maxRecDepth 100000 in
theorem readies_count (w0 : World) (B : Nat) (conv : ByteArray) (n : Nat) (es : Nat → Dat) (hk : ∀ a, a < n → (es a).str.size ≤ 140737488355328) : Readies w0 B fCount conv n es (fun a => rdNum (es a)) := by
  intro W b a ha _ h
  have hk := hk a ha
  obtain ⟨d, hd⟩ : ∃ d, es a = d := ⟨_, rfl⟩
  rw [hd] at h hk
  show Calls _ _ _ _ fun e w' => (∃ r, e = .returned r) ∧ Blk w' b (itC a (rdNum (es a))) 136 ∧ W.grownBy w' (some b)
  rw [hd]
  obtain ⟨-, p2, p3, p4, -⟩ := Itc.cells h
  have C1 := Lib.hid (cNumber_any d.kind d.num d.str W hk)
  obtain ⟨N, hN⟩ : ∃ N, numV2 d.kind d.num d.str = N := ⟨_, rfl⟩
  have C2 := Lib.hid (fun W => cOf_any N W)
  have hst := srt_store_float
  have H := Lib.hid h
  unfold rdNum
  rw [hN] at C1 ⊢
  clear h hd hk hN
  go_enter Tryz.func150, Tryz.ntmps150
  go_wp2_with fail
  refine C1.out.mono ?_
  rintro e W2 ⟨rfl, h2⟩
  go_wp2_with fail
  refine (C2.out _).mono ?_
  rintro e W3 ⟨rfl, h3⟩
  have h4 := h2.trans (h3.mono h2.size)
  have k3 := H.out.below h4 H.out.lt
  obtain ⟨z1, z2⟩ := itc_set k3 (srt_grown_below h4) 1 N ⟨#[]⟩
  obtain ⟨-, c2, c3, c4, -⟩ := Itc.cells k3
  have f2 := k3.fro 2
  have f3 := k3.fro 3
  have f4 := k3.fro 4
  have Z := Lib.hid (And.intro z1 z2)
  clear z1 z2 k3 h2 h3 h4 p2 p3 p4
  go_wp2_with fail
  go_end0
  exact ⟨⟨_, rfl⟩, Z.out⟩
/-- The first of two comparisons that parts. -/
def kcv (c k : Int) : Int := if c = 0 then k else c
/-- Keys by their numbers, then byte by byte. -/
noncomputable def cvKeyN (d : Nat → Dat) (a b : Nat) : Int := kcv (cmpN (d a).num (d b).num) (Lib.compareBytes (d a).key.data.toList (d b).key.data.toList)
theorem itc_vals {W : World} {b a : Nat} {d : Dat} (h : Blk W b (itC a d) 136) : ∀ W', Below W.heap.size W W' → W'.cell? ⟨b, 2, none⟩ = some (.int .i64 d.kind) ∧ W'.cell? ⟨b, 3, none⟩ = some (.float .f64 d.num) ∧ W'.cell? ⟨b, 4, none⟩ = some (.string d.str) := fun W' hb => by
  obtain ⟨_, h2, h3, h4, _⟩ := Itc.cells (h.below hb h.lt)
  exact ⟨h2, h3, h4⟩
set_option maxRecDepth 100000 in
set_option maxHeartbeats 2000000 in
theorem byKeyN_any {W : World} {a b p q : Nat} {d e : Dat} (hd : d.kind = 1 ∧ d.str = ⟨#[]⟩) (he : e.kind = 1 ∧ e.str = ⟨#[]⟩) (h1 : Blk W p (itC a d) 136) (h2 : Blk W q (itC b e) 136) :
    Calls Tryz.prog fByKeyN #[iptr p, iptr q] W fun r w' => r = .returned (.int .i64 (kcv (cmpN d.num e.num) (Lib.compareBytes d.key.data.toList e.key.data.toList))) ∧ Below W.heap.size W w' := by
  have v1 := itc_vals h1
  have v2 := itc_vals h2
  obtain ⟨p2, p3, p4⟩ := v1 W (Below.refl _ _)
  obtain ⟨q2, q3, q4⟩ := v2 W (Below.refl _ _)
  have cC := fun W => cCompare_num 1 1 d.num e.num ⟨#[]⟩ ⟨#[]⟩ ⟨#[]⟩ W (by decide) (by decide) (by decide) (by decide)
  have e1 : ∀ x, numV2 1 x ⟨#[]⟩ = x := fun x => if_pos (Or.inl rfl)
  rw [e1, e1] at cC
  rw [hd.1] at p2
  rw [hd.2] at p4
  rw [he.1] at q2
  rw [he.2] at q4
  have V := Lib.hid (fun (W' : World) (hb : Below W.heap.size W W') => (show (W'.cell? ⟨p, 2, none⟩ = some (.int .i64 1) ∧ W'.cell? ⟨p, 3, none⟩ = some (.float .f64 d.num) ∧ W'.cell? ⟨p, 4, none⟩ = some (.string ⟨#[]⟩)) ∧ (W'.cell? ⟨q, 2, none⟩ = some (.int .i64 1) ∧ W'.cell? ⟨q, 3, none⟩ = some (.float .f64 e.num) ∧ W'.cell? ⟨q, 4, none⟩ = some (.string ⟨#[]⟩)) from ⟨by have := v1 W' hb; rw [hd.1, hd.2] at this; exact this, by have := v2 W' hb; rw [he.1, he.2] at this; exact this⟩))
  have H1 := Lib.hid h1
  have H2 := Lib.hid h2
  obtain ⟨x, hx⟩ : ∃ x, d.num = x := ⟨_, rfl⟩
  obtain ⟨y, hy⟩ : ∃ x, e.num = x := ⟨_, rfl⟩
  obtain ⟨k, hk⟩ : ∃ k, Lib.compareBytes d.key.data.toList e.key.data.toList = k := ⟨_, rfl⟩
  rw [hx] at p3 cC V ⊢
  rw [hy] at q3 cC V ⊢
  obtain ⟨c, hc⟩ : ∃ c, cmpN x y = c := ⟨_, rfl⟩
  rw [hc] at cC ⊢
  rw [hk]
  have HKY := Lib.hid hk
  have CC := Lib.hid cC
  clear h1 h2 v1 v2 hd he hx hy hk hc cC e1
  go_enter Tryz.func147, Tryz.ntmps147
  go_wp2_with fail
  go_region_held3 (fun w' => (w'.cell? ⟨p, 2, none⟩ = some (.int .i64 1) ∧ w'.cell? ⟨p, 3, none⟩ = some (.float .f64 x) ∧ w'.cell? ⟨p, 4, none⟩ = some (.string ⟨#[]⟩)) ∧ (w'.cell? ⟨q, 2, none⟩ = some (.int .i64 1) ∧ w'.cell? ⟨q, 3, none⟩ = some (.float .f64 y) ∧ w'.cell? ⟨q, 4, none⟩ = some (.string ⟨#[]⟩)))
    (first | (with_reducible exact S2) | go_keep)
    (first | (go_at_call 31; (with_reducible refine (CC.out _).mono ?_); rintro r W4 ⟨rfl, h4⟩; have b4 : Below W.heap.size W W4 := ⟨h4.os, h4.tape, h4.output, h4.size, h4.block⟩; have S2 := V.out _ b4; clear h4))
  all_goals
    clear S2 p2 p3 p4 q2 q3 q4
    by_cases h0 : c = 0
    · have CK := byKey_any (H1.out.below b4 H1.out.lt) (H2.out.below b4 H2.out.lt)
      rw [HKY.out] at CK
      have CK := Lib.hid CK
      have e1 : (c != 0) = false := by rw [h0]; rfl
      have E := Lib.hid (show kcv c k = k from if_pos h0)
      clear h0
      go_wp2_with fail
      refine (show Calls _ _ _ _ _ from CK.out).mono ?_
      rintro r W5 ⟨rfl, h5⟩
      have b5 := b4.trans (h5.mono b4.size)
      clear h5
      go_wp2_with fail
      go_ret
      exact ⟨by rw [E.out]; rfl, b5⟩
    · have e1 : (c != 0) = true := by rw [bne_iff_ne]; exact h0
      have E := Lib.hid (show kcv c k = c from if_neg h0)
      clear h0
      go_wp2_with fail
      go_ret
      exact ⟨by rw [E.out]; rfl, b4⟩
theorem cmp_byKeyN (w0 : World) (B n : Nat) (es : Nat → Dat) : CmpOf w0 B fByKeyN n (fun a => rdKey (es a)) (cvKeyN fun a => rdKey (es a)) :=
  fun _ _ _ _ _ _ _ _ h1 h2 => byKeyN_any ⟨rfl, rfl⟩ ⟨rfl, rfl⟩ h1 h2
/-- 0 of values that are no strings, 1 of strings, 2 of arrays. -/
def grp (d : Dat) : Int := if d.sub = true then 2 else if d.kind = 2 then 1 else 0
theorem group_any {W : World} {a p : Nat} {d : Dat} (h1 : Blk W p (itC a d) 136) :
    Calls Tryz.prog 210 #[iptr p] W fun r w' => r = .returned (.int .i64 (grp d)) ∧ W = w' := by
  obtain ⟨-, p2, -, -, p5⟩ := Itc.cells h1
  unfold grp
  obtain ⟨k, hk⟩ : ∃ k, d.kind = k := ⟨_, rfl⟩
  obtain ⟨s, hs⟩ : ∃ k, d.sub = k := ⟨_, rfl⟩
  rw [hk] at p2 ⊢
  rw [hs] at p5 ⊢
  clear h1 hk hs
  cases s with
  | true =>
    rw [if_pos rfl]
    go_enter Tryz.func210, Tryz.ntmps210
    go_wp2
    go_ret
    exact ⟨rfl, rfl⟩
  | false =>
    rw [if_neg (by decide)]
    by_cases h2 : k = 2
    · have e1 : (k == 2) = true := by rw [h2]; rfl
      rw [if_pos h2]
      clear h2
      go_enter Tryz.func210, Tryz.ntmps210
      go_wp2
      go_ret
      exact ⟨rfl, rfl⟩
    · have e1 : (k == 2) = false := by rw [beq_eq_false_iff_ne]; exact h2
      rw [if_neg h2]
      clear h2
      go_enter Tryz.func210, Tryz.ntmps210
      go_wp2
      go_ret
      exact ⟨rfl, rfl⟩
/-- Groups, then values. -/
noncomputable def cvV (d e : Dat) : Int := if grp d - grp e ≠ 0 ∨ d.sub = true then grp d - grp e else if d.kind = 2 then Lib.compareBytes d.str.data.toList e.str.data.toList else cmpN (numV2 d.kind d.num d.str) (numV2 e.kind e.num e.str)
theorem grp_cases (d : Dat) : grp d = 0 ∨ grp d = 1 ∨ grp d = 2 := by
  unfold grp
  split
  · exact Or.inr (Or.inr rfl)
  · split
    · exact Or.inr (Or.inl rfl)
    · exact Or.inl rfl
set_option maxRecDepth 100000 in
set_option maxHeartbeats 2000000 in
/-- The values themselves, whatever Compare answers. -/
theorem byVal_go {W : World} {a b p q : Nat} {d e : Dat} {c : Int} (hs : d.sub = false) (hg : grp d = grp e) (h1 : Blk W p (itC a d) 136) (h2 : Blk W q (itC b e) 136)
    (hC : ∀ W', Below W.heap.size W W' → Calls Tryz.prog 31 #[.agg #[.int .i64 d.kind, .float .f64 d.num, .string d.str], .agg #[.int .i64 e.kind, .float .f64 e.num, .string e.str], .string ⟨#[]⟩] W' fun r w' => r = .returned (.int .i64 c) ∧ Below W'.heap.size W' w') :
    Calls Tryz.prog fByVal #[iptr p, iptr q] W fun r w' => r = .returned (.int .i64 c) ∧ Below W.heap.size W w' := by
  have v1 := itc_vals h1
  have v2 := itc_vals h2
  obtain ⟨p2, p3, p4⟩ := v1 W (Below.refl _ _)
  obtain ⟨q2, q3, q4⟩ := v2 W (Below.refl _ _)
  obtain ⟨-, -, -, -, p5⟩ := Itc.cells h1
  rw [hs] at p5
  have C1 := group_any h1
  have C2 := group_any h2
  rw [← hg] at C2
  obtain ⟨g, hgg⟩ : ∃ g, grp d = g := ⟨_, rfl⟩
  have hgb : 0 ≤ g ∧ g ≤ 2 := by rcases grp_cases d with k | k | k <;> omega
  rw [hgg] at C1 C2
  have C1 := Lib.hid C1
  have C2 := Lib.hid C2
  have V := Lib.hid (fun (W' : World) (hb : Below W.heap.size W W') => (show (W'.cell? ⟨p, 2, none⟩ = some (.int .i64 d.kind) ∧ W'.cell? ⟨p, 3, none⟩ = some (.float .f64 d.num) ∧ W'.cell? ⟨p, 4, none⟩ = some (.string d.str)) ∧ (W'.cell? ⟨q, 2, none⟩ = some (.int .i64 e.kind) ∧ W'.cell? ⟨q, 3, none⟩ = some (.float .f64 e.num) ∧ W'.cell? ⟨q, 4, none⟩ = some (.string e.str)) from ⟨v1 W' hb, v2 W' hb⟩))
  have CC := Lib.hid hC
  have hR := Below.refl W.heap.size W
  have hgz : g - g = 0 := by omega
  clear h1 h2 v1 v2 hs hg hgg hC
  obtain ⟨kd, nd, sd, ke, ne, se, rfl, rfl, rfl, rfl, rfl, rfl⟩ : ∃ kd nd sd ke ne se, d.kind = kd ∧ d.num = nd ∧ d.str = sd ∧ e.kind = ke ∧ e.num = ne ∧ e.str = se := ⟨_, _, _, _, _, _, rfl, rfl, rfl, rfl, rfl, rfl⟩
  go_enter Tryz.func149, Tryz.ntmps149
  go_wp2_with fail
  refine (show Calls _ _ _ _ _ from C1.out).mono ?_
  rintro r w' ⟨rfl, rfl⟩
  go_wp2_with fail
  refine (show Calls _ _ _ _ _ from C2.out).mono ?_
  rintro r w' ⟨rfl, rfl⟩
  go_wp2_with fail
  go_region_held3 (fun w' => (w'.cell? ⟨p, 2, none⟩ = some (.int .i64 d.kind) ∧ w'.cell? ⟨p, 3, none⟩ = some (.float .f64 d.num) ∧ w'.cell? ⟨p, 4, none⟩ = some (.string d.str)) ∧ (w'.cell? ⟨q, 2, none⟩ = some (.int .i64 e.kind) ∧ w'.cell? ⟨q, 3, none⟩ = some (.float .f64 e.num) ∧ w'.cell? ⟨q, 4, none⟩ = some (.string e.str)))
    (first | (with_reducible exact S2) | go_keep)
    (first | (go_at_call 31; (with_reducible refine (CC.out _ (by first | exact hR | exact hR.drew | exact srt_drewN hR _)).mono ?_); rintro r W4 ⟨rfl, h4⟩; have b4 : Below W.heap.size W W4 := ⟨h4.os, h4.tape, h4.output, h4.size, h4.block⟩; have S2 := V.out _ b4; clear h4))
  all_goals
    clear S2 p2 p3 p4 q2 q3 q4
    go_wp2_with fail
    go_ret
    exact ⟨rfl, b4⟩
set_option maxRecDepth 100000 in
theorem byVal_grp {W : World} {a b p q : Nat} {d e : Dat} (hg : grp d - grp e ≠ 0 ∨ d.sub = true) (h1 : Blk W p (itC a d) 136) (h2 : Blk W q (itC b e) 136) :
    Calls Tryz.prog fByVal #[iptr p, iptr q] W fun r w' => r = .returned (.int .i64 (grp d - grp e)) ∧ Below W.heap.size W w' := by
  obtain ⟨-, -, -, -, p5⟩ := Itc.cells h1
  have C1 := group_any h1
  have C2 := group_any h2
  obtain ⟨s, hs⟩ : ∃ s, d.sub = s := ⟨_, rfl⟩
  rw [hs] at p5 hg
  obtain ⟨g, hgg⟩ : ∃ g, grp d = g := ⟨_, rfl⟩
  obtain ⟨k, hkk⟩ : ∃ g, grp e = g := ⟨_, rfl⟩
  have hgb : 0 ≤ g ∧ g ≤ 2 := by rcases grp_cases d with h | h | h <;> omega
  have hkb : 0 ≤ k ∧ k ≤ 2 := by rcases grp_cases e with h | h | h <;> omega
  rw [hgg] at C1 hg ⊢
  rw [hkk] at C2 hg ⊢
  have C1 := Lib.hid C1
  have C2 := Lib.hid C2
  clear h1 h2 hs hgg hkk
  by_cases h0 : g - k = 0
  · have hst : s = true := hg.resolve_left (fun h => h h0)
    subst hst
    obtain rfl : g = k := by omega
    clear h0 hg
    go_enter Tryz.func149, Tryz.ntmps149
    go_wp2_with fail
    refine (show Calls _ _ _ _ _ from C1.out).mono ?_
    rintro r w' ⟨rfl, rfl⟩
    go_wp2_with fail
    refine (show Calls _ _ _ _ _ from C2.out).mono ?_
    rintro r w' ⟨rfl, rfl⟩
    go_wp2_with fail
    go_ret
    exact ⟨by simp, Below.refl _ _⟩
  · have e1 : (g - k != 0) = true := by rw [bne_iff_ne]; exact h0
    clear h0 hg
    go_enter Tryz.func149, Tryz.ntmps149
    go_wp2_with fail
    refine (show Calls _ _ _ _ _ from C1.out).mono ?_
    rintro r w' ⟨rfl, rfl⟩
    go_wp2_with fail
    refine (show Calls _ _ _ _ _ from C2.out).mono ?_
    rintro r w' ⟨rfl, rfl⟩
    go_wp2_with fail
    go_ret
    exact ⟨rfl, Below.refl _ _⟩
end Go.Proofs.YtbbbdcohkfijoaaGreatDoor

namespace Go.Proofs.YtbbbdcohkfijoaaGreatDoor
open Go.RowKit Go.Lib

theorem cmp_byVal {w0 : World} {n : Nat} {d : Nat → Dat} (hT : PowTab w0) (hk : ∀ a, a < n → (d a).str.size ≤ 140737488355328) : CmpOf w0 w0.heap.size fByVal n d (fun a b => cvV (d a) (d b)) := by
  intro W a b p q ha hb hB h1 h2
  have s1 := hk a ha
  have s2 := hk b hb
  show Calls _ _ _ _ fun r w' => r = .returned (.int .i64 (cvV (d a) (d b))) ∧ Below W.heap.size W w'
  obtain ⟨x, hx⟩ : ∃ x, d a = x := ⟨_, rfl⟩
  obtain ⟨y, hy⟩ : ∃ x, d b = x := ⟨_, rfl⟩
  rw [hx] at h1 s1 ⊢
  rw [hy] at h2 s2 ⊢
  unfold cvV
  by_cases hg : grp x - grp y ≠ 0 ∨ x.sub = true
  · rw [if_pos hg]
    exact byVal_grp hg h1 h2
  · rw [if_neg hg]
    have hs : x.sub = false := by
      cases e : x.sub with
      | false => rfl
      | true => exact absurd (Or.inr e) hg
    have he : grp x = grp y := by
      by_cases e : grp x - grp y = 0
      · omega
      · exact absurd (Or.inl e) hg
    have gx : grp x = if x.kind = 2 then 1 else 0 := by unfold grp; rw [hs, if_neg (by decide)]
    by_cases hk2 : x.kind = 2
    · rw [if_pos hk2]
      rw [if_pos hk2] at gx
      have hy2 : y.kind = 2 := by
        rw [gx] at he
        unfold grp at he
        split at he
        · omega
        · split at he
          · assumption
          · omega
      refine byVal_go hs (by omega) h1 h2 fun W' hW' => ?_
      rw [hk2, hy2]
      have := cCompare_str 2 2 x.num y.num x.str y.str ⟨#[]⟩ ⟨#[]⟩ ⟨#[]⟩ W' (Or.inl rfl) (fun h => absurd h (by decide)) (fun h => absurd h (by decide)) (Lib.tabBelow_of_tabIs hT W' (hB.trans (hW'.mono hB.size)))
      exact this
    · rw [if_neg hk2]
      rw [if_neg hk2] at gx
      have hy2 : y.kind ≠ 2 := by
        intro h
        rw [gx] at he
        unfold grp at he
        rw [if_pos h] at he
        split at he <;> omega
      exact byVal_go hs (by omega) h1 h2 fun W' _ => cCompare_num x.kind y.kind x.num y.num x.str y.str ⟨#[]⟩ W' hk2 hy2 s1 s2
/-- A comparison that is one. -/
structure CmpW (cv : Nat → Nat → Int) : Prop where
  bd : ∀ a b, -10 ≤ cv a b ∧ cv a b ≤ 10
  sw : ∀ a b, cv b a = -cv a b
  tr : ∀ a b c, cv a b ≤ 0 → cv b c ≤ 0 → cv a c ≤ 0 ∧ (cv a c = 0 → cv a b = 0 ∧ cv b c = 0)
  eq : ∀ a b c, cv a b = 0 → cv b c = 0 → cv a c = 0
theorem CmpW.ord {cv : Nat → Nat → Int} {way : Int} (h : CmpW cv) (hw : way = 1 ∨ way = -1) : Ord (ltV cv way) :=
  ord_of hw (fun a b => by have := h.bd a b; omega) h.sw h.tr h.eq
theorem CmpW.zero : CmpW (fun _ _ => 0) := ⟨fun _ _ => by omega, fun _ _ => rfl, fun _ _ _ _ _ => ⟨Int.le_refl 0, fun _ => ⟨rfl, rfl⟩⟩, fun _ _ _ _ _ => rfl⟩
theorem CmpW.nums (k : Nat → Int) (hk : ∀ a, 0 ≤ k a ∧ k a ≤ 2) : CmpW (fun a b => k a - k b) :=
  ⟨fun a b => by have := hk a; have := hk b; omega, fun _ _ => by omega, fun _ _ _ _ _ => ⟨by omega, fun _ => by omega⟩, fun _ _ _ _ _ => by omega⟩
theorem CmpW.floats (k : Nat → Nat) : CmpW (fun a b => cmpN (k a) (k b)) := by
  refine ⟨fun a b => ?_, fun a b => ?_, fun a b c => ?_, fun a b c => ?_⟩
  all_goals
    simp only [cmpN_key]
  · split
    · omega
    · split <;> omega
  · rcases Int.lt_trichotomy (keyN (k a)) (keyN (k b)) with h | h | h
    · rw [if_neg (by omega), if_pos h, if_pos h]; rfl
    · rw [if_neg (by omega), if_neg (by omega), if_neg (by omega), if_neg (by omega)]; rfl
    · rw [if_pos h, if_neg (by omega), if_pos h]
  · generalize keyN (k a) = x
    generalize keyN (k b) = y
    generalize keyN (k c) = z
    intro h1 h2
    have q1 : x ≤ y := by
      rcases Int.lt_or_le y x with h | h
      · rw [if_neg (by omega), if_pos h] at h1; omega
      · exact h
    have q2 : y ≤ z := by
      rcases Int.lt_or_le z y with h | h
      · rw [if_neg (by omega), if_pos h] at h2; omega
      · exact h
    rcases Int.lt_or_le x z with h | h
    · rw [if_pos h]; exact ⟨by omega, fun e => by omega⟩
    · have e1 : x = y := by omega
      have e2 : y = z := by omega
      subst e1
      subst e2
      rw [if_neg (by omega), if_neg (by omega)]
      exact ⟨Int.le_refl 0, fun _ => ⟨rfl, rfl⟩⟩
  · generalize keyN (k a) = x
    generalize keyN (k b) = y
    generalize keyN (k c) = z
    intro h1 h2
    have q1 : x = y := by
      rcases Int.lt_trichotomy x y with h | h | h
      · rw [if_pos h] at h1; omega
      · exact h
      · rw [if_neg (by omega), if_pos h] at h1; omega
    have q2 : y = z := by
      rcases Int.lt_trichotomy y z with h | h | h
      · rw [if_pos h] at h2; omega
      · exact h
      · rw [if_neg (by omega), if_pos h] at h2; omega
    subst q1
    subst q2
    rw [if_neg (by omega), if_neg (by omega)]
theorem CmpW.bytes (k : Nat → List UInt8) : CmpW (fun a b => Lib.compareBytes (k a) (k b)) := by
  refine ⟨fun a b => ?_, fun a b => cb_swap _ _, fun a b c h1 h2 => ?_, fun a b c h1 h2 => ?_⟩
  · rcases (cmp_facts (k a) (k b)).2.2 with h | h | h <;> omega
  · have := cb_trans (k a) (k b) (k c) h1 h2
    exact ⟨this.1, this.2.2⟩
  · have := cb_trans (k a) (k b) (k c) (by omega) (by omega)
    exact this.2.1 ⟨h1, h2⟩
theorem CmpW.lex {c1 c2 : Nat → Nat → Int} (h : CmpW c1) (k : CmpW c2) : CmpW (fun a b => kcv (c1 a b) (c2 a b)) := by
  refine ⟨fun a b => ?_, fun a b => ?_, fun a b c => ?_, fun a b c => ?_⟩
  · have := h.bd a b
    have := k.bd a b
    unfold kcv
    split <;> omega
  · have h1 := h.sw a b
    have h2 := k.sw a b
    unfold kcv
    by_cases e : c1 a b = 0
    · rw [if_pos e, if_pos (by omega)]; exact h2
    · rw [if_neg e, if_neg (by omega)]; exact h1
  · have t1 := h.tr a b c
    have t2 := k.tr a b c
    have q1 := h.eq a b c
    unfold kcv
    intro h1 h2
    by_cases e1 : c1 a b = 0
    · rw [if_pos e1] at h1 ⊢
      by_cases e2 : c1 b c = 0
      · rw [if_pos e2] at h2 ⊢
        rw [if_pos (q1 e1 e2)]
        exact t2 h1 h2
      · rw [if_neg e2] at h2 ⊢
        have := t1 (by omega) h2
        by_cases e3 : c1 a c = 0
        · have := (this.2 e3).2; omega
        · rw [if_neg e3]
          exact ⟨this.1, fun e => absurd e e3⟩
    · rw [if_neg e1] at h1 ⊢
      by_cases e2 : c1 b c = 0
      · rw [if_pos e2] at h2 ⊢
        have := t1 h1 (by omega)
        by_cases e3 : c1 a c = 0
        · have := (this.2 e3).1; omega
        · rw [if_neg e3]
          exact ⟨this.1, fun e => absurd e e3⟩
      · rw [if_neg e2] at h2 ⊢
        have := t1 h1 h2
        by_cases e3 : c1 a c = 0
        · have := (this.2 e3).1; omega
        · rw [if_neg e3]
          exact ⟨this.1, fun e => absurd e e3⟩
  · have q1 := h.eq a b c
    have q2 := k.eq a b c
    have t1 := h.tr a b c
    unfold kcv
    intro h1 h2
    by_cases e1 : c1 a b = 0
    · rw [if_pos e1] at h1
      by_cases e2 : c1 b c = 0
      · rw [if_pos e2] at h2
        rw [if_pos (q1 e1 e2)]
        exact q2 h1 h2
      · rw [if_neg e2] at h2; exact absurd h2 e2
    · rw [if_neg e1] at h1; exact absurd h1 e1
noncomputable def strK (d : Dat) : List UInt8 := if grp d = 1 then d.str.data.toList else []
noncomputable def numK (d : Dat) : Nat := if grp d = 0 then numV2 d.kind d.num d.str else 0
theorem cvV_lex (d e : Dat) : cvV d e = kcv (grp d - grp e) (kcv (Lib.compareBytes (strK d) (strK e)) (cmpN (numK d) (numK e))) := by
  have z0 : cmpN 0 0 = 0 := by rw [cmpN_key, if_neg (by omega), if_neg (by omega)]
  have b0 : Lib.compareBytes [] [] = 0 := rfl
  have k0 : ∀ x, kcv x 0 = x := fun x => by unfold kcv; split <;> omega
  have k1 : ∀ x, kcv 0 x = x := fun x => if_pos rfl
  unfold cvV
  by_cases hg : grp d - grp e = 0
  · have he : grp e = grp d := by omega
    rw [hg, k1]
    unfold strK numK
    rw [he]
    by_cases hs : d.sub = true
    · have g2 : grp d = 2 := if_pos hs
      rw [if_pos (Or.inr hs), g2, if_neg (by omega), if_neg (by omega), if_neg (by omega), if_neg (by omega), b0, k1, z0]
    · rw [if_neg (by rintro (h | h); exact h rfl; exact hs h)]
      have gd : grp d = if d.kind = 2 then 1 else 0 := by unfold grp; rw [if_neg hs]
      by_cases hk : d.kind = 2
      · rw [if_pos hk] at gd
        rw [if_pos hk, gd, if_pos rfl, if_pos rfl, if_neg (by omega), if_neg (by omega), z0, k0]
      · rw [if_neg hk] at gd
        rw [if_neg hk, gd, if_neg (by omega), if_neg (by omega), if_pos rfl, if_pos rfl, b0, k1]
  · rw [if_pos (Or.inl hg)]
    unfold kcv
    rw [if_neg hg]
theorem cw_byVal (d : Nat → Dat) : CmpW (fun a b => cvV (d a) (d b)) := by
  have e : (fun a b => cvV (d a) (d b)) = fun a b => kcv (grp (d a) - grp (d b)) (kcv (Lib.compareBytes (strK (d a)) (strK (d b))) (cmpN (numK (d a)) (numK (d b)))) := by
    funext a b
    exact cvV_lex _ _
  rw [e]
  exact (CmpW.nums (fun a => grp (d a)) (fun a => by rcases grp_cases (d a) with h | h | h <;> omega)).lex ((CmpW.bytes fun a => strK (d a)).lex (CmpW.floats fun a => numK (d a)))
theorem cw_byKeyN (d : Nat → Dat) : CmpW (cvKeyN d) := (CmpW.floats fun a => (d a).num).lex (CmpW.bytes fun a => (d a).key.data.toList)
theorem cw_byKey (d : Nat → Dat) : CmpW (fun a b => Lib.compareBytes (d a).key.data.toList (d b).key.data.toList) := CmpW.bytes fun a => (d a).key.data.toList
end Go.Proofs.YtbbbdcohkfijoaaGreatDoor

namespace Go.Proofs.YtbbbdcohkfijoaaGreatDoor
open Go.RowKit Go.ChangeShapes Go.WideShapes

theorem mem_weightsAll {H : Type} {P : Program} {e : TypeId} {d : DataW H} {x : Nat} : ∀ {l : List (DataW H)}, d ∈ l → x ∈ DataW.weights P e d → x ∈ DataW.weightsAll P e l := by
  intro l
  induction l with
  | nil => intro h; cases h
  | cons d0 l ih =>
    intro h hx
    unfold DataW.weightsAll
    rcases List.mem_cons.1 h with rfl | h
    · exact List.mem_append_left _ hx
    · exact List.mem_append_right _ (ih h hx)
end Go.Proofs.YtbbbdcohkfijoaaGreatDoor

namespace Go.Proofs.YtbbbdcohkfijoaaGreatDoor
open Go.RowKit Go.ChangeShapes Go.WideShapes Go.Deep

section
variable {H : Type} {enc : TypeId × Value → H} {P : Program} {w : World} {base : Nat} {spare : Nat → Bool} {held : Bool}
theorem open_slice_fields {t e : TypeId} {fs : Array Field} {fuel : Nat} {cs : List Value} {x : DataW H × List MemPlace} (ht : P.underlying t = some (.slice e)) (he : P.underlying e = some (.struct fs))
    (hone : oneCellFields P fs = true) (hC : P.cellsOf e = fs.size) (h : DataW.trod enc P w base spare held fuel t cs = some x) :
    (cs = [.slice none 0 0] ∧ x = (.nil, [])) ∨
    ∃ (a : Addr) (len cap m : Nat) (D : Nat → DataW H) (Pl : Nat → List MemPlace), cs = [.slice (some a) len cap] ∧ base ≤ a.block ∧ len ≤ cap ∧ cap ≤ maxLen ∧ m = (if spare a.block then cap else len) ∧
      x = (.slice ((List.range len).map D) ((List.range (m - len)).map fun j => D (len + j)), MemPlace.row a (m * fs.size) ++ (List.range m).flatMap Pl) ∧
      ∀ i, i < m → ∃ (ys : List (DataW H × List MemPlace)) (n : Nat), D i = .agg (ys.map (·.1)) ∧ Pl i = ys.flatMap (·.2) ∧ ys.length = fs.size ∧
        ∀ (j : Nat) (f : Field), fs[j]? = some f → ∃ (v : Value) (y : DataW H × List MemPlace), w.cell? (a.add (i * fs.size + j)) = some v ∧ ys[j]? = some y ∧ DataW.trod enc P w base spare held n f.type [v] = some y := by
  rcases open_slice ht h with h0 | ⟨a, len, cap, m, n, D, Pl, hcs, hb, hl, hm, hmm, hx, hi⟩
  · exact .inl h0
  · refine .inr ⟨a, len, cap, m, D, Pl, hcs, hb, hl, hm, hmm, by rw [hC] at hx; exact hx, fun i him => ?_⟩
    obtain ⟨cs', hc, ht'⟩ := hi i him
    rw [hC] at hc
    obtain ⟨ys, n', hn', hy, hlen, hyl, hf⟩ := DataW.trod_struct he ht'
    obtain ⟨_, hcl, hat⟩ := World.cells?_some hc
    simp only [Prod.mk.injEq] at hy
    refine ⟨ys, n', hy.1, hy.2, hyl, fun j f hj => ?_⟩
    obtain ⟨ho, hk⟩ := hone_of hone j f hj
    have hjl : j < fs.size := (Array.getElem?_eq_some_iff.1 hj).1
    have hcell := hat j hjl
    have hv : cs'[j]? = some (cs'[j]'(by omega)) := List.getElem?_eq_getElem (by omega)
    have h1 := hf j f hj
    rw [ho, hk] at h1
    have hone' : (cs'.drop j).take 1 = [cs'[j]'(by omega)] := by
      rw [List.drop_eq_getElem_cons (by omega)]
      rfl
    rw [hone'] at h1
    have hys : ys[j]? = some (ys[j]'(by omega)) := List.getElem?_eq_getElem (by omega)
    refine ⟨_, _, ?_, hys, h1.trans hys⟩
    rw [← Go.Deep.add_add, hcell, hv]
end
/-- An item of the law. -/
structure ItD where
  key : ByteArray
  kind : Int
  bits : Int
  str : ByteArray
  sub : Bool
def ItD.cells (x : ItD) : List Value := [.string x.key, .int .i64 x.kind, .int .u64 x.bits, .string x.str, .bool x.sub]
def ItD.dat {H : Type} (x : ItD) : DataW H := .agg [.lit (.string x.key.data.toList), .lit (.int .i64 x.kind), .lit (.int .u64 x.bits), .lit (.string x.str.data.toList), .lit (.bool x.sub)]
def ItD.fine (x : ItD) : Prop := (Lit.int .i64 x.kind).wf = true ∧ (Lit.int .u64 x.bits).wf = true
/-- Its items lie there. -/
def RdI (W : World) (A : Option Addr) (es : List ItD) : Prop := ∀ j (_ : j < es.length), ∃ b off, A = some ⟨b, off, none⟩ ∧ ∀ i, i < 5 → W.cell? ⟨b, off + j * 5 + i, none⟩ = es[j].cells[i]?
theorem RdI.below {W W' : World} {A : Option Addr} {es : List ItD} {B : Nat} (h : RdI W A es) (hB : W.heap.size ≤ B) (hb : Below B W W') : RdI W' A es := fun j hj => by
  obtain ⟨b, off, e, hc⟩ := h j hj
  refine ⟨b, off, e, fun i hi => ?_⟩
  have h1 := hc i hi
  have h2 : es[j].cells[i]? = some (es[j].cells[i]'(by simpa [ItD.cells] using hi)) := List.getElem?_eq_getElem _
  have hl := World.block_lt_of_cell? W _ (h1.trans h2)
  exact (hb.cell (p := ⟨b, off + j * 5 + i, none⟩) (by simp at hl ⊢; omega)).trans h1
theorem cells_item : Tryz.prog.cellsOf 123 = 5 := by kernel_rfl
set_option maxRecDepth 100000 in
theorem open_itemsA {H : Type} {enc : TypeId × Value → H} {W : World} {v : Value} {d : DataW H} {p : List MemPlace} {base : Nat} (hv : Value.okWide Tryz.prog W .any base 52 v) (h : DataW.Trod enc Tryz.prog W 0 (fun _ => true) true 52 v d p) :
    ∃ (A : Option Addr) (cap : Nat) (es : List ItD), v = .slice A es.length cap ∧ es.length ≤ cap ∧ cap ≤ maxLen ∧ RdI W A es ∧ (∀ x ∈ es, x.fine) ∧ ((∀ z ∈ DataW.weights Tryz.prog 52 d, z ≤ 140737488351232) → ∀ x ∈ es, x.key.size ≤ 140737488351232 ∧ x.str.size ≤ 140737488351232) := by
  obtain ⟨a0, len, cap, rfl⟩ := okWide_slice Tryz.underlying52 hv
  obtain ⟨fuel, hf⟩ := h
  rcases open_slice_fields Tryz.underlying52 Tryz.underlying123 (by kernel_rfl) cells_item hf with ⟨hcs, hx⟩ | ⟨a, len', cap', m, D, Pl, hcs, _, hl, hm, hmm, hx, hi⟩
  · simp [Value.cells] at hcs
    obtain ⟨rfl, rfl, rfl⟩ := hcs
    exact ⟨none, 0, [], rfl, Nat.le_refl _, Nat.zero_le _, fun j hj => absurd hj (Nat.not_lt_zero _), fun x hx => (by cases hx), fun _ x hx => (by cases hx)⟩
  · simp [Value.cells] at hcs
    obtain ⟨rfl, rfl, rfl⟩ := hcs
    simp only [if_true] at hmm
    subst hmm
    simp only [Prod.mk.injEq] at hx
    obtain ⟨rfl, rfl⟩ := hx
    have each : ∀ i, i < m → ∃ x : ItD, (∀ j, j < 5 → W.cell? (a.add (i * 5 + j)) = x.cells[j]?) ∧ D i = x.dat ∧ x.fine := fun i him => by
      obtain ⟨ys, n, hD, _, hyl, hf⟩ := hi i him
      obtain ⟨v0, y0, c0, e0, t0⟩ := hf 0 _ rfl
      obtain ⟨v1, y1, c1, e1, t1⟩ := hf 1 _ rfl
      obtain ⟨v2, y2, c2, e2, t2⟩ := hf 2 _ rfl
      obtain ⟨v3, y3, c3, e3, t3⟩ := hf 3 _ rfl
      obtain ⟨v4, y4, c4, e4, t4⟩ := hf 4 _ rfl
      match ys, hyl with
      | [z0, z1, z2, z3, z4], _ =>
        simp at e0 e1 e2 e3 e4
        subst e0 e1 e2 e3 e4
        obtain ⟨s0, h0, q0, _⟩ := DataW.trod_string Tryz.underlying9 t0
        obtain ⟨k1, h1, q1, w1⟩ := DataW.trod_int Tryz.underlying3 t1
        obtain ⟨k2, h2, q2, w2⟩ := DataW.trod_int Tryz.underlying22 t2
        obtain ⟨s3, h3, q3, _⟩ := DataW.trod_string Tryz.underlying9 t3
        obtain ⟨b4, h4, q4⟩ := DataW.trod_bool Tryz.underlying4 t4
        simp at h0 h1 h2 h3 h4
        subst h0 h1 h2 h3 h4
        refine ⟨⟨s0, k1, k2, s3, b4⟩, fun j hj => ?_, by rw [hD, q0, q1, q2, q3, q4]; rfl, w1, w2⟩
        match j, hj with
        | 0, _ => exact c0
        | 1, _ => exact c1
        | 2, _ => exact c2
        | 3, _ => exact c3
        | 4, _ => exact c4
    have inh : Inhabited ItD := ⟨⟨⟨#[]⟩, 0, 0, ⟨#[]⟩, false⟩⟩
    obtain ⟨Sx, hS⟩ := choose_lt each
    have hlen : ((List.range len).map Sx).length = len := by rw [List.length_map, List.length_range]
    refine ⟨some a, m, (List.range len).map Sx, by rw [hlen], by rw [hlen]; exact hl, hm, ?_, ?_, ?_⟩
    · intro j hj
      rw [hlen] at hj
      obtain ⟨b, off, spot⟩ := a
      have h0 := (hS j (by omega)).1
      have hspot : spot = none := by
        have := (hS 0 (by omega)).1 0 (by omega)
        simpa [Addr.add] using World.cell?_spot (this.trans (show (Sx 0).cells[0]? = some _ from rfl))
      subst hspot
      refine ⟨b, off, rfl, fun i hi => ?_⟩
      have := h0 i hi
      rw [Go.WideShapes.add_plain] at this
      rw [show off + j * 5 + i = off + (j * 5 + i) by omega, this]
      simp
    · intro x hx
      obtain ⟨i, hi, rfl⟩ := List.mem_map.1 hx
      exact (hS i (by have := List.mem_range.1 hi; omega)).2.2
    · intro hz x hx
      obtain ⟨i, hi, rfl⟩ := List.mem_map.1 hx
      have hil := List.mem_range.1 hi
      have key : ∀ s ∈ [(Sx i).key, (Sx i).str], s.size ≤ 140737488351232 := fun s hs => by
        have e : s.size = s.data.toList.length := by rw [Array.length_toList]; rfl
        rw [e]
        apply hz
        unfold DataW.weights
        rw [Tryz.underlying52]
        refine List.mem_cons_of_mem _ (List.mem_append_left _ ?_)
        refine mem_weightsAll (List.mem_map.2 ⟨i, hi, rfl⟩) ?_
        rw [(hS i (by omega)).2.1]
        unfold ItD.dat DataW.weights
        rw [Tryz.underlying123]
        simp [DataW.weightsEach, DataW.weights]
        rcases List.mem_cons.1 hs with rfl | hs
        · exact Or.inl rfl
        · rw [List.mem_singleton] at hs; subst hs; exact Or.inr rfl
      exact ⟨key _ (by simp), key _ (by simp)⟩
end Go.Proofs.YtbbbdcohkfijoaaGreatDoor

namespace Go.Proofs.YtbbbdcohkfijoaaGreatDoor
open Go.RowKit Go.Lib

/-- The entry of an item. -/
def ItD.ent (x : ItD) : Dat := ⟨x.key, x.kind, x.bits.toNat, x.str, x.sub⟩
theorem info_entry : (Tryz.prog.info? 61).map (fun i => (i.zero, i.size, i.bytes)) = some (some (.agg #[.string ⟨#[]⟩, .int .i64 0, .float .f64 0, .string ⟨#[]⟩, .bool false]), 5, 56) := by kernel_rfl
/-- The cells of entries, one behind the other. -/
def entsC (l : List Dat) : List Value := l.flatMap enC
theorem entsC_snoc (l : List Dat) (x : Dat) : entsC (l ++ [x]) = entsC l ++ enC x := by
  unfold entsC
  rw [List.flatMap_append]
  simp
theorem entsC_at {l : List Dat} {j i : Nat} (hj : j < l.length) (hi : i < 5) : (entsC l)[j * 5 + i]? = (enC l[j])[i]? := by
  unfold entsC
  induction l generalizing j with
  | nil => cases hj
  | cons x l ih =>
    rw [List.flatMap_cons]
    cases j with
    | zero =>
      rw [List.getElem?_append_left (by simp [enC]; omega)]
      simp
    | succ j =>
      have h5 : (enC x).length = 5 := rfl
      rw [List.getElem?_append_right (by rw [h5]; omega), h5, show (j + 1) * 5 + i - 5 = j * 5 + i by omega]
      exact ih (by simp at hj; omega)
theorem row_new (w : World) (cs : Array Value) (t : TypeId) : ∀ j u, cs.toList[j]? = some u → (w.alloc (.cells cs t)).cell? ((⟨w.heap.size, 0, none⟩ : Addr).add j) = some u := fun j u hu => by
  have hb : Blk (w.alloc (.cells cs t)) w.heap.size cs t := ⟨World.alloc_heap_new w _⟩
  rw [show ((⟨w.heap.size, 0, none⟩ : Addr).add j) = ⟨w.heap.size, j, none⟩ by rw [Go.WideShapes.add_plain, Nat.zero_add], hb.cell]
  simpa using hu
set_option maxRecDepth 100000 in
set_option maxHeartbeats 4000000 in
theorem made_any (A : Option Addr) (cap : Nat) (es : List ItD) (w : World) (hl : es.length ≤ 300) (hR : RdI w A es) (hf : ∀ x ∈ es, x.fine) :
    Calls Tryz.prog 34 #[.slice A es.length cap] w fun e w' => ∃ v, e = .returned v ∧ w'.ownsRow w.heap.size 61 5 v es.length (entsC (es.map ItD.ent)) ∧ Below w.heap.size w w' := by
  obtain ⟨i0, hi, hz0, hz1, hz2⟩ := info_parts info_entry
  have HR := Lib.hid hR
  have HF := Lib.hid hf
  obtain ⟨n, hn⟩ : ∃ n, es.length = n := ⟨_, rfl⟩
  have HN := Lib.hid hn
  rw [hn] at hl ⊢
  clear hR hf hn
  go_enter Tryz.func34, Tryz.ntmps34
  go_wp2
  go_loopw [3, 8] (fun sv kv wr => ∃ (v : Value) (k : Nat), v = sv ∧ kv = .int .i64 (k : Int) ∧ k ≤ n ∧ wr.ownsRow w.heap.size 61 5 v k (entsC ((es.take k).map ItD.ent)) ∧ Below w.heap.size w wr) (fun _ kv _ => n - (RowKit.intOf kv).toNat)
  case atStart => exact ⟨_, 0, rfl, rfl, Nat.zero_le _, World.ownsRow_nil _ _ _ _, Below.refl _ _⟩
  case round =>
    obtain ⟨v, k, rfl, rfl, hk, hO, hB⟩ := hrel
    by_cases hlt : k < n
    · have hkl : k < es.length := by rw [HN.out]; exact hlt
      obtain ⟨b, off, hA, hcl⟩ := HR.out k hkl
      subst hA
      obtain ⟨w1, w2⟩ := HF.out _ (List.getElem_mem hkl)
      obtain ⟨x, hx⟩ : ∃ x, es[k] = x := ⟨_, rfl⟩
      rw [hx] at hcl w1 w2
      have hcw : ∀ i, i < 5 → wr.cell? ⟨b, off + k * 5 + i, none⟩ = x.cells[i]? := fun i hi => by
        have h1 := hcl i hi
        have h2 : x.cells[i]? = some (x.cells[i]'(by simpa [ItD.cells] using hi)) := List.getElem?_eq_getElem _
        have hl := World.block_lt_of_cell? w _ (h1.trans h2)
        exact (hB.cell (p := ⟨b, off + k * 5 + i, none⟩) hl).trans h1
      obtain ⟨q0, q1⟩ := bounds_u64 w2
      obtain ⟨nb, hnb⟩ : ∃ nb : Nat, x.bits = (nb : Int) := ⟨x.bits.toNat, by omega⟩
      have k0 : wr.cell? ⟨b, off + k * 5, none⟩ = some (.string x.key) := hcw 0 (by omega)
      have k1 : wr.cell? ⟨b, off + k * 5 + 1, none⟩ = some (.int .i64 x.kind) := hcw 1 (by omega)
      have k2 : wr.cell? ⟨b, off + k * 5 + 2, none⟩ = some (.int .u64 x.bits) := hcw 2 (by omega)
      have k3 : wr.cell? ⟨b, off + k * 5 + 3, none⟩ = some (.string x.str) := hcw 3 (by omega)
      have k4 : wr.cell? ⟨b, off + k * 5 + 4, none⟩ = some (.bool x.sub) := hcw 4 (by omega)
      rw [hnb] at k2
      have hfr := run_f64from nb
      have hst := srt_store_float
      clear hcl hcw w1 w2
      have hbl := hB.size
      have hnx : v.ownBlock ≠ some wr.heap.size := fun e => by
        rcases hO.2 with ⟨e0, _⟩ | ⟨q', cap', cur, e0, _, hq, _⟩
        · rw [e0] at e; simp [Value.ownBlock] at e
        · rw [e0] at e
          simp [Value.ownBlock] at e
          subst e
          have := (Array.getElem?_eq_some_iff.1 hq).1
          omega
      have ow := fun (c1 c2 : Array Value) (h2 : c2.toList = enC x.ent) => run_append_own_at (P := Tryz.prog) (((wr.alloc (.cells c1 123)).drew).alloc (.cells c2 61)) w.heap.size 53 53 61 i0 _ 5 56 Tryz.underlying53 hi hz0 hz1 hz2 rfl (by decide) v k _ ((hO.alloc _).drew.alloc _) ⟨wr.heap.size + 1, 0, none⟩ 1 1 (enC x.ent) rfl (fun j u hu => by have := row_new ((wr.alloc (.cells c1 123)).drew) c2 61 j u (by rw [h2]; exact hu); simpa [World.drew] using this) (by simp [enC, Value.oneCell']) (by unfold maxLen; omega) (by omega) (by simp; omega)
      obtain ⟨v', w2, hr, hown2, hgrow, _, hloc⟩ := ow #[.string x.key, .int .i64 x.kind, .int .u64 (nb : Int), .string x.str, .bool x.sub] #[.string x.key, .int .i64 x.kind, .float .f64 nb, .string x.str, .bool x.sub] (by simp [enC, ItD.ent, hnb])
      have HK2 : w2.cell? ⟨wr.heap.size, 0, none⟩ = some (.string x.key) ∧ w2.cell? ⟨wr.heap.size, 1, none⟩ = some (.int .i64 x.kind) ∧ w2.cell? ⟨wr.heap.size, 2, none⟩ = some (.int .u64 nb) ∧ w2.cell? ⟨wr.heap.size, 3, none⟩ = some (.string x.str) ∧ w2.cell? ⟨wr.heap.size, 4, none⟩ = some (.bool x.sub) := by
        have hx5 := fun i => hgrow.cell_far ⟨wr.heap.size, i, none⟩ (by simp; omega) (fun e => hnx e.symm)
        have hc5 : ∀ i, (((wr.alloc (.cells #[.string x.key, .int .i64 x.kind, .int .u64 (nb : Int), .string x.str, .bool x.sub] 123)).drew).alloc (.cells #[.string x.key, .int .i64 x.kind, .float .f64 nb, .string x.str, .bool x.sub] 61)).cell? ⟨wr.heap.size, i, none⟩ = #[Value.string x.key, .int .i64 x.kind, .int .u64 (nb : Int), .string x.str, .bool x.sub][i]? := fun i =>
          (Blk.alloc (W := (wr.alloc (.cells #[.string x.key, .int .i64 x.kind, .int .u64 (nb : Int), .string x.str, .bool x.sub] 123)).drew) ⟨heap_alloc_new wr _⟩ _).cell i
        exact ⟨(hx5 0).trans (hc5 0), (hx5 1).trans (hc5 1), (hx5 2).trans (hc5 2), (hx5 3).trans (hc5 3), (hx5 4).trans (hc5 4)⟩
      have HR2 := Lib.hid hr
      have HO2 := Lib.hid hown2
      have HG2 := Lib.hid hgrow
      clear ow hr hown2 hgrow
      go_wp2_with fail
      go_region_held_law? (fun w' => w'.cell? ⟨wr.heap.size, 0, none⟩ = some (.string x.key) ∧ w'.cell? ⟨wr.heap.size, 1, none⟩ = some (.int .i64 x.kind) ∧ w'.cell? ⟨wr.heap.size, 2, none⟩ = some (.int .u64 nb) ∧ w'.cell? ⟨wr.heap.size, 3, none⟩ = some (.string x.str) ∧ w'.cell? ⟨wr.heap.size, 4, none⟩ = some (.bool x.sub)) (first | go_keep | exact HK2) (refine step_append_val rfl (.tmp 12) (.tmp 26) 53 53 rfl v (by simp [Act.eval]) (.slice (some ⟨wr.heap.size + 1, 0, none⟩) 1 1) (by simp [Act.eval]) v' w2 HR2.out ?_)
      all_goals
        clear hnx HK2 k0 k1 k2 k3 k4 hfr hst
        go_wp2_with fail
        refine ⟨⟨v', k + 1, rfl, rfl, by omega, ?_, ?_⟩, ?_⟩
        · rw [List.take_succ_eq_append_getElem hkl, List.map_append, hx, List.map_cons, List.map_nil, entsC_snoc]
          exact HO2.out
        · refine Below.grown (((hB.alloc hbl _).drew).alloc (by simp; omega) _) HG2.out (by simp; omega) (fun q hq => ?_)
          rcases hO.2 with ⟨e0, _⟩ | ⟨q', cap', cur, e0, hq2, _⟩
          · rw [e0] at hq; simp [Value.ownBlock] at hq
          · rw [e0] at hq
            simp [Value.ownBlock] at hq
            subst hq
            exact hq2
        · simp [RowKit.intOf]
          omega
    · have hkn : k = n := by omega
      subst hkn
      rw [show es.take k = es by rw [← HN.out, List.take_length]] at hO
      go_wp2_with fail
      go_ret
      exact ⟨_, rfl, hO, hB⟩
end Go.Proofs.YtbbbdcohkfijoaaGreatDoor

namespace Go.Proofs.YtbbbdcohkfijoaaGreatDoor
open Go.RowKit Go.Lib

/-- The bytes of a code. -/
def textB (c : Int) : ByteArray :=
  if 1114112 ≤ c ∧ c < 1114368 then ⟨#[UInt8.ofNat (c - 1114112).toNat]⟩ else if Lib.validRune c then Utf8.encode c else ⟨#[]⟩
end Go.Proofs.YtbbbdcohkfijoaaGreatDoor

namespace Go.Proofs.YtbbbdcohkfijoaaGreatDoor
open Go.Lib

/-- The character at byte i of s: its code and how many bytes it has. -/
def chN (n b0 b1 b2 b3 : Nat) : Nat × Nat := if decodeN n b0 b1 b2 b3 = (65533, 1) then (1114112 + b0, 1) else decodeN n b0 b1 b2 b3
def chS (s : ByteArray) (i : Nat) : Nat × Nat := chN (s.size - i) (s.get! i).toNat (s.get! (i + 1)).toNat (s.get! (i + 2)).toNat (s.get! (i + 3)).toNat

/-- What Next answers. -/
def nextZ (s : ByteArray) (i : Int) (b : Bool) : Nat × Nat :=
  if i < 0 ∨ (s.size : Int) ≤ i then (0, 0) else if b then ((s.get! i.toNat).toNat, 1) else chS s i.toNat


theorem get!_lt (s : ByteArray) (i : Nat) (h : i < s.size) : s[i] = s.get! i := (Utf8W.get!_of_lt s i h).symm

theorem get!_lt256 (s : ByteArray) (i : Nat) : (s.get! i).toNat < 256 := by
  have := UInt8.toNat_lt (s.get! i)
  omega
/-! What 'size' reckons is what the library decodes. -/
end Go.Proofs.YtbbbdcohkfijoaaGreatDoor

namespace Go.Proofs.YtbbbdcohkfijoaaGreatDoor
open Go.Lib

/-- How many bytes the character at a place has (0 past the end). -/
def wid (s : ByteArray) (b : Bool) (i : Nat) : Nat := (nextZ s (i : Int) b).2
def uCod (s : ByteArray) (b : Bool) (i : Nat) : Nat := (nextZ s (i : Int) b).1
/-- The place of the k-th character (from 0 on), or the length. -/
def pl (s : ByteArray) (b : Bool) : Nat → Nat
  | 0 => 0
  | k + 1 => pl s b k + wid s b (pl s b k)

end Go.Proofs.YtbbbdcohkfijoaaGreatDoor

namespace Go.Proofs.YtbbbdcohkfijoaaGreatDoor
open Go.RowKit Go.Lib Go.Shelf
attribute [local go_sem] Oper.semAt_some

/-- What stands for the k-th character when its code is changed by f. -/
def piece (s : ByteArray) (b : Bool) (f : Int → Int) (k : Nat) : List UInt8 :=
  if f (uCod s b (pl s b k)) = uCod s b (pl s b k) then (s.data.toList.drop (pl s b k)).take (wid s b (pl s b k)) else (textB (f (uCod s b (pl s b k)))).data.toList
end Go.Proofs.YtbbbdcohkfijoaaGreatDoor

namespace Go.Proofs.YtbbbdcohkfijoaaGreatDoor
open Go.RowKit Go.Lib

def d00 : Dat := ⟨⟨#[]⟩, 0, 0, ⟨#[]⟩, false⟩
/-- What the entries of a sort are like. -/
def Fits (es : List Dat) : Prop := ∀ x ∈ es, x.num < 18446744073709551616 ∧ x.key.size ≤ 140737488351232 ∧ x.str.size ≤ 140737488351232
/-- Order, by any order that is known: by one comparison of entries. -/
def OrderBy (how conv : ByteArray) (c : Dat → Dat → Int) (way : Int) : Prop :=
  (way = 1 ∨ way = -1) ∧ (∀ d : Nat → Dat, CmpW fun a b => c (d a) (d b)) ∧
  ∀ (A : Option Addr) (cap : Nat) (es : List Dat) (w : World), es.length ≤ 1000 → RdE w A es → PowTab w → Fits es →
    Calls Tryz.prog 35 #[.slice A es.length cap, .string how, .string conv] w (OrdEnd w es.length (ltV (fun a b => c (es.getD a d00) (es.getD b d00)) way))
theorem fits_at {es : List Dat} (h : Fits es) : ∀ a, a < es.length → (es.getD a d00).num < 18446744073709551616 ∧ (es.getD a d00).key.size ≤ 140737488351232 ∧ (es.getD a d00).str.size ≤ 140737488351232 := fun a ha => by
  rw [List.getD_eq_getElem?_getD, List.getElem?_eq_getElem ha]
  exact h _ (List.getElem_mem ha)
theorem ord_unsorted (conv : ByteArray) : OrderBy n0 conv (fun _ _ => 0) 1 :=
  ⟨Or.inl rfl, fun _ => CmpW.zero, fun _ _ _ w hl hR _ _ => order_yes (by unfold ordT; simp) (by decide) hl hR (CmpW.zero.ord (Or.inl rfl)) en_leave en_alike (readies_leave w _ _ _ _) (cmp_alike w _ _ _)⟩
theorem ord_key {how : ByteArray} {way : Int} (conv : ByteArray) (hh : (how, fLeave, fByKey, way) ∈ ordT) (hs : how.size ≤ maxLen) (hw : way = 1 ∨ way = -1) : OrderBy how conv (fun d e => Lib.compareBytes d.key.data.toList e.key.data.toList) way :=
  ⟨hw, fun d => cw_byKey d, fun _ _ _ w hl hR _ _ => order_yes hh hs hl hR ((cw_byKey _).ord hw) en_leave en_byKey (readies_leave w _ _ _ _) (cmp_byKey w _ _ _)⟩
noncomputable def cKeyN (d e : Dat) : Int := kcv (cmpN (rdKey d).num (rdKey e).num) (Lib.compareBytes d.key.data.toList e.key.data.toList)
theorem ord_keyN {how : ByteArray} {way : Int} (conv : ByteArray) (hh : (how, fCountKey, fByKeyN, way) ∈ ordT) (hs : how.size ≤ maxLen) (hw : way = 1 ∨ way = -1) : OrderBy how conv cKeyN way :=
  ⟨hw, fun d => cw_byKeyN (fun a => rdKey (d a)), fun _ _ es w hl hR _ hF => order_yes hh hs hl hR ((cw_byKeyN fun a => rdKey (es.getD a d00)).ord hw) en_countKey en_byKeyN (readies_countKey w _ _ _ _ (fun a ha => Nat.le_trans (fits_at hF a ha).2.1 (by omega))) (cmp_byKeyN w _ _ _)⟩
theorem ord_count {how : ByteArray} {way : Int} (conv : ByteArray) (hh : (how, fCount, fByVal, way) ∈ ordT) (hs : how.size ≤ maxLen) (hw : way = 1 ∨ way = -1) : OrderBy how conv (fun d e => cvV (rdNum d) (rdNum e)) way :=
  ⟨hw, fun d => cw_byVal (fun a => rdNum (d a)), fun _ _ es w hl hR hT hF => order_yes hh hs hl hR ((cw_byVal fun a => rdNum (es.getD a d00)).ord hw) en_count en_byVal (readies_count w _ _ _ _ (fun a ha => Nat.le_trans (fits_at hF a ha).2.2 (by omega))) (cmp_byVal hT fun a _ => (show (0 : Nat) ≤ _ by omega))⟩
end Go.Proofs.YtbbbdcohkfijoaaGreatDoor
