/- Several texts in one (Plain: numbers of digits of any base, the lowest digit first; Plain: the guess of a limb of the quotient, and a round of the long division; Words for memory: a row of numbers within a block that may be written; a slice that is read; Plain: decimal texts of numbers; Contracts of layer 3: floats by their bits: Abs, IsNaN, IsInf, Parts; Contracts of layer 3: which floats are finite; Parts; Contracts of layer 3: amount; Plain: float64(k) times the constant log10(2), and its floor, for every k that a float has. No walk here; Contracts of layer 4: math.Floor, tensIn; Plain: floats by their rungs, and which one is nearest to a fraction. No walk here; Plain: the float that Read's rounding gives is the nearest one. No walk here; Contracts of layer 3: math.Ldexp of a natural that is a float; Contracts of layer 3: math.Ldexp; Contracts of layer 3: what its laws share: same, digits one by one; Contracts of layer 3: what its laws share: naturals as floats, digits; Contracts of layer 4: Trunc; Plain: floats by a mantissa of 53 digits; exact differences; one step of what is left. No walk here; Contracts of layer 4: the float nearest to a numeral; Contracts of layer 4: math.Mod; Contracts of layer 4: whole numbers: wholeBelow, Whole; Contracts of layer 4: Pow; Plain: whole numbers' bits, floats of whole numbers added, a number below 2^48 divided by 2^48; Contracts of layer 14: a seed's state, the next one, a dice in memory; Contracts of layer 14: whole numbers, their bits). -/
import Derived.KernelRfl
import Derived.WalkSmall
import Derived.WalkKit
import Derived.ProofKit
import Derived.Below
import Derived.Lib.Hide
import Derived.Laws.OwnMore
import Derived.Lib.SmallJoins
import Derived.Test.YtelhbkfhalpniaaProg
import Derived.Laws.Cover2
import Derived.Laws.Externs
import Derived.Laws.BitsAll
import Derived.Laws.CopyOwn
import Derived.Outline
import Derived.Lib.BitFns
import Derived.Deep.RegionWith
import Derived.Test.YtelhbkfhalpniaaShelf
import Derived.Deep.QuietTactic
import Derived.BigQuiet
import Derived.Laws.BitsAllLaws
import Derived.Laws.MakeOwn
import Derived.Maps.AppendAt
import Derived.Laws.AppendOwnNone
import Derived.RangeFuncBox
import Derived.RegionTactic
import Derived.ChangeAlike
import Derived.Lib.LazyBuf
import Derived.Lib.BufferRead
import Derived.WalkSpells
import Derived.WalkLawsBesides
import Derived.Laws.FloatArith
import Derived.Lib.ItoaNum
import Derived.Lib.AppendIntMem
namespace Go.Proofs.Ytelhbkfhalpniaa

/-- Without noughts at the top. -/
def trimL : List Nat → List Nat
  | [] => []
  | x :: l => if trimL l = [] then (if x = 0 then [] else [x]) else x :: trimL l
/-- The digits of a number: n of them, and noughts at the top taken away. -/
def digs (B : Nat) : Nat → Nat → List Nat
  | 0, _ => []
  | k + 1, n => n % B :: digs B k (n / B)
def dig (B n : Nat) : List Nat := trimL (digs B n n)
end Go.Proofs.Ytelhbkfhalpniaa

namespace Go.Proofs.Ytelhbkfhalpniaa

/-- All that is known of the numbers that are guessed by: the divisor's two top limbs, the dividend's three. -/
structure GuessOk (B P Dl v1 v0 Nl u2 u1 u0 : Nat) : Prop where
  hP : 0 < P
  hDl : Dl < P
  hNl : Nl < P
  hv0 : v0 < B
  hv1 : v1 < B
  hu0 : u0 < B
  htop : B ≤ 2 * v1
  hB2 : 2 ≤ B
  hless : Nl + P * (u0 + B * (u1 + B * u2)) < B * (Dl + P * (v0 + B * v1))
section
variable {B P Dl v1 v0 Nl u2 u1 u0 : Nat} (h : GuessOk B P Dl v1 v0 Nl u2 u1 u0)
include h
end

section
variable {B D A : Nat} {cur qs : List Nat} {i n : Nat}
end
end Go.Proofs.Ytelhbkfhalpniaa

namespace Go.Proofs.Ytelhbkfhalpniaa
open Go.RowKit

section
variable {κ : IntKind} {w w' : World} {g o : Nat} {t : TypeId} {L R : List Value} {xs : List Nat}
end
/-- A slice that is read. -/
def Rd (κ : IntKind) (w : World) (A : Option Addr) (xs : List Nat) : Prop :=
  ∀ j (_ : j < xs.length), ∃ g o, A = some ⟨g, o, none⟩ ∧ w.cell? ⟨g, o + j, none⟩ = some (.int κ (xs[j] : Nat))
/-- It does not lie in block g. -/
def Off (A : Option Addr) (g : Nat) : Prop := ∀ a, A = some a → a.block ≠ g
section
variable {κ : IntKind} {w w' : World} {A : Option Addr} {xs : List Nat}
theorem Rd.nil : Rd κ w A [] := fun _ h => by simp at h
theorem Rd.at_ (h : Rd κ w A xs) (hx : xs ≠ []) : ∃ g o, A = some ⟨g, o, none⟩ ∧ ∀ j (_ : j < xs.length), w.cell? ⟨g, o + j, none⟩ = some (.int κ (xs[j] : Nat)) := by
  obtain ⟨g, o, rfl, _⟩ := h 0 (List.length_pos_iff.2 hx)
  refine ⟨g, o, rfl, fun j hj => ?_⟩
  obtain ⟨g', o', e, hc⟩ := h j hj
  cases e
  exact hc
theorem Rd.of {g o : Nat} (h : ∀ j (_ : j < xs.length), w.cell? ⟨g, o + j, none⟩ = some (.int κ (xs[j] : Nat))) : Rd κ w (some ⟨g, o, none⟩) xs := fun j hj => ⟨g, o, rfl, h j hj⟩
theorem Rd.below (h : Rd κ w A xs) (hb : Below w.heap.size w w') : Rd κ w' A xs := fun j hj => by
  obtain ⟨g', o, e, hc⟩ := h j hj
  exact ⟨g', o, e, (hb.cell (World.block_lt_of_cell? w _ hc)).trans hc⟩
theorem Rd.take (h : Rd κ w A xs) (n : Nat) : Rd κ w A (xs.take n) := fun j hj => by
  have hj2 : j < xs.length := by rw [List.length_take] at hj; omega
  obtain ⟨g, o, e, hc⟩ := h j hj2
  exact ⟨g, o, e, by rw [hc, List.getElem_take]⟩
/-- What lies in old memory is not in a new block. -/
theorem Rd.off (h : Rd κ w A xs) (hx : xs ≠ []) {g : Nat} (hg : w.heap.size ≤ g) : Off A g := by
  obtain ⟨g', o, rfl, hc⟩ := h.at_ hx
  intro a e
  cases e
  have := World.block_lt_of_cell? w _ (hc 0 (List.length_pos_iff.2 hx))
  show g' ≠ g
  exact fun e => by subst e; exact absurd this (by simpa using hg)
end
end Go.Proofs.Ytelhbkfhalpniaa

namespace Go.Proofs.Ytelhbkfhalpniaa

/-- A digit as a byte. -/
def db (d : Nat) : UInt8 := UInt8.ofNat (48 + d)
/-- A number's decimal text. -/
def decs (n : Nat) : List UInt8 := if n = 0 then [48] else (dig 10 n).reverse.map db
end Go.Proofs.Ytelhbkfhalpniaa

namespace Go.Proofs.Ytelhbkfhalpniaa
open Go.RowKit Go.Lib

/-- The bits without the sign. -/
def mag (b : Nat) : Nat := b % 9223372036854775808
theorem run_f64bits (b : Nat) (W : World) : (callFunc 23 #[.float .f64 b]).run Try.prog W = .ok (.value (.int .u64 b)) W := by
  rw [run_callFunc_extern Try.func23 (by kernel_rfl) (by kernel_rfl) (by kernel_rfl) (e := Extern.MathFloatBits.float64bits) (by kernel_rfl)]
  rfl
theorem run_f64from (n : Nat) (W : World) : (callFunc 12 #[.int .u64 n]).run Try.prog W = .ok (.value (.float .f64 n)) W := by
  rw [run_callFunc_extern Try.func12 (by kernel_rfl) (by kernel_rfl) (by kernel_rfl) (e := Extern.MathFloatBits.float64frombits) (by kernel_rfl)]
  rfl
def nanB (b : Nat) : Bool := FloatKind.f64.format.order b b != some .eq
theorem isNaN_any (b : Nat) (w : World) : Calls Try.prog 32 #[.float .f64 b] w fun e w' => e = .returned (.bool (nanB b)) ∧ w = w' := by
  have h : (FloatKind.f64.format.order b b != some .eq) = nanB b := rfl
  go_enter Try.func32, Try.ntmps32
  go_wp2
  go_ret
  exact ⟨rfl, rfl⟩
end Go.Proofs.Ytelhbkfhalpniaa

namespace Go.Proofs.Ytelhbkfhalpniaa
open Go.RowKit Go.Lib

theorem dbl_sign : Ieee.double.signWeight = 9223372036854775808 := by decide
theorem dbl_binade : Ieee.double.binade = 4503599627370496 := by decide
theorem dbl_inf : Ieee.double.infRung = 9218868437227405312 := by decide
theorem dbl_least : Ieee.double.leastPlace = -1074 := by decide
/-- A finite float's natural and power. -/
def manF (r : Nat) : Nat := if r < 4503599627370496 then r else 4503599627370496 + r % 4503599627370496
def expF (r : Nat) : Int := if r < 4503599627370496 then -1074 else -1074 + ((r / 4503599627370496 - 1 : Nat) : Int)
theorem read_fin {b : Nat} (h : mag b < 9218868437227405312) : Ieee.double.read b = .number (b / 9223372036854775808 % 2 == 1) (manF (mag b)) (expF (mag b)) := by
  unfold Ieee.Format.read manF expF mag at *
  simp only [dbl_sign, dbl_binade, dbl_inf, dbl_least]
  split
  · rfl
  · rfl
theorem read_inf {b : Nat} (h : mag b = 9218868437227405312) : Ieee.double.read b = .infinity (b / 9223372036854775808 % 2 == 1) := by
  unfold Ieee.Format.read mag at *
  simp only [dbl_sign, dbl_binade, dbl_inf]
  rw [if_neg (by omega), if_neg (by omega), if_pos h]
theorem read_nan {b : Nat} (h : 9218868437227405312 < mag b) : Ieee.double.read b = .nan (b / 9223372036854775808 % 2 == 1) (mag b - 9218868437227405312) := by
  unfold Ieee.Format.read mag at *
  simp only [dbl_sign, dbl_binade, dbl_inf]
  rw [if_neg (by omega), if_neg (by omega), if_neg (by omega)]
theorem nan_no {b : Nat} (h : mag b ≤ 9218868437227405312) : nanB b = false := by
  show (Ieee.double.order b b != some .eq) = false
  unfold Ieee.Format.order
  rcases Nat.lt_or_ge (mag b) 9218868437227405312 with h1 | h1
  · rw [read_fin h1]
    simp [Ieee.Datum.order]
  · rw [read_inf (by omega)]
    simp [Ieee.Datum.order]
theorem nan_yes {b : Nat} (h : 9218868437227405312 < mag b) : nanB b = true := by
  show (Ieee.double.order b b != some .eq) = true
  unfold Ieee.Format.order
  rw [read_nan h]
  rfl
end Go.Proofs.Ytelhbkfhalpniaa

namespace Go.Proofs.Ytelhbkfhalpniaa
open Go.RowKit Go.Lib

/-- A row of numbers is not touched by a store where no number is. -/
theorem Rd.other {κ : IntKind} {W : World} {A : Option Addr} {xs : List Nat} (h : Rd κ W A xs) {g j : Nat} {u0 : Value} (hc : W.cell? ⟨g, j, none⟩ = some u0) (hu : ∀ z, u0 ≠ .int κ z) (u : Value) : Rd κ (W.setCell ⟨g, j, none⟩ u) A xs := fun i hi => by
  obtain ⟨g', o, e, hc'⟩ := h i hi
  refine ⟨g', o, e, ?_⟩
  have hne : (⟨g', o + i, none⟩ : Addr) ≠ ⟨g, j, none⟩ := fun e2 => by
    rw [e2] at hc'
    rw [hc] at hc'
    exact hu _ (Option.some.inj hc')
  rw [World.cell?_setCell_other _ _ _ _ (fun e3 => hne e3.symm)]
  exact hc'
theorem manF_lt {r : Nat} : manF r < 9007199254740992 := by unfold manF; split <;> omega
theorem expF_bd {r : Nat} (h : r < 9218868437227405312) : -1074 ≤ expF r ∧ expF r ≤ 971 := by unfold expF; split <;> omega
/-- The parts of a float as a fraction. -/
def amN (r : Nat) : Nat := manF r * 2 ^ (expF r).toNat
def amD (r : Nat) : Nat := 2 ^ (-expF r).toNat
theorem amD_pos (r : Nat) : 0 < amD r := Nat.pow_pos (by omega)

end Go.Proofs.Ytelhbkfhalpniaa

namespace Go.Proofs.Ytelhbkfhalpniaa
def flo (x : Nat) : Nat := FloatKind.f64.encode ((FloatKind.f64.decode x).integral .down)
def isNum : Ieee.Datum → Bool | .number .. => true | _ => false
end Go.Proofs.Ytelhbkfhalpniaa

namespace Go.Proofs.Ytelhbkfhalpniaa
open Go.RowKit Go.Lib

attribute [local irreducible] FloatKind.decode in
theorem floor_step (x : Nat) (s : Bool) (m : Nat) (p : Int) (hd : FloatKind.f64.decode x = .number s m p) : Extern.MathFloor.toIntegral "math.archFloor" .down #[.float .f64 x] = pure (.float .f64 (flo x)) := by
  unfold flo
  conv => lhs; whnf
  rw [hd]
theorem run_floor (x : Nat) (W : World) (h : isNum (FloatKind.f64.decode x) = true) : (callFunc 39 #[.float .f64 x]).run Try.prog W = .ok (.value (.float .f64 (flo x))) W := by
  rw [run_callFunc_extern Try.func39 (by kernel_rfl) (by kernel_rfl) (by kernel_rfl) (e := Extern.MathFloor.toIntegral "math.archFloor" .down) (by kernel_rfl)]
  cases hd : FloatKind.f64.decode x with
  | number s m p => rw [floor_step x s m p hd]; rfl
  | infinity s => rw [hd] at h; cases h
  | nan s t => rw [hd] at h; cases h
theorem floor_any (x : Nat) (w : World) (h : isNum (FloatKind.f64.decode x) = true) : Calls Try.prog 35 #[.float .f64 x] w fun e w' => e = .returned (.float .f64 (flo x)) ∧ w = w' := by
  have h1 := fun W => run_floor x W h
  go_enter Try.func35, Try.ntmps35
  go_wp2
  go_ret
  exact ⟨rfl, rfl⟩
end Go.Proofs.Ytelhbkfhalpniaa

namespace Go.Proofs.Ytelhbkfhalpniaa

/-- What the float of rung r is, counted in the least one. -/
def V (r : Nat) : Nat := if r < 4503599627370496 then r else (4503599627370496 + r % 4503599627370496) * 2 ^ (r / 4503599627370496 - 1)
def U (r : Nat) : Nat := 2 ^ (r / 4503599627370496 - 1)
theorem U_pos (r : Nat) : 0 < U r := Nat.pow_pos (by omega)
theorem V_succ (r : Nat) : V (r + 1) = V r + U r := by
  unfold V U
  by_cases h : r + 1 < 4503599627370496
  · rw [if_pos h, if_pos (by omega), show r / 4503599627370496 - 1 = 0 by omega, Nat.pow_zero]
  · rw [if_neg h]
    by_cases h2 : r < 4503599627370496
    · obtain rfl : r = 4503599627370495 := by omega
      decide
    · rw [if_neg h2]
      by_cases h3 : (r + 1) % 4503599627370496 = 0
      · rw [h3, show (r + 1) / 4503599627370496 - 1 = r / 4503599627370496 - 1 + 1 by omega, Nat.pow_succ, show r % 4503599627370496 = 4503599627370495 by omega]
        generalize 2 ^ (r / 4503599627370496 - 1) = z
        omega
      · rw [show (r + 1) / 4503599627370496 = r / 4503599627370496 by omega, show (r + 1) % 4503599627370496 = r % 4503599627370496 + 1 by omega, ← Nat.add_assoc, Nat.succ_mul]
theorem V_lt {r s : Nat} (h : r < s) : V r < V s := by
  induction s with
  | zero => omega
  | succ s ih =>
    have h1 := V_succ s
    have h2 := U_pos s
    rcases Nat.lt_or_ge r s with h3 | h3
    · have := ih h3; omega
    · obtain rfl : r = s := by omega
      omega
theorem V_le {r s : Nat} (h : r ≤ s) : V r ≤ V s := by
  rcases Nat.lt_or_ge r s with h1 | h1
  · exact Nat.le_of_lt (V_lt h1)
  · obtain rfl : r = s := by omega
    exact Nat.le_refl _
theorem V_inj {r s : Nat} (h : V r = V s) : r = s := by
  rcases Nat.lt_trichotomy r s with h1 | h1 | h1
  · have := V_lt h1; omega
  · exact h1
  · have := V_lt h1; omega
theorem V_at (e m : Nat) (hm : m ≤ 9007199254740992) (h : e = 0 ∨ 4503599627370496 ≤ m) : V (e * 4503599627370496 + m) = m * 2 ^ e := by
  unfold V
  by_cases h1 : m = 9007199254740992
  · subst h1
    rw [if_neg (by omega), show (e * 4503599627370496 + 9007199254740992) % 4503599627370496 = 0 by omega, show (e * 4503599627370496 + 9007199254740992) / 4503599627370496 - 1 = e + 1 by omega, Nat.pow_succ]
    generalize 2 ^ e = z
    omega
  · by_cases h2 : 4503599627370496 ≤ m
    · rw [if_neg (by omega), show (e * 4503599627370496 + m) / 4503599627370496 - 1 = e by omega, show 4503599627370496 + (e * 4503599627370496 + m) % 4503599627370496 = m by omega]
    · obtain rfl : e = 0 := by omega
      rw [if_pos (by omega)]
      simp

end Go.Proofs.Ytelhbkfhalpniaa

namespace Go.Proofs.Ytelhbkfhalpniaa

def S1074 : Nat := 2 ^ 1074
theorem S_eq (c : Nat) (h : c = 1074) : S1074 = 2 ^ c := by subst h; rfl
end Go.Proofs.Ytelhbkfhalpniaa

namespace Go.Proofs.Ytelhbkfhalpniaa
open Go.RowKit Go.Lib

theorem dbl_frac : Ieee.double.fractionBits = 52 := rfl
theorem word_pos (r : Nat) : Ieee.double.word false r = r := rfl
theorem log2_bd {n : Nat} (h : 0 < n) : 2 ^ n.log2 ≤ n ∧ n < 2 ^ (n.log2 + 1) := ⟨Nat.log2_self_le (by omega), Nat.lt_log2_self⟩
theorem log2_is {n k : Nat} (h1 : 2 ^ k ≤ n) (h2 : n < 2 ^ (k + 1)) : n.log2 = k := by
  have h0 : 0 < n := Nat.lt_of_lt_of_le (Nat.pow_pos (by omega)) h1
  obtain ⟨a, b⟩ := log2_bd h0
  have c1 := (Nat.pow_lt_pow_iff_right (show 1 < 2 by omega)).1 (Nat.lt_of_le_of_lt h1 b)
  have c2 := (Nat.pow_lt_pow_iff_right (show 1 < 2 by omega)).1 (Nat.lt_of_le_of_lt a h2)
  omega
theorem log2_mul {m : Nat} (j : Nat) (h : 0 < m) : (m * 2 ^ j).log2 = m.log2 + j := by
  obtain ⟨a, b⟩ := log2_bd h
  refine log2_is ?_ ?_
  · rw [Nat.pow_add]; exact Nat.mul_le_mul_right _ a
  · rw [Nat.add_right_comm, Nat.pow_add]; exact Nat.mul_lt_mul_of_pos_right b (Nat.pow_pos (by omega))
theorem log2_le52 {m : Nat} (h : 0 < m) (h2 : m < 9007199254740992) : m.log2 ≤ 52 := by
  have := (log2_bd h).1
  have h3 : 2 ^ m.log2 < 2 ^ 53 := Nat.lt_of_le_of_lt this h2
  have := (Nat.pow_lt_pow_iff_right (show 1 < 2 by omega)).1 h3
  omega
theorem log2_52 {m : Nat} (h : 4503599627370496 ≤ m) (h2 : m < 9007199254740992) : m.log2 = 52 := log2_is h h2
theorem cut_exact (m j : Nat) (hm : 0 < m) : Ieee.Toward.even.cut false (m * 2 ^ j) j = m := by
  have hp : 0 < 2 ^ j := Nat.pow_pos (by omega)
  have hl := log2_mul j hm
  have hmin : min j ((m * 2 ^ j).log2 + 2) = j := by omega
  unfold Ieee.Toward.cut
  simp only [hmin, Nat.one_shiftLeft, Nat.mul_div_cancel _ hp, Nat.mul_mod_left]
  have h1 : (2 ^ j == 0) = false := by rw [beq_eq_false_iff_ne]; omega
  simp [h1]
/-- A number that is a float is written as it. -/
theorem nearest_exact {m j e : Nat} {place : Int} (hm : 0 < m) (hm2 : m < 9007199254740992) (he : place + (j : Int) + 1074 = (e : Int)) (hc : e = 0 ∨ 4503599627370496 ≤ m) :
    Ieee.double.nearest false (m * 2 ^ j) place = min (e * 4503599627370496 + m) 9218868437227405312 := by
  have hne : m * 2 ^ j ≠ 0 := Nat.pos_iff_ne_zero.1 (Nat.mul_pos hm (Nat.pow_pos (by omega)))
  have hl := log2_mul j hm
  have hb := log2_le52 hm hm2
  have hlast : max (place + ((m * 2 ^ j).log2 : Int) - ((52 : Nat) : Int)) (-1074) = place + (j : Int) := by
    rcases hc with h | h
    · omega
    · have := log2_52 h hm2; omega
  unfold Ieee.Format.nearest
  rw [if_neg hne]
  simp only [dbl_frac, dbl_least, dbl_binade, dbl_inf, hlast]
  rw [show (place - (place + (j : Int))).toNat = 0 by omega, show (place + (j : Int) - place).toNat = j by omega, Nat.shiftLeft_zero, cut_exact m j hm, show (place + (j : Int) - -1074).toNat = e by omega, word_pos]
/-- The bits of a natural below 2^53 as a float. -/
def fw (m : Nat) : Nat := if m = 0 then 0 else (m.log2 + 1022) * 4503599627370496 + m * 2 ^ (52 - m.log2)
theorem full_bd {m : Nat} (h : 0 < m) (h2 : m < 9007199254740992) : 4503599627370496 ≤ m * 2 ^ (52 - m.log2) ∧ m * 2 ^ (52 - m.log2) < 9007199254740992 := by
  obtain ⟨a, b⟩ := log2_bd h
  have hb := log2_le52 h h2
  have c1 : 2 ^ m.log2 * 2 ^ (52 - m.log2) ≤ m * 2 ^ (52 - m.log2) := Nat.mul_le_mul_right _ a
  have c2 : m * 2 ^ (52 - m.log2) < 2 ^ (m.log2 + 1) * 2 ^ (52 - m.log2) := Nat.mul_lt_mul_of_pos_right b (Nat.pow_pos (by omega))
  rw [← Nat.pow_add, show m.log2 + (52 - m.log2) = 52 by omega] at c1
  rw [← Nat.pow_add, show m.log2 + 1 + (52 - m.log2) = 53 by omega] at c2
  exact ⟨c1, c2⟩
theorem fw_pos {m : Nat} (h : 0 < m) : fw m = (m.log2 + 1022) * 4503599627370496 + m * 2 ^ (52 - m.log2) := if_neg (by omega)
theorem fw_bd {m : Nat} (h2 : m < 9007199254740992) : fw m < 4845873199050653696 := by
  rcases Nat.eq_zero_or_pos m with rfl | h
  · decide
  · have := full_bd h h2
    have := log2_le52 h h2
    rw [fw_pos h]
    omega
theorem fw_mag {m : Nat} (h2 : m < 9007199254740992) : mag (fw m) = fw m := Nat.mod_eq_of_lt (by have := fw_bd h2; omega)
theorem fw_V {m : Nat} (h2 : m < 9007199254740992) : V (fw m) = m * S1074 := by
  rcases Nat.eq_zero_or_pos m with rfl | h
  · show V 0 = _
    rw [Nat.zero_mul]; decide
  · obtain ⟨c, hc⟩ : ∃ c : Nat, c = 1074 := ⟨_, rfl⟩
    have hb := log2_le52 h h2
    obtain ⟨f1, f2⟩ := full_bd h h2
    rw [fw_pos h, V_at _ _ (Nat.le_of_lt f2) (Or.inr f1), S_eq c hc, Nat.mul_assoc, ← Nat.pow_add]
    congr 2
    omega
theorem nearest_up {m : Nat} (hm : 0 < m) (hm2 : m < 9007199254740992) : Ieee.double.nearest false m 0 = fw m := by
  have hb := log2_le52 hm hm2
  obtain ⟨f1, f2⟩ := full_bd hm hm2
  have hlast : max ((0 : Int) + (m.log2 : Int) - ((52 : Nat) : Int)) (-1074) = (m.log2 : Int) - 52 := by omega
  rw [fw_pos hm]
  unfold Ieee.Format.nearest
  rw [if_neg (by omega)]
  simp only [dbl_frac, dbl_least, dbl_binade, dbl_inf, hlast]
  have hcut := cut_exact (m * 2 ^ (52 - m.log2)) 0 (by omega)
  rw [Nat.pow_zero, Nat.mul_one] at hcut
  rw [show ((0 : Int) - ((m.log2 : Int) - 52)).toNat = 52 - m.log2 by omega, show ((m.log2 : Int) - 52 - 0).toNat = 0 by omega, Nat.shiftLeft_eq, hcut, show ((m.log2 : Int) - 52 - -1074).toNat = m.log2 + 1022 by omega, Nat.min_eq_left (by omega), word_pos]
/-- float64(m) of a natural below 2^53. -/
theorem float_nat {m : Nat} (hm2 : m < 9007199254740992) : floatOfInt .f64 (m : Int) = fw m := by
  rcases Nat.eq_zero_or_pos m with rfl | h
  · decide
  · show Ieee.double.write (.number (decide ((m : Int) < 0)) ((m : Int)).natAbs 0) = _
    rw [show decide ((m : Int) < 0) = false from decide_eq_false (by omega), Int.natAbs_natCast]
    exact nearest_up h hm2
theorem expF_lo (r : Nat) : -1074 ≤ expF r := by unfold expF; split <;> omega
theorem val_V {r : Nat} : manF r <<< (expF r - -1074).toNat = V r := by
  rw [Nat.shiftLeft_eq]
  unfold manF expF V
  split
  · rw [show ((-1074 : Int) - -1074).toNat = 0 by omega]; simp
  · congr 2
    omega
/-- Which of two floats that are finite and not below nought is the greater one. -/
theorem order_V {r s : Nat} (hr : r < 9218868437227405312) (hs : s < 9218868437227405312) : Ieee.double.order r s = some (compare (r : Int) (s : Int)) := by
  have hm : ∀ x, x < 9218868437227405312 → mag x = x := fun x h => Nat.mod_eq_of_lt (by omega)
  have hg : ∀ x, x < 9218868437227405312 → (x / 9223372036854775808 % 2 == 1) = false := fun x h => by rw [beq_eq_false_iff_ne]; omega
  unfold Ieee.Format.order
  rw [read_fin (by rw [hm r hr]; exact hr), hm r hr, read_fin (by rw [hm s hs]; exact hs), hm s hs, hg r hr, hg s hs]
  show some (compare (Ieee.signed false (manF r) (expF r - min (expF r) (expF s)).toNat) (Ieee.signed false (manF s) (expF s - min (expF r) (expF s)).toNat)) = _
  have h1 := expF_lo r
  have h2 := expF_lo s
  obtain ⟨c, hc⟩ : ∃ c : Nat, min (expF r) (expF s) + 1074 = (c : Int) := ⟨(min (expF r) (expF s) + 1074).toNat, by omega⟩
  have key : ∀ x : Nat, (expF x - -1074).toNat = (expF x - min (expF r) (expF s)).toNat + c → manF x * 2 ^ (expF x - min (expF r) (expF s)).toNat * 2 ^ c = V x := fun x hx => by
    rw [← val_V, Nat.shiftLeft_eq, hx, Nat.pow_add, Nat.mul_assoc]
  have kr := key r (by omega)
  have ks := key s (by omega)
  show some (compare ((manF r <<< _ : Nat) : Int) ((manF s <<< _ : Nat) : Int)) = _
  rw [Nat.shiftLeft_eq, Nat.shiftLeft_eq]
  generalize manF r * 2 ^ (expF r - min (expF r) (expF s)).toNat = x at *
  generalize manF s * 2 ^ (expF s - min (expF r) (expF s)).toNat = y at *
  have hp : 0 < 2 ^ c := Nat.pow_pos (by omega)
  congr 1
  rcases Nat.lt_trichotomy r s with h | h | h
  · rw [Int.compare_eq_lt.2 (show (r : Int) < (s : Int) by omega), Int.compare_eq_lt]
    have hv := V_lt h
    rw [← kr, ← ks] at hv
    have := Nat.lt_of_mul_lt_mul_right hv
    omega
  · subst h
    have : x = y := Nat.eq_of_mul_eq_mul_right hp (by rw [kr, ks])
    rw [this, Int.compare_eq_eq.2 rfl, Int.compare_eq_eq.2 rfl]
  · rw [Int.compare_eq_gt.2 (show (s : Int) < (r : Int) by omega), Int.compare_eq_gt]
    have hv := V_lt h
    rw [← kr, ← ks] at hv
    have := Nat.lt_of_mul_lt_mul_right hv
    omega
end Go.Proofs.Ytelhbkfhalpniaa

namespace Go.Proofs.Ytelhbkfhalpniaa
open Go.RowKit Go.Lib

theorem mul_one {m k : Nat} (h1 : 4503599627370496 ≤ m) (h2 : m < 9007199254740992) (hk0 : 1 ≤ k) (hk : k ≤ 2046) : floatBits .mul .f64 4607182418800017408 (k * 4503599627370496 + (m - 4503599627370496)) = some (k * 4503599627370496 + (m - 4503599627370496)) := by
  obtain ⟨y, hy⟩ : ∃ y, k * 4503599627370496 + (m - 4503599627370496) = y := ⟨_, rfl⟩
  rw [hy]
  have hmy : mag y = y := Nat.mod_eq_of_lt (by omega)
  have hman : manF y = m := by rw [manF, if_neg (by omega)]; omega
  have hexp : expF y = (k : Int) - 1075 := by rw [expF, if_neg (by omega)]; omega
  show (((Ieee.double.read 4607182418800017408).product (Ieee.double.read y)).map Ieee.double.write) = _
  rw [show Ieee.double.read 4607182418800017408 = .number false 4503599627370496 (-52) by decide, read_fin (by rw [hmy]; omega), hmy, hman, hexp, show (y / 9223372036854775808 % 2 == 1) = false by rw [beq_eq_false_iff_ne]; omega]
  show some (Ieee.double.nearest false (4503599627370496 * m) (-52 + ((k : Int) - 1075))) = _
  have hx := nearest_exact (m := m) (j := 52) (e := k - 1) (place := -52 + ((k : Int) - 1075)) (by omega) h2 (by omega) (Or.inr h1)
  rw [Nat.mul_comm 4503599627370496 m, show m * 4503599627370496 = m * 2 ^ 52 from rfl, hx]
  exact congrArg some (by omega)

end Go.Proofs.Ytelhbkfhalpniaa

namespace Go.Proofs.Ytelhbkfhalpniaa
open Go.RowKit Go.Lib

/-- What stands ahead of the digits that are written already. -/
def ahead (m : Nat) : List UInt8 := if m < 10 then [] else decs (m / 10)
end Go.Proofs.Ytelhbkfhalpniaa

namespace Go.Proofs.Ytelhbkfhalpniaa
open Go.RowKit Go.Lib

theorem V_am {r : Nat} : V r * amD r = amN r * S1074 := by
  obtain ⟨c, hc⟩ : ∃ c : Nat, c = 1074 := ⟨_, rfl⟩
  rw [← val_V, Nat.shiftLeft_eq, amN, amD, S_eq c hc, Nat.mul_assoc, Nat.mul_assoc, ← Nat.pow_add, ← Nat.pow_add]
  have := expF_lo r
  rw [show (expF r - -1074).toNat + (-expF r).toNat = (expF r).toNat + c by omega]
theorem S_pos : 0 < S1074 := by
  obtain ⟨c, hc⟩ : ∃ c : Nat, c = 1074 := ⟨_, rfl⟩
  rw [S_eq c hc]
  exact Nat.pow_pos (by omega)
end Go.Proofs.Ytelhbkfhalpniaa

namespace Go.Proofs.Ytelhbkfhalpniaa
open Go.RowKit Go.Lib

/-- The sign's bit. -/
def sgn (b : Nat) : Nat := b / 9223372036854775808 % 2 * 9223372036854775808
theorem word_sign (s : Bool) (r : Nat) : Ieee.double.word s r = (if s = true then 9223372036854775808 else 0) + r := by
  cases s
  · exact (word_pos r).trans (by simp)
  · show Ieee.double.signWeight + r = _
    rw [dbl_sign]
    rfl
theorem nearest_sign (s : Bool) (m : Nat) (p : Int) : Ieee.double.nearest s m p = (if s = true then 9223372036854775808 else 0) + Ieee.double.nearest false m p := by
  unfold Ieee.Format.nearest
  split
  · rw [word_sign, word_sign]; simp
  · simp only [word_sign]
    cases s
    · simp only [Bool.false_eq_true, if_false, Nat.zero_add]
    · simp only [Bool.false_eq_true, if_false, if_true, Nat.zero_add]
      rfl
/-- Without what stands behind the point. -/
def truncR (r : Nat) : Nat := if 0 ≤ expF r then r else fw (manF r / 2 ^ (-expF r).toNat)
theorem cut_zero (s : Bool) (n j : Nat) : Ieee.Toward.zero.cut s n j = n / 2 ^ j := by
  unfold Ieee.Toward.cut
  simp only [Nat.one_shiftLeft, Bool.toNat_false, Nat.add_zero]
  rcases Nat.le_total j (n.log2 + 2) with h | h
  · rw [Nat.min_eq_left h]
  · rw [Nat.min_eq_right h]
    have h1 : n < 2 ^ (n.log2 + 2) := by
      rcases Nat.eq_zero_or_pos n with h0 | h0
      · subst h0; exact Nat.pow_pos (by omega)
      · have := (log2_bd h0).2
        have h2 : 2 ^ (n.log2 + 1) ≤ 2 ^ (n.log2 + 2) := Nat.pow_le_pow_right (by omega) (by omega)
        omega
    have h2 : 2 ^ (n.log2 + 2) ≤ 2 ^ j := Nat.pow_le_pow_right (by omega) h
    rw [Nat.div_eq_of_lt h1, Nat.div_eq_of_lt (by omega)]
theorem trunc_val {b : Nat} (_hb : b < 18446744073709551616) (h : mag b < 9218868437227405312) : FloatKind.f64.encode ((FloatKind.f64.decode b).integral .zero) = sgn b + truncR (mag b) := by
  have hs : (if (b / 9223372036854775808 % 2 == 1) = true then 9223372036854775808 else 0) = sgn b := by
    unfold sgn
    rcases (by omega : b / 9223372036854775808 % 2 = 0 ∨ b / 9223372036854775808 % 2 = 1) with e | e
    · rw [e]; decide
    · rw [e]; decide
  show Ieee.double.write ((Ieee.double.read b).integral .zero) = _
  rw [read_fin h]
  show Ieee.double.nearest (b / 9223372036854775808 % 2 == 1) (Ieee.Toward.zero.cut (b / 9223372036854775808 % 2 == 1) (manF (mag b) <<< (expF (mag b)).toNat) (-expF (mag b)).toNat) 0 = _
  rw [nearest_sign, hs, cut_zero, Nat.shiftLeft_eq]
  have hml := manF_lt (r := mag b)
  unfold truncR
  by_cases he : 0 ≤ expF (mag b)
  · rw [if_pos he, show (-expF (mag b)).toNat = 0 by omega, Nat.pow_zero, Nat.div_one]
    obtain ⟨e, hee⟩ : ∃ e : Nat, expF (mag b) = (e : Int) := ⟨(expF (mag b)).toNat, by omega⟩
    have hr : 4503599627370496 ≤ mag b := by
      rcases Nat.lt_or_ge (mag b) 4503599627370496 with h1 | h1
      · rw [expF, if_pos h1] at he; omega
      · exact h1
    have hm : manF (mag b) = 4503599627370496 + mag b % 4503599627370496 := by rw [manF, if_neg (by omega)]
    have hx : expF (mag b) = -1074 + ((mag b / 4503599627370496 - 1 : Nat) : Int) := by rw [expF, if_neg (by omega)]
    have hn := nearest_exact (m := manF (mag b)) (j := e) (e := e + 1074) (place := 0) (by omega) hml (by omega) (Or.inr (by omega))
    rw [hee, Int.toNat_natCast, hn]
    congr 1
    rw [Nat.min_eq_left (by omega)]
    omega
  · rw [if_neg he, show (expF (mag b)).toNat = 0 by omega, Nat.pow_zero, Nat.mul_one]
    have hq : manF (mag b) / 2 ^ (-expF (mag b)).toNat < 9007199254740992 := Nat.lt_of_le_of_lt (Nat.div_le_self _ _) hml
    congr 1
    rcases Nat.eq_zero_or_pos (manF (mag b) / 2 ^ (-expF (mag b)).toNat) with h0 | h0
    · rw [h0]; decide
    · exact nearest_up h0 hq
end Go.Proofs.Ytelhbkfhalpniaa

namespace Go.Proofs.Ytelhbkfhalpniaa

/-- The place of the first digit of a float, counted in the least one. -/
def Lg (r : Nat) : Nat := if r < 4503599627370496 then r.log2 else r / 4503599627370496 + 51
/-- Its 53 digits. -/
def Mt (r : Nat) : Nat := if r < 4503599627370496 then r * 2 ^ (52 - r.log2) else 4503599627370496 + r % 4503599627370496
theorem Mt_bd {r : Nat} (h : 0 < r) : 4503599627370496 ≤ Mt r ∧ Mt r < 9007199254740992 := by
  unfold Mt
  split
  · exact full_bd h (by omega)
  · omega
theorem two52 : (4503599627370496 : Nat) = 2 ^ 52 := by decide
theorem V_Mt {r : Nat} (h : 0 < r) : V r * 4503599627370496 = Mt r * 2 ^ Lg r := by
  unfold V Mt Lg
  by_cases h1 : r < 4503599627370496
  · have hb := log2_le52 h (by omega)
    rw [if_pos h1, if_pos h1, if_pos h1, Nat.mul_assoc, ← Nat.pow_add, show 52 - r.log2 + r.log2 = 52 by omega]
  · rw [if_neg h1, if_neg h1, if_neg h1, show r / 4503599627370496 + 51 = r / 4503599627370496 - 1 + 52 by omega, Nat.pow_add, Nat.mul_assoc]
theorem nearest_fit {D : Nat} {p : Int} (hD : 0 < D) (hD2 : D < 9007199254740992) (hp : -1074 ≤ p) (hp2 : p ≤ 971) :
    ∃ t, Ieee.double.nearest false D p = t ∧ t < 9218868437227405312 ∧ V t = D * 2 ^ (p + 1074).toNat := by
  have hb := log2_le52 hD hD2
  obtain ⟨f1, f2⟩ := full_bd hD hD2
  obtain ⟨s, hs1, hs2, hs3⟩ : ∃ s : Nat, max (p + (D.log2 : Int) - ((52 : Nat) : Int)) (-1074) = p - (s : Int) ∧ s ≤ 52 - D.log2 ∧ (p - (s : Int) = -1074 ∨ s = 52 - D.log2) :=
    ⟨(p - max (p + (D.log2 : Int) - 52) (-1074)).toNat, by omega, by omega, by omega⟩
  obtain ⟨e, he⟩ : ∃ e : Nat, p - (s : Int) + 1074 = (e : Int) := ⟨(p - (s : Int) + 1074).toNat, by omega⟩
  have hm1 : 0 < D * 2 ^ s := Nat.mul_pos hD (Nat.pow_pos (by omega))
  have hm2 : D * 2 ^ s < 9007199254740992 := Nat.lt_of_le_of_lt (Nat.mul_le_mul_left _ (Nat.pow_le_pow_right (by omega) hs2)) f2
  have hm3 : e = 0 ∨ 4503599627370496 ≤ D * 2 ^ s := by
    rcases hs3 with h | h
    · left; omega
    · right; rw [h]; exact f1
  have hcut := cut_exact (D * 2 ^ s) 0 hm1
  rw [Nat.pow_zero, Nat.mul_one] at hcut
  refine ⟨e * 4503599627370496 + D * 2 ^ s, ?_, by omega, ?_⟩
  · unfold Ieee.Format.nearest
    rw [if_neg (by omega)]
    simp only [dbl_frac, dbl_least, dbl_binade, dbl_inf, hs1]
    rw [show (p - (p - (s : Int))).toNat = s by omega, show (p - (s : Int) - p).toNat = 0 by omega, Nat.shiftLeft_eq, hcut, show (p - (s : Int) - -1074).toNat = e by omega, word_pos, Nat.min_eq_left (by omega)]
  · rw [V_at _ _ (Nat.le_of_lt hm2) hm3, Nat.mul_assoc, ← Nat.pow_add]
    congr 2
    omega
theorem expF_mono {z r : Nat} (h : z ≤ r) : expF z ≤ expF r := by unfold expF; split <;> split <;> omega
theorem V_man {r : Nat} : V r = manF r * 2 ^ (expF r + 1074).toNat := by
  rw [← val_V, Nat.shiftLeft_eq]
  rfl
theorem sign_no {r : Nat} (h : r < 9218868437227405312) : (r / 9223372036854775808 % 2 == 1) = false := by rw [beq_eq_false_iff_ne]; omega
theorem mag_no {r : Nat} (h : r < 9218868437227405312) : mag r = r := Nat.mod_eq_of_lt (by omega)
/-- The difference of two floats of which the greater is at most twice the other one is exact. -/
theorem sub_exact {r z : Nat} (hr : r < 9218868437227405312) (_hz : 0 < z) (h1 : z ≤ r) (h2 : V r ≤ 2 * V z) :
    ∃ t, floatBits .sub .f64 r z = some t ∧ t < 9218868437227405312 ∧ V t = V r - V z := by
  have hz2 : z < 9218868437227405312 := by omega
  have hE := expF_mono h1
  have hEz := expF_bd hz2
  obtain ⟨k, hk⟩ : ∃ k : Nat, expF r - expF z = (k : Int) := ⟨(expF r - expF z).toNat, by omega⟩
  have hVz := V_man (r := z)
  have hVr := V_man (r := r)
  rw [show (expF r + 1074).toNat = k + (expF z + 1074).toNat by omega, Nat.pow_add, ← Nat.mul_assoc] at hVr
  have hc : 0 < 2 ^ (expF z + 1074).toNat := Nat.pow_pos (by omega)
  have hle := V_le h1
  rw [hVz, hVr] at hle h2
  rw [← Nat.mul_assoc] at h2
  have g1 := Nat.le_of_mul_le_mul_right hle hc
  have g2 := Nat.le_of_mul_le_mul_right h2 hc
  obtain ⟨D, hD⟩ : ∃ D, manF r * 2 ^ k - manF z = D := ⟨_, rfl⟩
  have hn := manF_lt (r := z)
  have hVD : V r - V z = D * 2 ^ (expF z + 1074).toNat := by rw [hVr, hVz, ← Nat.sub_mul, hD]
  rw [hVD]
  show ∃ t, (((Ieee.double.read r).sum (Ieee.double.read z).opposite).map Ieee.double.write) = some t ∧ _
  rw [read_fin (by rw [mag_no hr]; exact hr), read_fin (by rw [mag_no hz2]; exact hz2), mag_no hr, mag_no hz2, sign_no hr, sign_no hz2]
  have htot : Ieee.signed false (manF r) (expF r - min (expF r) (expF z)).toNat + Ieee.signed true (manF z) (expF z - min (expF r) (expF z)).toNat = (D : Int) := by
    rw [show min (expF r) (expF z) = expF z by omega, show (expF z - expF z).toNat = 0 by omega, show (expF r - expF z).toNat = k by omega]
    show ((manF r <<< k : Nat) : Int) + -((manF z <<< 0 : Nat) : Int) = _
    rw [Nat.shiftLeft_eq, Nat.shiftLeft_zero]
    omega
  show ∃ t, some (Ieee.double.write (.number (if Ieee.signed false (manF r) (expF r - min (expF r) (expF z)).toNat + Ieee.signed true (manF z) (expF z - min (expF r) (expF z)).toNat = 0 then false && true else decide (Ieee.signed false (manF r) (expF r - min (expF r) (expF z)).toNat + Ieee.signed true (manF z) (expF z - min (expF r) (expF z)).toNat < 0)) (Ieee.signed false (manF r) (expF r - min (expF r) (expF z)).toNat + Ieee.signed true (manF z) (expF z - min (expF r) (expF z)).toNat).natAbs (min (expF r) (expF z)))) = some t ∧ _
  rw [htot, Int.natAbs_natCast, show min (expF r) (expF z) = expF z by omega]
  rcases Nat.eq_zero_or_pos D with h0 | h0
  · refine ⟨0, ?_, by omega, ?_⟩
    · rw [h0]
      rfl
    · rw [h0, Nat.zero_mul]
      decide
  · rw [if_neg (by omega), decide_eq_false (by omega)]
    obtain ⟨t, h3, h4, h5⟩ := nearest_fit (D := D) (p := expF z) h0 (by omega) hEz.1 hEz.2
    exact ⟨t, congrArg some h3, h4, h5⟩
/-- A float times a power of two. -/
def ldR (y k : Nat) : Nat := if 52 ≤ Lg y + k then (Lg y + k - 51) * 4503599627370496 + (Mt y - 4503599627370496) else y * 2 ^ k
theorem low_fit {y k : Nat} (h : 0 < y) (h2 : Lg y + k < 52) : y < 4503599627370496 ∧ y * 2 ^ k < 4503599627370496 ∧ Lg y = y.log2 := by
  have hy : y < 4503599627370496 := by
    rcases Nat.lt_or_ge y 4503599627370496 with h1 | h1
    · exact h1
    · rw [Lg, if_neg (by omega)] at h2; omega
  have hl : Lg y = y.log2 := by rw [Lg, if_pos hy]
  refine ⟨hy, ?_, hl⟩
  have hb := (log2_bd h).2
  rw [hl] at h2
  have h3 : y * 2 ^ k < 2 ^ (y.log2 + 1) * 2 ^ k := Nat.mul_lt_mul_of_pos_right hb (Nat.pow_pos (by omega))
  rw [← Nat.pow_add] at h3
  refine Nat.lt_of_lt_of_le h3 ?_
  rw [two52]
  exact Nat.pow_le_pow_right (by omega) (by omega)
theorem shift_one {j m : Nat} (h : 4503599627370496 ≤ m) : (j + 1) * 4503599627370496 + (m - 4503599627370496) = j * 4503599627370496 + m := by omega
theorem pow_52 {n : Nat} (h : 52 ≤ n) : 2 ^ (n - 52) * 4503599627370496 = 2 ^ n := by
  have e : 2 ^ n = 2 ^ (n - 52) * 2 ^ 52 := by rw [← Nat.pow_add]; congr 1; omega
  rw [e, ← two52]
theorem V_ldR {y k : Nat} (h : 0 < y) : V (ldR y k) = V y * 2 ^ k := by
  unfold ldR
  by_cases hk : 52 ≤ Lg y + k
  · rw [if_pos hk]
    obtain ⟨b1, b2⟩ := Mt_bd h
    have e : (Lg y + k - 51) * 4503599627370496 + (Mt y - 4503599627370496) = (Lg y + k - 52) * 4503599627370496 + Mt y := by
      clear h
      obtain ⟨j, hj⟩ : ∃ j, Lg y + k - 52 = j := ⟨_, rfl⟩
      rw [hj, show Lg y + k - 51 = j + 1 by omega]
      exact shift_one b1
    rw [e, V_at _ _ (Nat.le_of_lt b2) (Or.inr b1)]
    have hm := V_Mt h
    refine Nat.eq_of_mul_eq_mul_right (show 0 < 4503599627370496 by omega) ?_
    rw [Nat.mul_right_comm (V y), hm, Nat.mul_assoc (Mt y) _ (2 ^ k), ← Nat.pow_add, Nat.mul_assoc]
    exact congrArg (Mt y * ·) (pow_52 hk)
  · rw [if_neg hk]
    obtain ⟨h1, h2, -⟩ := low_fit (k := k) h (by omega)
    rw [V, if_pos h2, V, if_pos h1]
/-- How often a float is doubled till it is next below another one. -/
def modK (r y : Nat) : Nat := Lg r - (Lg y + if Mt r < Mt y then 1 else 0)
theorem mod_step {r y : Nat} (hy : 0 < y) (h : y ≤ r) : Lg y + (if Mt r < Mt y then 1 else 0) ≤ Lg r ∧ 0 < ldR y (modK r y) ∧ ldR y (modK r y) ≤ r ∧ V r ≤ 2 * V (ldR y (modK r y)) := by
  have hr : 0 < r := by omega
  obtain ⟨a1, a2⟩ := Mt_bd hy
  obtain ⟨b1, b2⟩ := Mt_bd hr
  have e1 := V_Mt hy
  have e2 := V_Mt hr
  have hV := V_le h
  have hle : Lg y + (if Mt r < Mt y then 1 else 0) ≤ Lg r := by
    rcases Nat.lt_or_ge (Lg r) (Lg y + (if Mt r < Mt y then 1 else 0)) with hc | hc
    · exfalso
      have h3 : Mt r * 2 ^ Lg r < Mt y * 2 ^ Lg y := by
        split at hc
        · refine Nat.lt_of_lt_of_le (Nat.mul_lt_mul_of_pos_right ‹_› (Nat.pow_pos (by omega))) ?_
          exact Nat.mul_le_mul_left _ (Nat.pow_le_pow_right (by omega) (by omega))
        · have h4 : 2 ^ (Lg r + 1) ≤ 2 ^ Lg y := Nat.pow_le_pow_right (by omega) (by omega)
          rw [Nat.pow_succ] at h4
          have h5 : Mt y * (2 ^ Lg r * 2) ≤ Mt y * 2 ^ Lg y := Nat.mul_le_mul_left _ h4
          have h6 : Mt r * 2 ^ Lg r < Mt y * 2 * 2 ^ Lg r := Nat.mul_lt_mul_of_pos_right (by omega) (Nat.pow_pos (by omega))
          rw [Nat.mul_assoc, Nat.mul_comm 2] at h6
          exact Nat.lt_of_lt_of_le h6 h5
      rw [← e1, ← e2] at h3
      have := Nat.lt_of_mul_lt_mul_right h3
      omega
    · exact hc
  have hVk := V_ldR (y := y) (k := modK r y) hy
  have hsum : Mt y * 2 ^ Lg y * 2 ^ modK r y = Mt y * 2 ^ (Lg r - (if Mt r < Mt y then 1 else 0)) := by
    rw [Nat.mul_assoc, ← Nat.pow_add]
    congr 2
    unfold modK
    omega
  have hV2 : V (ldR y (modK r y)) * 4503599627370496 = Mt y * 2 ^ (Lg r - (if Mt r < Mt y then 1 else 0)) := by
    rw [hVk, Nat.mul_right_comm, e1, hsum]
  have hboth : V (ldR y (modK r y)) ≤ V r ∧ V r ≤ 2 * V (ldR y (modK r y)) := by
    constructor
    · refine Nat.le_of_mul_le_mul_right (c := 4503599627370496) ?_ (by omega)
      rw [hV2, e2]
      split
      · rename_i hlt
        rw [if_pos hlt] at hle
        have e3 : 2 ^ Lg r = 2 ^ (Lg r - 1) * 2 := by rw [← Nat.pow_succ]; congr 1; omega
        rw [e3, Nat.mul_comm (2 ^ (Lg r - 1)), ← Nat.mul_assoc]
        exact Nat.mul_le_mul_right _ (by omega)
      · exact Nat.mul_le_mul_right _ (by omega)
    · refine Nat.le_of_mul_le_mul_right (c := 4503599627370496) ?_ (by omega)
      rw [Nat.mul_assoc, hV2, e2]
      split
      · rename_i hlt
        rw [if_pos hlt] at hle
        have e3 : 2 ^ Lg r = 2 ^ (Lg r - 1) * 2 := by rw [← Nat.pow_succ]; congr 1; omega
        have g : Mt r * 2 ^ (Lg r - 1) ≤ Mt y * 2 ^ (Lg r - 1) := Nat.mul_le_mul_right _ (by omega)
        rw [e3, ← Nat.mul_assoc, Nat.mul_comm 2]
        exact Nat.mul_le_mul_right _ g
      · rw [Nat.sub_zero, ← Nat.mul_assoc]
        exact Nat.mul_le_mul_right _ (by omega)
  refine ⟨hle, ?_, ?_, hboth.2⟩
  · rcases Nat.eq_zero_or_pos (ldR y (modK r y)) with h0 | h0
    · exfalso
      have h1 := hboth.2
      rw [h0] at h1
      have h2 : V 0 = 0 := by decide
      have h3 := V_lt hr
      omega
    · exact h0
  · rcases Nat.lt_or_ge r (ldR y (modK r y)) with h1 | h1
    · have := V_lt h1; omega
    · exact h1
/-- One step takes the float times a power of two away: what is left of the division stays. -/
theorem mod_keep {r y t : Nat} (hy : 0 < y) (h : y ≤ r) (ht : V t = V r - V (ldR y (modK r y))) : t < r ∧ V t % V y = V r % V y := by
  obtain ⟨h1, h2, h3, h4⟩ := mod_step hy h
  have hV := V_le h3
  have hk := V_ldR (y := y) (k := modK r y) hy
  have h0 := V_lt h2
  constructor
  · rcases Nat.lt_or_ge t r with h5 | h5
    · exact h5
    · have := V_le h5
      omega
  · have e : V r = V t + V y * 2 ^ modK r y := by omega
    rw [e, Nat.add_mul_mod_self_left]
end Go.Proofs.Ytelhbkfhalpniaa

namespace Go.Proofs.Ytelhbkfhalpniaa
open Go.RowKit Go.Lib

/-- A float with its sign turned, if so told. -/
def turned (b : Bool) (r : Nat) : Nat := if b then Op.negFloat .f64 r else r
end Go.Proofs.Ytelhbkfhalpniaa

namespace Go.Proofs.Ytelhbkfhalpniaa
open Go.RowKit Go.Lib

theorem ord0_neg {r : Nat} (h0 : 0 < r) (h : r < 9218868437227405312) : FloatKind.f64.format.order (9223372036854775808 + r) 0 = some .lt := by
  have hm : mag (9223372036854775808 + r) = r := by unfold mag; omega
  show Ieee.double.order (9223372036854775808 + r) 0 = some .lt
  unfold Ieee.Format.order
  rw [read_fin (by rw [hm]; exact h), hm, show Ieee.double.read 0 = .number false 0 (-1074) by decide, show ((9223372036854775808 + r) / 9223372036854775808 % 2 == 1) = true by rw [beq_iff_eq]; omega]
  have he : -1074 ≤ expF r := (expF_lo r)
  have hp : 0 < manF r := by unfold manF; split <;> omega
  show some (compare _ _) = _
  rw [show min (expF r) (-1074) = -1074 by omega]
  have h1 : Ieee.signed false 0 ((-1074 : Int) - -1074).toNat = 0 := by decide
  have h2 : Ieee.signed true (manF r) (expF r - -1074).toNat < 0 := by
    show -((manF r <<< _ : Nat) : Int) < 0
    rw [Nat.shiftLeft_eq]
    have := Nat.mul_pos hp (Nat.pow_pos (n := (expF r - -1074).toNat) (show 0 < 2 by omega))
    omega
  rw [h1]
  exact congrArg some (Int.compare_eq_lt.2 h2)
theorem Lg_le {r : Nat} (h : r < 9218868437227405312) : Lg r ≤ 2097 := by
  unfold Lg
  split
  · rcases Nat.eq_zero_or_pos r with h0 | h0
    · subst h0; decide
    · have := log2_le52 h0 (by omega); omega
  · omega
/-- One round of the division's loop. -/
structure ModStep (r y K Z t : Nat) : Prop where
  kk : Lg y + K + (if Mt r < Mt y then 1 else 0) = Lg r
  top : Lg y + K ≤ 2097
  z : ldR y K = Z
  sub : floatBits .sub .f64 r Z = some t
  t1 : t < 9218868437227405312
  lt : t < r
  keep : V t % V y = V r % V y
theorem mod_one {r y : Nat} (hy : 0 < y) (h : y ≤ r) (hr : r < 9218868437227405312) : ∃ K Z t, ModStep r y K Z t := by
  obtain ⟨h1, h2, h3, h4⟩ := mod_step hy h
  obtain ⟨t, g1, g2, g3⟩ := sub_exact hr h2 h3 h4
  obtain ⟨g4, g5⟩ := mod_keep hy h g3
  have hl := Lg_le hr
  refine ⟨modK r y, ldR y (modK r y), t, ⟨?_, ?_, rfl, g1, g2, g4, g5⟩⟩
  · unfold modK; omega
  · unfold modK; omega
theorem ord0_mz : FloatKind.f64.format.order 9223372036854775808 0 = some .eq := by decide
theorem ordmz_pos {y : Nat} (h0 : 0 < y) (h : y ≤ 9218868437227405312) : FloatKind.f64.format.order 9223372036854775808 y = some .lt := by
  show Ieee.double.order 9223372036854775808 y = some .lt
  unfold Ieee.Format.order
  rw [show Ieee.double.read 9223372036854775808 = .number true 0 (-1074) by decide]
  rcases (by omega : y < 9218868437227405312 ∨ y = 9218868437227405312) with h1 | h1
  · rw [read_fin (by rw [mag_no h1]; exact h1), mag_no h1, sign_no h1]
    show some (compare _ _) = _
    have he : -1074 ≤ expF y := (expF_lo y)
    have hp : 0 < manF y := by unfold manF; split <;> omega
    rw [show min (-1074) (expF y) = -1074 by omega]
    have h1 : Ieee.signed true 0 ((-1074 : Int) - -1074).toNat = 0 := by decide
    have h2 : 0 < Ieee.signed false (manF y) (expF y - -1074).toNat := by
      show (0 : Int) < ((manF y <<< _ : Nat) : Int)
      rw [Nat.shiftLeft_eq]
      have := Nat.mul_pos hp (Nat.pow_pos (n := (expF y - -1074).toNat) (show 0 < 2 by omega))
      omega
    rw [h1]
    exact congrArg some (Int.compare_eq_lt.2 h2)
  · subst h1; decide
end Go.Proofs.Ytelhbkfhalpniaa

namespace Go.Proofs.Ytelhbkfhalpniaa
open Go.RowKit Go.Lib

/-- What stands ahead of a float's point. -/
def whQ (r : Nat) : Nat := amN r / amD r
def isWh (r : Nat) : Bool := decide (amN r % amD r = 0)
theorem whQ_V {r : Nat} (h : isWh r = true) : V r = whQ r * S1074 := by
  have h1 := of_decide_eq_true h
  have h2 := V_am (r := r)
  have h3 : amN r = whQ r * amD r := by
    have := Nat.div_add_mod (amN r) (amD r)
    rw [h1, Nat.add_zero, Nat.mul_comm] at this
    exact this.symm
  rw [h3, Nat.mul_right_comm] at h2
  exact Nat.eq_of_mul_eq_mul_right (amD_pos r) h2
theorem whQ_le (r : Nat) : whQ r * S1074 ≤ V r := by
  refine Nat.le_of_mul_le_mul_right (c := amD r) ?_ (amD_pos r)
  rw [V_am, Nat.mul_right_comm]
  exact Nat.mul_le_mul_right _ (Nat.div_mul_le_self _ _)
theorem trunc_wh {r : Nat} (_h : r < 9218868437227405312) : (truncR r = r) ↔ isWh r = true := by
  unfold truncR
  by_cases he : 0 ≤ expF r
  · rw [if_pos he]
    have : amD r = 1 := by unfold amD; rw [show (-expF r).toNat = 0 by omega, Nat.pow_zero]
    refine ⟨fun _ => ?_, fun _ => rfl⟩
    unfold isWh
    rw [this, Nat.mod_one]
    rfl
  · rw [if_neg he]
    have ha : amN r = manF r := by unfold amN; rw [show (expF r).toNat = 0 by omega, Nat.pow_zero, Nat.mul_one]
    have hq : manF r / 2 ^ (-expF r).toNat = whQ r := by unfold whQ; rw [ha]; rfl
    have hlt : whQ r < 9007199254740992 := by rw [← hq]; exact Nat.lt_of_le_of_lt (Nat.div_le_self _ _) manF_lt
    rw [hq]
    constructor
    · intro h1
      have h2 := fw_V hlt
      rw [h1] at h2
      have h3 := V_am (r := r)
      rw [h2, Nat.mul_right_comm] at h3
      have h4 := Nat.eq_of_mul_eq_mul_right S_pos h3
      unfold isWh
      rw [← h4, Nat.mul_mod_left]
      rfl
    · intro h1
      refine V_inj ?_
      rw [fw_V hlt, whQ_V h1]
theorem truncR_lt {r : Nat} (h : r < 9218868437227405312) : truncR r < 9218868437227405312 := by
  unfold truncR
  split
  · exact h
  · have := fw_bd (m := manF r / 2 ^ (-expF r).toNat) (Nat.lt_of_le_of_lt (Nat.div_le_self _ _) manF_lt)
    omega
/-- The whole number that a float is. -/
def whZ (b : Nat) : Int := if sgn b = 0 then (whQ (mag b) : Int) else -(whQ (mag b) : Int)
theorem toInt_wh {b : Nat} (h : mag b < 9218868437227405312) : (FloatKind.f64.decode b).toInt .zero = some (whZ b) := by
  show (Ieee.double.read b).toInt .zero = _
  rw [read_fin h]
  show some (Ieee.signed (b / 9223372036854775808 % 2 == 1) (Ieee.Toward.zero.cut (b / 9223372036854775808 % 2 == 1) (manF (mag b) <<< (expF (mag b)).toNat) (-expF (mag b)).toNat) 0) = _
  rw [cut_zero, Nat.shiftLeft_eq]
  show some (Ieee.signed _ (whQ (mag b)) 0) = _
  unfold whZ sgn Ieee.signed
  rcases (by omega : b / 9223372036854775808 % 2 = 0 ∨ b / 9223372036854775808 % 2 = 1) with e | e
  · rw [e]
    simp
  · rw [e]
    simp
theorem whZ_bd {b : Nat} (Q : Nat) (h : whQ (mag b) < Q) : -(Q : Int) < whZ b ∧ whZ b < (Q : Int) := by
  unfold whZ
  split <;> omega
theorem int_of_wh {b : Nat} (h : mag b < 9218868437227405312) (hq : whQ (mag b) < 9223372036854775807) : floatToIntVal .f64 b .i64 = some (whZ b) := by
  have := whZ_bd _ hq
  unfold floatToIntVal
  rw [toInt_wh h]
  show (if IntKind.i64.min ≤ whZ b ∧ whZ b ≤ IntKind.i64.max then some (whZ b) else none) = _
  rw [if_pos]
  show -9223372036854775808 ≤ whZ b ∧ whZ b ≤ 9223372036854775807
  omega
end Go.Proofs.Ytelhbkfhalpniaa

namespace Go.Proofs.Ytelhbkfhalpniaa
open Go.RowKit Go.Lib

theorem uint_of_wh {r : Nat} (h : r < 9218868437227405312) (hq : whQ r < 9223372036854775807) : floatToIntVal .f64 r .u64 = some (whQ r : Int) := by
  have h1 := toInt_wh (b := r) (by rw [mag_no h]; exact h)
  have hs : sgn r = 0 := by unfold sgn; omega
  rw [whZ, if_pos hs, mag_no h] at h1
  unfold floatToIntVal
  rw [h1]
  show (if 0 ≤ (whQ r : Int) ∧ (whQ r : Int) ≤ 18446744073709551615 then some (whQ r : Int) else none) = _
  rw [if_pos (by omega)]
end Go.Proofs.Ytelhbkfhalpniaa

namespace Go.Proofs.Ytelhbkfhalpniaa
open Go.RowKit Go.Lib

theorem bit_and (a b : Nat) : (a &&& b) % 2 = (a % 2) * (b % 2) := by
  have t := Nat.and_mod_two_pow (a := a) (b := b) (n := 1)
  rw [Nat.pow_one] at t
  rw [t]
  rcases Nat.mod_two_eq_zero_or_one a with x | x <;> rcases Nat.mod_two_eq_zero_or_one b with y | y <;> rw [x, y] <;> rfl
theorem bit_or (a b : Nat) : (a ||| b) % 2 = (a % 2) + (b % 2) - (a % 2) * (b % 2) := by
  have t := Nat.or_mod_two_pow (a := a) (b := b) (n := 1)
  rw [Nat.pow_one] at t
  rw [t]
  rcases Nat.mod_two_eq_zero_or_one a with x | x <;> rcases Nat.mod_two_eq_zero_or_one b with y | y <;> rw [x, y] <;> rfl
theorem bit_xor (a b : Nat) : (a ^^^ b) % 2 = (a % 2 + b % 2) % 2 := by
  have t := Nat.xor_mod_two_pow (a := a) (b := b) (n := 1)
  rw [Nat.pow_one] at t
  rw [t]
  rcases Nat.mod_two_eq_zero_or_one a with x | x <;> rcases Nat.mod_two_eq_zero_or_one b with y | y <;> rw [x, y] <;> rfl
theorem land_lor : ∀ a b : Nat, (a &&& b) + (a ||| b) = a + b := by
  intro a
  induction a using Nat.strongRecOn with
  | _ a ih =>
    intro b
    rcases Nat.eq_zero_or_pos a with h | h
    · subst h; simp
    · have h1 := ih (a / 2) (by omega) (b / 2)
      have e1 := Nat.and_div_two (a := a) (b := b)
      have e2 := Nat.or_div_two (a := a) (b := b)
      have m1 : (a &&& b) % 2 + (a ||| b) % 2 = a % 2 + b % 2 := by
        rw [bit_and, bit_or]
        rcases Nat.mod_two_eq_zero_or_one a with x | x <;> rcases Nat.mod_two_eq_zero_or_one b with y | y <;> rw [x, y]
      omega
theorem land_lxor : ∀ a b : Nat, (a &&& b) + (a ^^^ b) = a ||| b := by
  intro a
  induction a using Nat.strongRecOn with
  | _ a ih =>
    intro b
    rcases Nat.eq_zero_or_pos a with h | h
    · subst h; simp
    · have h1 := ih (a / 2) (by omega) (b / 2)
      have e1 := Nat.and_div_two (a := a) (b := b)
      have e2 := Nat.or_div_two (a := a) (b := b)
      have e3 := Nat.xor_div_two (a := a) (b := b)
      have m1 : (a &&& b) % 2 + (a ^^^ b) % 2 = (a ||| b) % 2 := by
        rw [bit_and, bit_or, bit_xor]
        rcases Nat.mod_two_eq_zero_or_one a with x | x <;> rcases Nat.mod_two_eq_zero_or_one b with y | y <;> rw [x, y]
      omega
theorem lor_lt {a b : Nat} (ha : a < 9007199254740992) (hb : b < 9007199254740992) : a ||| b < 9007199254740992 := Nat.or_lt_two_pow (n := 53) ha hb
theorem lxor_lt {a b : Nat} (ha : a < 9007199254740992) (hb : b < 9007199254740992) : a ^^^ b < 9007199254740992 := Nat.xor_lt_two_pow (n := 53) ha hb
theorem land_lt {a b : Nat} (ha : a < 9007199254740992) : a &&& b < 9007199254740992 := Nat.lt_of_le_of_lt Nat.and_le_left ha
theorem top_mod (m : Nat) (h : m < 18446744073709551616) : bits .and .u64 (m : Int) 9007199254740991 = ((m % 9007199254740992 : Nat) : Int) := by
  have h1 := u64_and_nat m 9007199254740991 h (by omega)
  rw [show (9007199254740991 : Nat) = 2 ^ 53 - 1 by decide, Nat.and_two_pow_sub_one_eq_mod] at h1
  exact h1
/-- The other digits. -/
theorem top_xor {a : Nat} (ha : a < 9007199254740992) : a ^^^ 9007199254740991 = 9007199254740991 - a := by
  have h := land_lxor a 9007199254740991
  have h2 := land_lor a 9007199254740991
  have h3 : a &&& 9007199254740991 = a := by
    rw [show (9007199254740991 : Nat) = 2 ^ 53 - 1 by decide, Nat.and_two_pow_sub_one_eq_mod]
    exact Nat.mod_eq_of_lt ha
  omega

theorem expF_fw {m : Nat} (h : m < 9007199254740992) : expF (fw m) ≤ 0 ∧ -1074 ≤ expF (fw m) := by
  have := fw_bd h
  unfold expF
  split <;> omega
theorem man_fw {m k : Nat} {z : Int} (h : m < 9007199254740992) (hz : z = -(k : Int)) (h1 : z ≤ expF (fw m)) (_h2 : k ≤ 1074) : manF (fw m) * 2 ^ (expF (fw m) - z).toNat = m * 2 ^ k := by
  have e := expF_fw h
  have hv := fw_V h
  obtain ⟨c, hc⟩ : ∃ c : Nat, c = 1074 := ⟨_, rfl⟩
  rw [V_man, S_eq c hc] at hv
  have hp : 0 < 2 ^ (c - k) := Nat.pow_pos (by omega)
  refine Nat.eq_of_mul_eq_mul_right hp ?_
  rw [Nat.mul_assoc, ← Nat.pow_add, Nat.mul_assoc, ← Nat.pow_add, show (expF (fw m) - z).toNat + (c - k) = (expF (fw m) + 1074).toNat by omega, show k + (c - k) = c by omega]
  exact hv
theorem nearest_down {m k : Nat} (h0 : 0 < m) (h : m < 9007199254740992) (hk : 52 - m.log2 ≤ k) (_h2 : k ≤ 1074) : Ieee.double.nearest false (m * 2 ^ k) (-(k : Int)) = fw m := by
  have hb := log2_le52 h0 h
  obtain ⟨f1, f2⟩ := full_bd h0 h
  have hx := nearest_exact (m := m * 2 ^ (52 - m.log2)) (j := k - (52 - m.log2)) (e := 1022 + m.log2) (place := -(k : Int)) (by omega) f2 (by omega) (Or.inr f1)
  rw [Nat.mul_assoc, ← Nat.pow_add, show 52 - m.log2 + (k - (52 - m.log2)) = k by omega] at hx
  rw [hx, fw_pos h0, Nat.min_eq_left (by omega)]
  omega
theorem fw_sign {m : Nat} (h : m < 9007199254740992) : (fw m / 9223372036854775808 % 2 == 1) = false := by
  have := fw_bd h
  exact sign_no (by omega)
theorem read_fw {m : Nat} (h : m < 9007199254740992) : Ieee.double.read (fw m) = .number false (manF (fw m)) (expF (fw m)) := by
  have := fw_bd h
  rw [read_fin (by rw [fw_mag h]; omega), fw_sign h, fw_mag h]
theorem expF_log {m : Nat} (h0 : 0 < m) (h : m < 9007199254740992) : expF (fw m) = (m.log2 : Int) - 52 := by
  obtain ⟨f1, f2⟩ := full_bd h0 h
  have hb := log2_le52 h0 h
  have e : fw m / 4503599627370496 = m.log2 + 1023 := by rw [fw_pos h0]; omega
  have e2 : ¬ fw m < 4503599627370496 := by rw [fw_pos h0]; omega
  rw [expF, if_neg e2, e]
  omega
theorem manF_log {m : Nat} (h0 : 0 < m) (h : m < 9007199254740992) : manF (fw m) = m * 2 ^ (52 - m.log2) := by
  obtain ⟨f1, f2⟩ := full_bd h0 h
  have e : fw m % 4503599627370496 = m * 2 ^ (52 - m.log2) - 4503599627370496 := by rw [fw_pos h0]; omega
  have e2 : ¬ fw m < 4503599627370496 := by rw [fw_pos h0]; omega
  rw [manF, if_neg e2, e]
  omega
theorem log2_mono {m q : Nat} (h0 : 0 < m) (h : m ≤ q) : m.log2 ≤ q.log2 := by
  have h1 := (log2_bd h0).1
  have h2 := (log2_bd (n := q) (by omega)).2
  have := (Nat.pow_lt_pow_iff_right (show 1 < 2 by omega)).1 (Nat.lt_of_le_of_lt (Nat.le_trans h1 h) h2)
  omega
theorem fw_add {p r : Nat} (h : p + r < 9007199254740992) : floatBits .add .f64 (fw p) (fw r) = some (fw (p + r)) := by
  show (((Ieee.double.read (fw p)).sum (Ieee.double.read (fw r))).map Ieee.double.write) = _
  have hp : p < 9007199254740992 := by omega
  have hr : r < 9007199254740992 := by omega
  rw [read_fw hp, read_fw hr]
  show some (Ieee.double.write (.number (if Ieee.signed false (manF (fw p)) (expF (fw p) - min (expF (fw p)) (expF (fw r))).toNat + Ieee.signed false (manF (fw r)) (expF (fw r) - min (expF (fw p)) (expF (fw r))).toNat = 0 then false && false else decide (Ieee.signed false (manF (fw p)) (expF (fw p) - min (expF (fw p)) (expF (fw r))).toNat + Ieee.signed false (manF (fw r)) (expF (fw r) - min (expF (fw p)) (expF (fw r))).toNat < 0)) (Ieee.signed false (manF (fw p)) (expF (fw p) - min (expF (fw p)) (expF (fw r))).toNat + Ieee.signed false (manF (fw r)) (expF (fw r) - min (expF (fw p)) (expF (fw r))).toNat).natAbs (min (expF (fw p)) (expF (fw r))))) = _
  have e1 := expF_fw hp
  have e2 := expF_fw hr
  obtain ⟨k, hk⟩ : ∃ k : Nat, min (expF (fw p)) (expF (fw r)) = -(k : Int) := ⟨(-min (expF (fw p)) (expF (fw r))).toNat, by omega⟩
  have hk2 : k ≤ 1074 := by omega
  have m1 := man_fw (k := k) hp rfl (by omega) hk2
  have m2 := man_fw (k := k) hr rfl (by omega) hk2
  rw [hk]
  unfold Ieee.signed
  simp only [Bool.false_eq_true, if_false, Nat.shiftLeft_eq, m1, m2, Bool.and_false]
  have ht : ((p * 2 ^ k : Nat) : Int) + ((r * 2 ^ k : Nat) : Int) = (((p + r) * 2 ^ k : Nat) : Int) := by rw [Nat.add_mul]; omega
  rw [ht, Int.natAbs_natCast, decide_eq_false (by omega)]
  simp only [ite_self]
  show some (Ieee.double.nearest false ((p + r) * 2 ^ k) (-(k : Int))) = _
  congr 1
  rcases Nat.eq_zero_or_pos (p + r) with h0 | h0
  · rw [h0, Nat.zero_mul]
    show Ieee.double.nearest false 0 _ = 0
    unfold Ieee.Format.nearest
    rw [if_pos rfl]; rfl
  · refine nearest_down h0 h ?_ hk2
    rcases Nat.eq_zero_or_pos p with hp0 | hp0
    · subst hp0
      have hr0 : 0 < r := by omega
      have := expF_log hr0 hr
      rw [Nat.zero_add]
      omega
    · have := expF_log hp0 hp
      have := log2_mono (q := p + r) hp0 (by omega)
      omega
/-- A state divided by 2^48. -/
def fd (s : Nat) : Nat := if s = 0 then 0 else fw s - 216172782113783808
theorem fd_pos {s : Nat} (h0 : 0 < s) (h : s < 281474976710656) : fd s = (s.log2 + 974) * 4503599627370496 + s * 2 ^ (52 - s.log2) ∧ s.log2 ≤ 47 := by
  have hl : s.log2 ≤ 47 := by
    have := (log2_bd h0).1
    have h3 : 2 ^ s.log2 < 2 ^ 48 := Nat.lt_of_le_of_lt this h
    have := (Nat.pow_lt_pow_iff_right (show 1 < 2 by omega)).1 h3
    omega
  refine ⟨?_, hl⟩
  rw [fd, if_neg (by omega), fw_pos h0]
  omega
theorem fd_bd {s : Nat} (h : s < 281474976710656) : fd s < 4607182418800017408 := by
  rcases Nat.eq_zero_or_pos s with h0 | h0
  · subst h0; decide
  · obtain ⟨e, hl⟩ := fd_pos h0 h
    obtain ⟨f1, f2⟩ := full_bd h0 (by omega)
    rw [e]
    omega
theorem quo_fd {s : Nat} (h : s < 281474976710656) : floatBits .quo .f64 (fw s) 4823355200913801216 = some (fd s) := by
  rcases Nat.eq_zero_or_pos s with h0 | h0
  · subst h0; decide
  · obtain ⟨e, hl⟩ := fd_pos h0 h
    obtain ⟨f1, f2⟩ := full_bd h0 (by omega)
    show (((Ieee.double.read (fw s)).quotient 54 (Ieee.double.read 4823355200913801216)).map Ieee.double.write) = _
    rw [read_fw (by omega), show Ieee.double.read 4823355200913801216 = .number false 4503599627370496 (-4) by decide, manF_log h0 (by omega), expF_log h0 (by omega)]
    have hM : (s * 2 ^ (52 - s.log2)).log2 = 52 := log2_52 f1 f2
    have hN : (4503599627370496 : Nat).log2 = 52 := by decide
    show some (Ieee.double.nearest false (2 * (((s * 2 ^ (52 - s.log2)) <<< (54 + (4503599627370496 : Nat).log2 - (s * 2 ^ (52 - s.log2)).log2)) / 4503599627370496) + (((s * 2 ^ (52 - s.log2)) <<< (54 + (4503599627370496 : Nat).log2 - (s * 2 ^ (52 - s.log2)).log2)) % 4503599627370496 != 0).toNat) ((s.log2 : Int) - 52 - -4 - ((54 + (4503599627370496 : Nat).log2 - (s * 2 ^ (52 - s.log2)).log2 : Nat) : Int) - 1)) = _
    rw [hM, hN, Nat.shiftLeft_eq]
    obtain ⟨M, hMM⟩ : ∃ M, s * 2 ^ (52 - s.log2) = M := ⟨_, rfl⟩
    rw [hMM] at f1 f2 e ⊢
    have q1 : M * 2 ^ (54 + 52 - 52) = (M * 4) * 4503599627370496 := by
      rw [show (2 : Nat) ^ (54 + 52 - 52) = 4 * 4503599627370496 by decide, Nat.mul_assoc]
    rw [q1, Nat.mul_div_cancel _ (by omega), Nat.mul_mod_left]
    have hx := nearest_exact (m := M) (j := 3) (e := s.log2 + 974) (place := (s.log2 : Int) - 52 - -4 - ((54 + 52 - 52 : Nat) : Int) - 1) (by omega) f2 (by omega) (Or.inr f1)
    rw [show 2 * (M * 4) + ((0 : Nat) != 0).toNat = M * 2 ^ 3 by show 2 * (M * 4) + 0 = M * 8; omega, hx, e, Nat.min_eq_left (by omega)]
theorem fd_ge {s : Nat} (h : s < 281474976710656) : FloatKind.f64.format.order (fd s) 0 ≠ some .lt ∧ FloatKind.f64.format.order (fd s) 4607182418800017408 = some .lt := by
  have hb := fd_bd h
  have h1 := order_V (r := fd s) (s := 0) (by omega) (by omega)
  have h2 := order_V (r := fd s) (s := 4607182418800017408) (by omega) (by omega)
  constructor
  · show Ieee.double.order (fd s) 0 ≠ some .lt
    rw [h1]
    intro e
    have := Int.compare_eq_lt.1 (Option.some.inj e)
    omega
  · show Ieee.double.order (fd s) 4607182418800017408 = some .lt
    rw [h2, Int.compare_eq_lt.2 (by omega)]
end Go.Proofs.Ytelhbkfhalpniaa

namespace Go.Proofs.Ytelhbkfhalpniaa
open Go.RowKit Go.Lib Go.Joins

/-- The state that a seed gives. -/
def seedN (x : Nat) : Nat := if 9218868437227405312 < mag x then 0 else (x ^^^ (x / 65536)) % 281474976710656
/-- The next state. -/
def stepN (s : Nat) : Nat := (s * 25214903917 + 11) % 281474976710656
theorem seedN_lt (x : Nat) : seedN x < 281474976710656 := by unfold seedN; split <;> omega
theorem stepN_lt (s : Nat) : stepN s < 281474976710656 := by unfold stepN; omega
theorem seedN_nan {x : Nat} (h : nanB x = true) : seedN x = 0 := by
  unfold seedN
  split
  · rfl
  · next h1 => rw [nan_no (by omega)] at h; cases h
theorem seedN_num {x : Nat} (h : nanB x = false) : seedN x = (x ^^^ (x / 65536)) % 281474976710656 := by
  unfold seedN
  split
  · next h1 => rw [nan_yes h1] at h; cases h
  · rfl
set_option maxRecDepth 100000 in
set_option maxHeartbeats 1000000 in
theorem first_any_di (x : Nat) (w : World) (hx : x < 18446744073709551616) : Calls Try.prog 24 #[.float .f64 x] w fun e w' => e = .returned (.int .u64 (seedN x : Nat)) ∧ w = w' := by
  have CN := isNaN_any x w
  have hf := run_f64bits x w
  cases h : nanB x
  · rw [h] at CN
    have hs := seedN_num h
    have h1 := u64_xor_nat x (x / 65536) hx (by omega)
    have h2 : (x : Int) / 65536 = ((x / 65536 : Nat) : Int) := by omega
    have h3 : x ^^^ (x / 65536) < 18446744073709551616 := Nat.xor_lt_two_pow (n := 64) hx (by omega)
    obtain ⟨z, hz⟩ : ∃ z, x ^^^ (x / 65536) = z := ⟨_, rfl⟩
    obtain ⟨y, hy⟩ : ∃ y, x / 65536 = y := ⟨_, rfl⟩
    rw [hz] at hs h1 h3
    rw [hy] at h1 h2
    have hS := Lib.hid hs
    have CN := Lib.hid CN
    clear hs hz hy
    go_enter Try.func24, Try.ntmps24
    go_wp2_with fail
    refine CN.out.mono ?_
    rintro e w' ⟨rfl, rfl⟩
    go_wp2
    go_ret
    exact ⟨by rw [hS.out]; rfl, rfl⟩
  · rw [h] at CN
    rw [seedN_nan h]
    have CN := Lib.hid CN
    clear h
    go_enter Try.func24, Try.ntmps24
    go_wp2_with fail
    refine CN.out.mono ?_
    rintro e w' ⟨rfl, rfl⟩
    go_wp2
    go_ret
    exact ⟨rfl, rfl⟩
theorem run_store_float_di (a : Addr) (n : Nat) (m : Mode) (w : World) : (store a (.float .f64 n) m).run Try.prog w = stored Try.prog w a (.float .f64 n) m := run_store _ w a _ m rfl
/-- A dice in memory. -/
def diceO (x s : Nat) : Obj := .cells #[.float .f64 x, .int .u64 (s : Int)] 47 (0, 0)
/-- The dice at g has been turned: of what there was nothing else. -/
structure DTo (g : Nat) (w w' : World) (x s : Nat) : Prop where
  is : w'.heap[g]? = some (diceO x s)
  size : w'.heap.size = w.heap.size
  other : ∀ k, k ≠ g → w'.heap[k]? = w.heap[k]?
  below : ∀ n, n ≤ g → Below n w w'
theorem DTo.trans {g : Nat} {w v u : World} {x s y t : Nat} (h : DTo g w v x s) (k : DTo g v u y t) : DTo g w u y t :=
  ⟨k.is, k.size.trans h.size, fun n hn => (k.other n hn).trans (h.other n hn), fun n hn => (h.below n hn).trans (k.below n hn)⟩
theorem other_setCell {w : World} {g i k : Nat} {v : Value} (h : k ≠ g) : (w.setCell ⟨g, i, none⟩ v).heap[k]? = w.heap[k]? := by
  exact Below.heap_setCell _ _ _ _ h
theorem dto_one {g x s z : Nat} {w : World} (hd : w.heap[g]? = some (diceO x s)) : DTo g w (w.setCell ⟨g, 1, none⟩ (.int .u64 (z : Int))) x z :=
  ⟨block_setCell hd (i := 1) (.int .u64 (z : Int)), by simp, fun k hk => other_setCell hk, fun n hn => (Below.refl n w).setCell (p := ⟨g, 1, none⟩) hn _⟩
theorem dto_two {g x s y z : Nat} {w : World} (hd : w.heap[g]? = some (diceO x s)) : DTo g w ((w.setCell ⟨g, 0, none⟩ (.float .f64 y)).setCell ⟨g, 1, none⟩ (.int .u64 (z : Int))) y z :=
  ⟨block_setCell (block_setCell hd (i := 0) (.float .f64 y)) (i := 1) (.int .u64 (z : Int)), by simp, fun k hk => (other_setCell hk).trans (other_setCell hk), fun n hn => ((Below.refl n w).setCell (p := ⟨g, 0, none⟩) hn _).setCell (p := ⟨g, 1, none⟩) hn _⟩
theorem DTo.drew {g x s : Nat} {w v : World} (h : DTo g w v x s) : DTo g w v.drew x s :=
  ⟨h.is, h.size, h.other, fun n hn => (h.below n hn).drew⟩
set_option maxRecDepth 100000 in
set_option maxHeartbeats 1000000 in
theorem reseed_any (g x s y : Nat) (w : World) (hd : w.heap[g]? = some (diceO x s)) (hy : y < 18446744073709551616) : Calls Try.prog 13 #[.pointer (some ⟨g, 0, none⟩), .float .f64 y] w fun e w' => e = .returned (.tuple #[]) ∧ DTo g w w' y (seedN y) := by
  have CF := Lib.hid (fun (W : World) => first_any_di y W hy)
  have HD := Lib.hid (dto_two (y := y) (z := seedN y) hd)
  have c0 : w.cell? ⟨g, 0, none⟩ = some (.float .f64 x) := cell_of_block hd 0
  have c1 : w.cell? ⟨g, 1, none⟩ = some (.int .u64 (s : Int)) := cell_of_block hd 1
  have f0 := unfrozen_of_block hd 0
  have hst := run_store_float_di
  have f1 := unfrozen_of_block hd 1
  clear hd
  go_enter Try.func13, Try.ntmps13
  go_wp2_with fail
  refine (CF.out _).mono ?_
  rintro e w' ⟨rfl, rfl⟩
  go_wp2
  refine bodyPost_end (results_none rfl _ _ _) rfl ?_
  exact ⟨rfl, HD.out⟩
set_option maxRecDepth 100000 in
set_option maxHeartbeats 1000000 in
theorem next_any_di (g x s : Nat) (w : World) (hd : w.heap[g]? = some (diceO x s)) : Calls Try.prog 11 #[.pointer (some ⟨g, 0, none⟩)] w fun e w' => e = .returned (.float .f64 (fd (stepN s))) ∧ DTo g w w' x (stepN s) := by
  have c1 : w.cell? ⟨g, 1, none⟩ = some (.int .u64 (s : Int)) := cell_of_block hd 1
  have w1 : (IntKind.u64.wrap (IntKind.u64.wrap ((s : Int) * 25214903917) + 11)).tmod 281474976710656 = (stepN s : Nat) := by
    rw [IntKind.wrap_u64, IntKind.wrap_u64, Int.tmod_eq_emod_of_nonneg (by omega)]; unfold stepN; omega
  have hz := stepN_lt s
  have HD := Lib.hid (dto_one (z := stepN s) hd)
  obtain ⟨z, hzz⟩ : ∃ z, stepN s = z := ⟨_, rfl⟩
  rw [hzz] at w1 hz HD ⊢
  have hf : floatOfInt .f64 (z : Int) = fw z := float_nat (by omega)
  have hq : ∀ t W, (binOp .quo t (.float .f64 (fw z)) (.float .f64 4823355200913801216)).run Try.prog W = .ok (.float .f64 (fd z)) W := fun t W => run_float_arith W .quo t .f64 _ _ _ (quo_fd hz)
  have f1 := unfrozen_of_block hd 1
  clear hzz hd
  go_enter Try.func11, Try.ntmps11
  go_wp2
  go_ret
  exact ⟨rfl, HD.out⟩
set_option maxRecDepth 100000 in
set_option maxHeartbeats 1000000 in
theorem seed_any_di (g x s : Nat) (w : World) (hd : w.heap[g]? = some (diceO x s)) : Calls Try.prog 15 #[.pointer (some ⟨g, 0, none⟩)] w fun e w' => e = .returned (.float .f64 x) ∧ w = w' := by
  have c0 : w.cell? ⟨g, 0, none⟩ = some (.float .f64 x) := cell_of_block hd 0
  clear hd
  go_enter Try.func15, Try.ntmps15
  go_wp2
  go_ret
  exact ⟨rfl, rfl⟩
set_option maxRecDepth 100000 in
set_option maxHeartbeats 1000000 in
theorem new_any_di (x : Nat) (w : World) (hx : x < 18446744073709551616) : Calls Try.prog 8 #[.float .f64 x] w fun e w' => e = .returned (.pointer (some ⟨w.heap.size, 0, none⟩)) ∧ w'.heap[w.heap.size]? = some (diceO x (seedN x)) ∧ w'.heap.size = w.heap.size + 1 ∧ Below w.heap.size w w' := by
  have hn : (w.alloc (.cells #[.float .f64 0, .int .u64 0] 47)).heap[w.heap.size]? = some (diceO 0 0) := heap_alloc_new w _
  have hs : (w.alloc (.cells #[.float .f64 0, .int .u64 0] 47)).heap.size = w.heap.size + 1 := Array.size_push _
  have hb := below_alloc1 w (.cells #[.float .f64 0, .int .u64 0] 47)
  have CR := reseed_any w.heap.size 0 0 x _ hn hx
  obtain ⟨g, hg⟩ : ∃ g, w.heap.size = g := ⟨_, rfl⟩
  have HG := Lib.hid hg
  rw [hg] at CR hb hs
  have CR := Lib.hid CR
  have HS := Lib.hid hs
  have HB := Lib.hid hb
  clear hn hg hs hb
  go_enter Try.func8, Try.ntmps8
  go_wp2_with fail
  rw [HG.out]
  refine CR.out.mono ?_
  rintro e w' ⟨rfl, hd⟩
  have h1 := hd.is
  have h2 : w'.heap.size = g + 1 := hd.size.trans HS.out
  have h3 := HB.out.trans (hd.below g (Nat.le_refl _))
  have H := Lib.hid (And.intro h1 (And.intro h2 h3))
  clear hd h1 h2 h3
  go_wp2_with fail
  go_ret
  rw [HG.out]
  exact ⟨rfl, H.out⟩
theorem nil_next (w : World) : Calls Try.prog 11 #[.pointer none] w fun e w' => e = .returned (.float .f64 0) ∧ w = w' := by
  go_enter Try.func11, Try.ntmps11
  go_wp2
  go_ret
  exact ⟨rfl, rfl⟩
theorem nil_seed (w : World) : Calls Try.prog 15 #[.pointer none] w fun e w' => e = .returned (.float .f64 0) ∧ w = w' := by
  go_enter Try.func15, Try.ntmps15
  go_wp2
  go_ret
  exact ⟨rfl, rfl⟩
theorem nil_reseed (x : Nat) (w : World) : Calls Try.prog 13 #[.pointer none, .float .f64 x] w fun e w' => e = .returned (.tuple #[]) ∧ w = w' := by
  go_enter Try.func13, Try.ntmps13
  go_wp2
  refine bodyPost_ret (results_none rfl _ _ _) rfl ?_
  exact ⟨rfl, rfl⟩
end Go.Proofs.Ytelhbkfhalpniaa

namespace Go.Proofs.Ytelhbkfhalpniaa
open Go.RowKit Go.Lib Go.Joins

theorem flo_val {b : Nat} (h : b < 9218868437227405312) : flo b = truncR b := by
  have h1 := trunc_val (b := b) (by omega) (by rw [mag_no h]; exact h)
  rw [mag_no h, show sgn b = 0 by unfold sgn; omega, Nat.zero_add] at h1
  rw [← h1]
  have hr := read_fin (b := b) (by rw [mag_no h]; exact h)
  rw [sign_no h, mag_no h] at hr
  show Ieee.double.write ((Ieee.double.read b).integral .down) = Ieee.double.write ((Ieee.double.read b).integral .zero)
  rw [hr]
  rfl
theorem floor_pos (b : Nat) (w : World) (h : b < 9218868437227405312) : Calls Try.prog 35 #[.float .f64 b] w fun e w' => e = .returned (.float .f64 (truncR b)) ∧ w = w' := by
  have hd : FloatKind.f64.decode b = .number (b / 9223372036854775808 % 2 == 1) (manF (mag b)) (expF (mag b)) := read_fin (by rw [mag_no h]; exact h)
  have h1 := floor_any b w (by rw [hd]; rfl)
  rw [flo_val h] at h1
  exact h1
theorem order_some {b : Nat} (h : b < 9218868437227405312) : FloatKind.f64.format.order b 0 = some .gt ∨ FloatKind.f64.format.order b 0 = some .eq := by
  show Ieee.double.order b 0 = some .gt ∨ Ieee.double.order b 0 = some .eq
  rw [order_V h (by omega)]
  rcases Nat.eq_zero_or_pos b with h0 | h0
  · subst h0; right; decide
  · left; rw [Int.compare_eq_gt.2 (by omega)]
theorem order_self_eq {b t : Nat} (h : b < 9218868437227405312) (ht : t < 9218868437227405312) : (FloatKind.f64.format.order b t == some .eq) = decide (b = t) := by
  show (Ieee.double.order b t == some .eq) = _
  rw [order_V h ht]
  rcases Nat.lt_trichotomy b t with h1 | h1 | h1
  · rw [Int.compare_eq_lt.2 (by omega), decide_eq_false (by omega)]; rfl
  · rw [Int.compare_eq_eq.2 (by omega), decide_eq_true h1]; rfl
  · rw [Int.compare_eq_gt.2 (by omega), decide_eq_false (by omega)]; rfl
/-- Below nought, or no number. -/
theorem order_bad {b : Nat} (hb : b < 18446744073709551616) (h : 9223372036854775808 < b) : FloatKind.f64.format.order b 0 = some .lt ∨ FloatKind.f64.format.order b 0 = none := by
  rcases Nat.lt_trichotomy b 18442240474082181120 with h1 | h1 | h1
  · left
    have := ord0_neg (r := b - 9223372036854775808) (by omega) (by omega)
    rwa [show 9223372036854775808 + (b - 9223372036854775808) = b by omega] at this
  · left; subst h1; decide
  · right
    show Ieee.double.order b 0 = none
    unfold Ieee.Format.order
    rw [read_nan (b := b) (by unfold mag; omega)]
    rfl
/-- Infinite, or no number. -/
theorem order_far' {b B : Nat} (h : 9218868437227405312 ≤ b) (h2 : b < 9223372036854775808) (hB : B < 9218868437227405312) : (FloatKind.f64.format.order b 0 = some .gt ∧ FloatKind.f64.format.order b B = some .gt) ∨ FloatKind.f64.format.order b 0 = none := by
  rcases (by omega : b = 9218868437227405312 ∨ 9218868437227405312 < b) with h1 | h1
  · left
    subst h1
    refine ⟨by decide, ?_⟩
    show Ieee.double.order 9218868437227405312 B = some .gt
    unfold Ieee.Format.order
    rw [read_fin (b := B) (by rw [mag_no hB]; exact hB), show Ieee.double.read 9218868437227405312 = .infinity false by decide]
    rfl
  · right
    show Ieee.double.order b 0 = none
    unfold Ieee.Format.order
    rw [read_nan (b := b) (by unfold mag; omega)]
    rfl
theorem isWh_zero : isWh 0 = true := (trunc_wh (by omega)).1 (by
  unfold truncR
  rw [if_neg (by decide)]
  rw [show manF 0 = 0 by rw [manF, if_pos (by decide)], Nat.zero_div]
  rfl)
/-- Is it a whole number from nought up to a bound? -/
def okW (b B : Nat) : Bool := decide (b ≤ B ∨ b = 9223372036854775808) && isWh (mag b)
theorem okW_far {b B : Nat} (h : B < b) (h2 : b ≠ 9223372036854775808) : okW b B = false := by
  unfold okW
  rw [decide_eq_false (by omega), Bool.false_and]
set_option maxRecDepth 100000 in
set_option maxHeartbeats 1000000 in
theorem isWhole_any (b B : Nat) (w : World) (hb : b < 18446744073709551616) (hB : B < 9218868437227405312) (hB0 : 0 < B) :
    Calls Try.prog 33 #[.float .f64 b, .float .f64 B] w fun e w' => e = .returned (.bool (okW b B)) ∧ w = w' := by
  by_cases h1 : b < 9218868437227405312
  · have o1 := order_some h1
    have CT := fun W => floor_pos b W h1
    have e1 := order_self_eq h1 (truncR_lt h1)
    have o2 : FloatKind.f64.format.order b B = some (compare (b : Int) (B : Int)) := order_V h1 hB
    have hw : decide (b = truncR b) = isWh b := by
      cases h : isWh b with
      | true => exact decide_eq_true ((trunc_wh h1).2 h).symm
      | false => exact decide_eq_false fun e => by rw [(trunc_wh h1).1 e.symm] at h; cases h
    rw [hw] at e1
    unfold okW
    rw [mag_no h1]
    obtain ⟨q, hq⟩ : ∃ q, isWh b = q := ⟨_, rfl⟩
    rw [hq] at e1 ⊢
    obtain ⟨T, hT⟩ : ∃ T, truncR b = T := ⟨_, rfl⟩
    rw [hT] at CT e1
    have CT := Lib.hid CT
    clear hT hq hw
    by_cases hl : b ≤ B
    · rw [decide_eq_true (Or.inl hl), Bool.true_and]
      have o3 : FloatKind.f64.format.order b B = some .lt ∨ FloatKind.f64.format.order b B = some .eq := by
        rcases (by omega : b < B ∨ b = B) with h | h
        · left; rw [o2, Int.compare_eq_lt.2 (by omega)]
        · right; rw [o2, Int.compare_eq_eq.2 (by omega)]
      clear o2 hl h1
      rcases o1 with o1 | o1 <;> rcases o3 with o3 | o3 <;> cases q <;>
        · go_enter Try.func33, Try.ntmps33
          go_wp2_with fail
          refine (CT.out _).mono ?_
          rintro e w' ⟨rfl, rfl⟩
          go_wp2_with fail
          go_ret
          exact ⟨rfl, rfl⟩
    · rw [decide_eq_false (by omega), Bool.false_and]
      rw [Int.compare_eq_gt.2 (by omega)] at o2
      clear hl h1
      rcases o1 with o1 | o1 <;>
        · go_enter Try.func33, Try.ntmps33
          go_wp2_with fail
          go_ret
          exact ⟨rfl, rfl⟩
  · by_cases h2 : b = 9223372036854775808
    · subst h2
      have o1 : FloatKind.f64.format.order 9223372036854775808 0 = some .eq := ord0_mz
      have o2 : FloatKind.f64.format.order 9223372036854775808 B = some .lt := ordmz_pos hB0 (by omega)
      have o3 : (FloatKind.f64.format.order 9223372036854775808 9223372036854775808 == some .eq) = true := by decide
      have CT := Lib.hid (fun W => floor_any 9223372036854775808 W (by decide))
      have hf : flo 9223372036854775808 = 9223372036854775808 := by decide
      rw [hf] at CT
      have hk : okW 9223372036854775808 B = true := by
        unfold okW
        rw [decide_eq_true (Or.inr rfl), Bool.true_and]
        exact isWh_zero
      rw [hk]
      clear h1 hk hf
      go_enter Try.func33, Try.ntmps33
      go_wp2_with fail
      refine (CT.out _).mono ?_
      rintro e w' ⟨rfl, rfl⟩
      go_wp2_with fail
      go_ret
      exact ⟨rfl, rfl⟩
    · rw [okW_far (by omega) h2]
      rcases Nat.lt_or_ge b 9223372036854775808 with h3 | h3
      · rcases order_far' (by omega) h3 hB with ⟨o1, o2⟩ | o1
        · clear h1 h2 h3
          go_enter Try.func33, Try.ntmps33
          go_wp2_with fail
          go_ret
          exact ⟨rfl, rfl⟩
        · clear h1 h2 h3
          go_enter Try.func33, Try.ntmps33
          go_wp2_with fail
          go_ret
          exact ⟨rfl, rfl⟩
      · rcases order_bad hb (by omega) with o1 | o1 <;>
          · clear h1 h2 h3
            go_enter Try.func33, Try.ntmps33
            go_wp2_with fail
            go_ret
            exact ⟨rfl, rfl⟩
/-- The bits' functions, by their closures. -/
theorem and_clo (a b : Nat) (w : World) (ha : a < 9007199254740992) (hb : b < 9007199254740992) : Calls Try.prog 26 #[.int .u64 (a : Int), .int .u64 (b : Int)] w fun e w' => e = .returned (.int .u64 ((a &&& b : Nat) : Int)) ∧ w = w' := by
  have h1 := u64_and_nat a b (by omega) (by omega)
  go_enter Try.func26, Try.ntmps26
  go_wp2
  go_ret
  exact ⟨rfl, rfl⟩
theorem or_clo (a b : Nat) (w : World) (ha : a < 9007199254740992) (hb : b < 9007199254740992) : Calls Try.prog 27 #[.int .u64 (a : Int), .int .u64 (b : Int)] w fun e w' => e = .returned (.int .u64 ((a ||| b : Nat) : Int)) ∧ w = w' := by
  have h1 := u64_or_nat a b (by omega) (by omega)
  go_enter Try.func27, Try.ntmps27
  go_wp2
  go_ret
  exact ⟨rfl, rfl⟩
theorem xor_clo (a b : Nat) (w : World) (ha : a < 9007199254740992) (hb : b < 9007199254740992) : Calls Try.prog 28 #[.int .u64 (a : Int), .int .u64 (b : Int)] w fun e w' => e = .returned (.int .u64 ((a ^^^ b : Nat) : Int)) ∧ w = w' := by
  have h1 := u64_xor_nat a b (by omega) (by omega)
  go_enter Try.func28, Try.ntmps28
  go_wp2
  go_ret
  exact ⟨rfl, rfl⟩
/-- The whole number that a float is. -/
theorem wh_of_V {r q : Nat} (h : V r = q * S1074) : whQ r = q ∧ isWh r = true := by
  have hS := S_pos
  have e : amN r = q * amD r := by
    refine Nat.eq_of_mul_eq_mul_right hS ?_
    rw [← V_am, h, Nat.mul_right_comm]
  have hd := amD_pos r
  unfold whQ isWh
  rw [e, Nat.mul_div_cancel _ hd, Nat.mul_mod_left]
  exact ⟨rfl, rfl⟩
theorem wh_fw {m : Nat} (h : m < 9007199254740992) : whQ (fw m) = m ∧ isWh (fw m) = true := wh_of_V (fw_V h)
def qW (b : Nat) : Nat := whQ (mag b)
theorem fw_top : fw 9007199254740991 = 4845873199050653695 := by decide +kernel
theorem V_mono {r s : Nat} (h : r ≤ s) : V r ≤ V s := by
  rcases Nat.lt_or_ge r s with h1 | h1
  · exact Nat.le_of_lt (V_lt h1)
  · rw [show r = s by omega]; exact Nat.le_refl _
theorem okW_le {b Q : Nat} (hQ : Q < 9007199254740992) (h : okW b (fw Q) = true) : qW b ≤ Q ∧ (b < 9218868437227405312 ∨ b = 9223372036854775808) ∧ isWh (mag b) = true := by
  have hb := fw_bd hQ
  unfold okW at h
  obtain ⟨h1, h2⟩ := Bool.and_eq_true_iff.1 h
  have h1 := of_decide_eq_true h1
  refine ⟨?_, by omega, h2⟩
  have hm : mag b ≤ fw Q := by unfold mag; omega
  have h3 := V_mono hm
  rw [fw_V hQ] at h3
  exact Nat.le_of_mul_le_mul_right (Nat.le_trans (whQ_le _) h3) S_pos
theorem okW_fw {m Q : Nat} (hQ : Q < 9007199254740992) (h : m ≤ Q) : okW (fw m) (fw Q) = true ∧ qW (fw m) = m := by
  have hm : m < 9007199254740992 := by omega
  obtain ⟨a, b⟩ := wh_fw hm
  unfold okW qW
  rw [fw_mag hm, a, b]
  refine ⟨?_, rfl⟩
  rw [decide_eq_true, Bool.true_and]
  left
  rcases Nat.lt_or_ge (fw Q) (fw m) with h1 | h1
  · have h2 := V_lt h1
    rw [fw_V hm, fw_V hQ] at h2
    have := Nat.lt_of_mul_lt_mul_right h2
    omega
  · exact h1
theorem qW_u64 {b : Nat} (h : b < 9218868437227405312 ∨ b = 9223372036854775808) (hq : qW b < 9007199254740992) : floatToIntVal .f64 b .u64 = some (qW b : Int) := by
  rcases h with h | h
  · have h1 := uint_of_wh (r := b) h (by unfold qW at hq; rw [mag_no h] at hq; omega)
    unfold qW
    rw [mag_no h]
    exact h1
  · subst h
    have h0 : qW 9223372036854775808 = 0 := by
      have : mag 9223372036854775808 = fw 0 := by decide
      unfold qW
      rw [this]
      exact (wh_fw (by omega)).1
    rw [h0]
    decide +kernel
set_option maxRecDepth 100000 in
set_option maxHeartbeats 1000000 in
theorem join_And (x y Q z : Nat) (w : World) (hx : x < 18446744073709551616) (hy : y < 18446744073709551616) (hQ : Q < 9007199254740992) (hQ0 : 0 < Q) (h1 : okW x 4845873199050653695 = true) (h2 : okW y (fw Q) = true) (hz : z < 18446744073709551616)
    (CF : ∀ W, Calls Try.prog 26 #[.int .u64 (qW x : Int), .int .u64 (qW y : Int)] W fun e w' => e = .returned (.int .u64 (z : Int)) ∧ W = w') :
    Calls Try.prog 25 #[.float .f64 x, .float .f64 y, .float .f64 (fw Q), .func (.func 26) #[] #[]] w fun e w' => e = .returned (.tuple #[.float .f64 (fw (z % 9007199254740992)), .int .i64 0]) ∧ w = w' := by
  have hb := fw_bd hQ
  have h0 : 0 < fw Q := by
    rcases Nat.eq_zero_or_pos (fw Q) with h | h
    · have := fw_V hQ
      rw [h] at this
      have h0 : V 0 = 0 := by decide
      rw [h0] at this
      have := Nat.mul_pos hQ0 S_pos
      omega
    · exact h
  have C1 := isWhole_any x 4845873199050653695 w hx (by omega) (by omega)
  have C2 := isWhole_any y (fw Q) w hy (by omega) h0
  rw [h1] at C1
  rw [h2] at C2
  rw [← fw_top] at h1
  obtain ⟨q1, x1, -⟩ := okW_le (by omega) h1
  obtain ⟨q2, x2, -⟩ := okW_le hQ h2
  have v1 := qW_u64 x1 (by omega)
  have v2 := qW_u64 x2 (by omega)
  have c1 : ∀ W, (convert 26 28 (.float .f64 x)).run Try.prog W = .ok (.int .u64 (qW x : Int)) W := fun W => run_convert_float_int W 26 28 .f64 .u64 _ _ (by rw [Try.underlying26]; rfl) Try.underlying28 v1
  have c2 : ∀ W, (convert 26 28 (.float .f64 y)).run Try.prog W = .ok (.int .u64 (qW y : Int)) W := fun W => run_convert_float_int W 26 28 .f64 .u64 _ _ (by rw [Try.underlying26]; rfl) Try.underlying28 v2
  have t1 := top_mod z hz
  have f1 : floatOfInt .f64 ((z % 9007199254740992 : Nat) : Int) = fw (z % 9007199254740992) := float_nat (by omega)
  obtain ⟨B, hB⟩ : ∃ B, fw Q = B := ⟨_, rfl⟩
  rw [hB] at C2 ⊢
  obtain ⟨m, hm⟩ : ∃ m, z % 9007199254740992 = m := ⟨_, rfl⟩
  rw [hm] at t1 f1 ⊢
  obtain ⟨a, ha⟩ : ∃ a, qW x = a := ⟨_, rfl⟩
  obtain ⟨b, hbb⟩ : ∃ b, qW y = b := ⟨_, rfl⟩
  rw [ha] at c1 CF
  rw [hbb] at c2 CF
  have C1 := Lib.hid C1
  have C2 := Lib.hid C2
  have CF := Lib.hid CF
  clear h1 h2 q1 x1 q2 x2 v1 v2 hB hb h0 hm ha hbb
  go_enter Try.func25, Try.ntmps25
  go_wp2_with fail
  refine C1.out.mono ?_
  rintro e w' ⟨rfl, rfl⟩
  go_wp2_with fail
  refine C2.out.mono ?_
  rintro e w' ⟨rfl, rfl⟩
  go_wp2_with fail
  refine (CF.out _).mono ?_
  rintro e w' ⟨rfl, rfl⟩
  go_wp2_with fail
  go_ret2
  exact ⟨rfl, rfl⟩
set_option maxRecDepth 100000 in
set_option maxHeartbeats 1000000 in
theorem join_Or (x y Q z : Nat) (w : World) (hx : x < 18446744073709551616) (hy : y < 18446744073709551616) (hQ : Q < 9007199254740992) (hQ0 : 0 < Q) (h1 : okW x 4845873199050653695 = true) (h2 : okW y (fw Q) = true) (hz : z < 18446744073709551616)
    (CF : ∀ W, Calls Try.prog 27 #[.int .u64 (qW x : Int), .int .u64 (qW y : Int)] W fun e w' => e = .returned (.int .u64 (z : Int)) ∧ W = w') :
    Calls Try.prog 25 #[.float .f64 x, .float .f64 y, .float .f64 (fw Q), .func (.func 27) #[] #[]] w fun e w' => e = .returned (.tuple #[.float .f64 (fw (z % 9007199254740992)), .int .i64 0]) ∧ w = w' := by
  have hb := fw_bd hQ
  have h0 : 0 < fw Q := by
    rcases Nat.eq_zero_or_pos (fw Q) with h | h
    · have := fw_V hQ
      rw [h] at this
      have h0 : V 0 = 0 := by decide
      rw [h0] at this
      have := Nat.mul_pos hQ0 S_pos
      omega
    · exact h
  have C1 := isWhole_any x 4845873199050653695 w hx (by omega) (by omega)
  have C2 := isWhole_any y (fw Q) w hy (by omega) h0
  rw [h1] at C1
  rw [h2] at C2
  rw [← fw_top] at h1
  obtain ⟨q1, x1, -⟩ := okW_le (by omega) h1
  obtain ⟨q2, x2, -⟩ := okW_le hQ h2
  have v1 := qW_u64 x1 (by omega)
  have v2 := qW_u64 x2 (by omega)
  have c1 : ∀ W, (convert 26 28 (.float .f64 x)).run Try.prog W = .ok (.int .u64 (qW x : Int)) W := fun W => run_convert_float_int W 26 28 .f64 .u64 _ _ (by rw [Try.underlying26]; rfl) Try.underlying28 v1
  have c2 : ∀ W, (convert 26 28 (.float .f64 y)).run Try.prog W = .ok (.int .u64 (qW y : Int)) W := fun W => run_convert_float_int W 26 28 .f64 .u64 _ _ (by rw [Try.underlying26]; rfl) Try.underlying28 v2
  have t1 := top_mod z hz
  have f1 : floatOfInt .f64 ((z % 9007199254740992 : Nat) : Int) = fw (z % 9007199254740992) := float_nat (by omega)
  obtain ⟨B, hB⟩ : ∃ B, fw Q = B := ⟨_, rfl⟩
  rw [hB] at C2 ⊢
  obtain ⟨m, hm⟩ : ∃ m, z % 9007199254740992 = m := ⟨_, rfl⟩
  rw [hm] at t1 f1 ⊢
  obtain ⟨a, ha⟩ : ∃ a, qW x = a := ⟨_, rfl⟩
  obtain ⟨b, hbb⟩ : ∃ b, qW y = b := ⟨_, rfl⟩
  rw [ha] at c1 CF
  rw [hbb] at c2 CF
  have C1 := Lib.hid C1
  have C2 := Lib.hid C2
  have CF := Lib.hid CF
  clear h1 h2 q1 x1 q2 x2 v1 v2 hB hb h0 hm ha hbb
  go_enter Try.func25, Try.ntmps25
  go_wp2_with fail
  refine C1.out.mono ?_
  rintro e w' ⟨rfl, rfl⟩
  go_wp2_with fail
  refine C2.out.mono ?_
  rintro e w' ⟨rfl, rfl⟩
  go_wp2_with fail
  refine (CF.out _).mono ?_
  rintro e w' ⟨rfl, rfl⟩
  go_wp2_with fail
  go_ret2
  exact ⟨rfl, rfl⟩
set_option maxRecDepth 100000 in
set_option maxHeartbeats 1000000 in
theorem join_Xor (x y Q z : Nat) (w : World) (hx : x < 18446744073709551616) (hy : y < 18446744073709551616) (hQ : Q < 9007199254740992) (hQ0 : 0 < Q) (h1 : okW x 4845873199050653695 = true) (h2 : okW y (fw Q) = true) (hz : z < 18446744073709551616)
    (CF : ∀ W, Calls Try.prog 28 #[.int .u64 (qW x : Int), .int .u64 (qW y : Int)] W fun e w' => e = .returned (.int .u64 (z : Int)) ∧ W = w') :
    Calls Try.prog 25 #[.float .f64 x, .float .f64 y, .float .f64 (fw Q), .func (.func 28) #[] #[]] w fun e w' => e = .returned (.tuple #[.float .f64 (fw (z % 9007199254740992)), .int .i64 0]) ∧ w = w' := by
  have hb := fw_bd hQ
  have h0 : 0 < fw Q := by
    rcases Nat.eq_zero_or_pos (fw Q) with h | h
    · have := fw_V hQ
      rw [h] at this
      have h0 : V 0 = 0 := by decide
      rw [h0] at this
      have := Nat.mul_pos hQ0 S_pos
      omega
    · exact h
  have C1 := isWhole_any x 4845873199050653695 w hx (by omega) (by omega)
  have C2 := isWhole_any y (fw Q) w hy (by omega) h0
  rw [h1] at C1
  rw [h2] at C2
  rw [← fw_top] at h1
  obtain ⟨q1, x1, -⟩ := okW_le (by omega) h1
  obtain ⟨q2, x2, -⟩ := okW_le hQ h2
  have v1 := qW_u64 x1 (by omega)
  have v2 := qW_u64 x2 (by omega)
  have c1 : ∀ W, (convert 26 28 (.float .f64 x)).run Try.prog W = .ok (.int .u64 (qW x : Int)) W := fun W => run_convert_float_int W 26 28 .f64 .u64 _ _ (by rw [Try.underlying26]; rfl) Try.underlying28 v1
  have c2 : ∀ W, (convert 26 28 (.float .f64 y)).run Try.prog W = .ok (.int .u64 (qW y : Int)) W := fun W => run_convert_float_int W 26 28 .f64 .u64 _ _ (by rw [Try.underlying26]; rfl) Try.underlying28 v2
  have t1 := top_mod z hz
  have f1 : floatOfInt .f64 ((z % 9007199254740992 : Nat) : Int) = fw (z % 9007199254740992) := float_nat (by omega)
  obtain ⟨B, hB⟩ : ∃ B, fw Q = B := ⟨_, rfl⟩
  rw [hB] at C2 ⊢
  obtain ⟨m, hm⟩ : ∃ m, z % 9007199254740992 = m := ⟨_, rfl⟩
  rw [hm] at t1 f1 ⊢
  obtain ⟨a, ha⟩ : ∃ a, qW x = a := ⟨_, rfl⟩
  obtain ⟨b, hbb⟩ : ∃ b, qW y = b := ⟨_, rfl⟩
  rw [ha] at c1 CF
  rw [hbb] at c2 CF
  have C1 := Lib.hid C1
  have C2 := Lib.hid C2
  have CF := Lib.hid CF
  clear h1 h2 q1 x1 q2 x2 v1 v2 hB hb h0 hm ha hbb
  go_enter Try.func25, Try.ntmps25
  go_wp2_with fail
  refine C1.out.mono ?_
  rintro e w' ⟨rfl, rfl⟩
  go_wp2_with fail
  refine C2.out.mono ?_
  rintro e w' ⟨rfl, rfl⟩
  go_wp2_with fail
  refine (CF.out _).mono ?_
  rintro e w' ⟨rfl, rfl⟩
  go_wp2_with fail
  go_ret2
  exact ⟨rfl, rfl⟩
theorem and_yes (x y : Nat) (w : World) (hx : x < 18446744073709551616) (hy : y < 18446744073709551616) (h1 : okW x 4845873199050653695 = true) (h2 : okW y 4845873199050653695 = true) :
    Calls Try.prog 16 #[.float .f64 x, .float .f64 y] w fun e w' => e = .returned (.tuple #[.float .f64 (fw (qW x &&& qW y)), .int .i64 0]) ∧ w = w' := by
  have q1 := (okW_le (b := x) (Q := 9007199254740991) (by omega) (by rw [fw_top]; exact h1)).1
  have q2 := (okW_le (b := y) (Q := 9007199254740991) (by omega) (by rw [fw_top]; exact h2)).1
  have hz : qW x &&& qW y < 9007199254740992 := land_lt (by omega)
  have CJ := Lib.hid (join_And x y 9007199254740991 (qW x &&& qW y) w hx hy (by omega) (by omega) h1 (by rw [fw_top]; exact h2) (by omega) (fun W => and_clo (qW x) (qW y) W (by omega) (by omega)))
  rw [Nat.mod_eq_of_lt hz, fw_top] at CJ
  obtain ⟨m, hm⟩ : ∃ m, fw (qW x &&& qW y) = m := ⟨_, rfl⟩
  rw [hm] at CJ ⊢
  clear q1 q2 h1 h2 hm hz
  go_enter Try.func16, Try.ntmps16
  go_wp2_with fail
  refine CJ.out.mono ?_
  rintro e w' ⟨rfl, rfl⟩
  go_wp2_with fail
  go_ret2
  exact ⟨rfl, rfl⟩
theorem or_yes (x y : Nat) (w : World) (hx : x < 18446744073709551616) (hy : y < 18446744073709551616) (h1 : okW x 4845873199050653695 = true) (h2 : okW y 4845873199050653695 = true) :
    Calls Try.prog 17 #[.float .f64 x, .float .f64 y] w fun e w' => e = .returned (.tuple #[.float .f64 (fw (qW x ||| qW y)), .int .i64 0]) ∧ w = w' := by
  have q1 := (okW_le (b := x) (Q := 9007199254740991) (by omega) (by rw [fw_top]; exact h1)).1
  have q2 := (okW_le (b := y) (Q := 9007199254740991) (by omega) (by rw [fw_top]; exact h2)).1
  have hz : qW x ||| qW y < 9007199254740992 := lor_lt (by omega) (by omega)
  have CJ := Lib.hid (join_Or x y 9007199254740991 (qW x ||| qW y) w hx hy (by omega) (by omega) h1 (by rw [fw_top]; exact h2) (by omega) (fun W => or_clo (qW x) (qW y) W (by omega) (by omega)))
  rw [Nat.mod_eq_of_lt hz, fw_top] at CJ
  obtain ⟨m, hm⟩ : ∃ m, fw (qW x ||| qW y) = m := ⟨_, rfl⟩
  rw [hm] at CJ ⊢
  clear q1 q2 h1 h2 hm hz
  go_enter Try.func17, Try.ntmps17
  go_wp2_with fail
  refine CJ.out.mono ?_
  rintro e w' ⟨rfl, rfl⟩
  go_wp2_with fail
  go_ret2
  exact ⟨rfl, rfl⟩
theorem xor_yes (x y : Nat) (w : World) (hx : x < 18446744073709551616) (hy : y < 18446744073709551616) (h1 : okW x 4845873199050653695 = true) (h2 : okW y 4845873199050653695 = true) :
    Calls Try.prog 18 #[.float .f64 x, .float .f64 y] w fun e w' => e = .returned (.tuple #[.float .f64 (fw (qW x ^^^ qW y)), .int .i64 0]) ∧ w = w' := by
  have q1 := (okW_le (b := x) (Q := 9007199254740991) (by omega) (by rw [fw_top]; exact h1)).1
  have q2 := (okW_le (b := y) (Q := 9007199254740991) (by omega) (by rw [fw_top]; exact h2)).1
  have hz : qW x ^^^ qW y < 9007199254740992 := lxor_lt (by omega) (by omega)
  have CJ := Lib.hid (join_Xor x y 9007199254740991 (qW x ^^^ qW y) w hx hy (by omega) (by omega) h1 (by rw [fw_top]; exact h2) (by omega) (fun W => xor_clo (qW x) (qW y) W (by omega) (by omega)))
  rw [Nat.mod_eq_of_lt hz, fw_top] at CJ
  obtain ⟨m, hm⟩ : ∃ m, fw (qW x ^^^ qW y) = m := ⟨_, rfl⟩
  rw [hm] at CJ ⊢
  clear q1 q2 h1 h2 hm hz
  go_enter Try.func18, Try.ntmps18
  go_wp2_with fail
  refine CJ.out.mono ?_
  rintro e w' ⟨rfl, rfl⟩
  go_wp2_with fail
  go_ret2
  exact ⟨rfl, rfl⟩
theorem top_ok : okW 4845873199050653695 4845873199050653695 = true ∧ qW 4845873199050653695 = 9007199254740991 := by
  have h := okW_fw (m := 9007199254740991) (Q := 9007199254740991) (by omega) (by omega)
  rw [fw_top] at h
  exact h
theorem not_yes (x : Nat) (w : World) (hx : x < 18446744073709551616) (h1 : okW x 4845873199050653695 = true) :
    Calls Try.prog 21 #[.float .f64 x] w fun e w' => e = .returned (.tuple #[.float .f64 (fw (9007199254740991 - qW x)), .int .i64 0]) ∧ w = w' := by
  have q1 := (okW_le (b := x) (Q := 9007199254740991) (by omega) (by rw [fw_top]; exact h1)).1
  have CJ := Lib.hid (xor_yes x 4845873199050653695 w hx (by omega) h1 top_ok.1)
  rw [top_ok.2, top_xor (by omega)] at CJ
  obtain ⟨m, hm⟩ : ∃ m, fw (9007199254740991 - qW x) = m := ⟨_, rfl⟩
  rw [hm] at CJ ⊢
  clear q1 h1 hm
  go_enter Try.func21, Try.ntmps21
  go_wp2_with fail
  refine CJ.out.mono ?_
  rintro e w' ⟨rfl, rfl⟩
  go_wp2_with fail
  go_ret2
  exact ⟨rfl, rfl⟩
end Go.Proofs.Ytelhbkfhalpniaa
