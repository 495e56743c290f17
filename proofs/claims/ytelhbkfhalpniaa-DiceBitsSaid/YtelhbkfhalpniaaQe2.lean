/- Several texts in one (Plain: whole numbers' bits, floats of whole numbers added, a number below 2^48 divided by 2^48; Contracts of layer 14: a seed's state, the next one, a dice in memory; Contracts of layer 14: whole numbers, their bits; The laws of layer 14: the fixed examples; what both have and what one of them has; Contracts of layer 14's definition: a seed's state, the next one; the same floats; The definition of layer 2: trim, Small, Add; The definition of layer 2: Times, Cmp; The definition of layer 2: Times; The definition of layer 2: Pow, of two, five and ten; The definition of layer 2: Add, Times). -/
import Derived.Lib.SmallJoins
import Derived.Laws.CopyOwn
import Derived.Outline
import Derived.Lib.BitFns
import Derived.Deep.RegionWith
import Derived.Test.YtelhbkfhalpniaaShelf
import Derived.Test.YtelhbkfhalpniaaQe1
namespace Go.Proofs.Ytelhbkfhalpniaa
open Go.RowKit Go.Lib

theorem bit_and (a b : Nat) : (a &&& b) % 2 = (a % 2) * (b % 2) := by
  have t := Nat.and_mod_two_pow (a := a) (b := b) (n := 1)
  rw [Nat.pow_one] at t
  rw [t]
  rcases Nat.mod_two_eq_zero_or_one a with x | x <;> rcases Nat.mod_two_eq_zero_or_one b with y | y <;> rw [x, y] <;> rfl
theorem bit_or (a b : Nat) : (a ||| b) % 2 = (a % 2) + (b % 2) - (a % 2) * (b % 2) := by
  have t := Nat.or_mod_two_pow (a := a) (b := b) (n := 1)
  rw [Nat.pow_one] at t
  rw [t]
  rcases Nat.mod_two_eq_zero_or_one a with x | x <;> rcases Nat.mod_two_eq_zero_or_one b with y | y <;> rw [x, y] <;> rfl
theorem bit_xor (a b : Nat) : (a ^^^ b) % 2 = (a % 2 + b % 2) % 2 := by
  have t := Nat.xor_mod_two_pow (a := a) (b := b) (n := 1)
  rw [Nat.pow_one] at t
  rw [t]
  rcases Nat.mod_two_eq_zero_or_one a with x | x <;> rcases Nat.mod_two_eq_zero_or_one b with y | y <;> rw [x, y] <;> rfl
theorem land_lor : ∀ a b : Nat, (a &&& b) + (a ||| b) = a + b := by
  intro a
  induction a using Nat.strongRecOn with
  | _ a ih =>
    intro b
    rcases Nat.eq_zero_or_pos a with h | h
    · subst h; simp
    · have h1 := ih (a / 2) (by omega) (b / 2)
      have e1 := Nat.and_div_two (a := a) (b := b)
      have e2 := Nat.or_div_two (a := a) (b := b)
      have m1 : (a &&& b) % 2 + (a ||| b) % 2 = a % 2 + b % 2 := by
        rw [bit_and, bit_or]
        rcases Nat.mod_two_eq_zero_or_one a with x | x <;> rcases Nat.mod_two_eq_zero_or_one b with y | y <;> rw [x, y]
      omega
theorem land_lxor : ∀ a b : Nat, (a &&& b) + (a ^^^ b) = a ||| b := by
  intro a
  induction a using Nat.strongRecOn with
  | _ a ih =>
    intro b
    rcases Nat.eq_zero_or_pos a with h | h
    · subst h; simp
    · have h1 := ih (a / 2) (by omega) (b / 2)
      have e1 := Nat.and_div_two (a := a) (b := b)
      have e2 := Nat.or_div_two (a := a) (b := b)
      have e3 := Nat.xor_div_two (a := a) (b := b)
      have m1 : (a &&& b) % 2 + (a ^^^ b) % 2 = (a ||| b) % 2 := by
        rw [bit_and, bit_or, bit_xor]
        rcases Nat.mod_two_eq_zero_or_one a with x | x <;> rcases Nat.mod_two_eq_zero_or_one b with y | y <;> rw [x, y]
      omega
theorem lor_lt {a b : Nat} (ha : a < 9007199254740992) (hb : b < 9007199254740992) : a ||| b < 9007199254740992 := Nat.or_lt_two_pow (n := 53) ha hb
theorem lxor_lt {a b : Nat} (ha : a < 9007199254740992) (hb : b < 9007199254740992) : a ^^^ b < 9007199254740992 := Nat.xor_lt_two_pow (n := 53) ha hb
theorem land_lt {a b : Nat} (ha : a < 9007199254740992) : a &&& b < 9007199254740992 := Nat.lt_of_le_of_lt Nat.and_le_left ha
theorem top_mod (m : Nat) (h : m < 18446744073709551616) : bits .and .u64 (m : Int) 9007199254740991 = ((m % 9007199254740992 : Nat) : Int) := by
  have h1 := u64_and_nat m 9007199254740991 h (by omega)
  rw [show (9007199254740991 : Nat) = 2 ^ 53 - 1 by decide, Nat.and_two_pow_sub_one_eq_mod] at h1
  exact h1
/-- The other digits. -/
theorem top_xor {a : Nat} (ha : a < 9007199254740992) : a ^^^ 9007199254740991 = 9007199254740991 - a := by
  have h := land_lxor a 9007199254740991
  have h2 := land_lor a 9007199254740991
  have h3 : a &&& 9007199254740991 = a := by
    rw [show (9007199254740991 : Nat) = 2 ^ 53 - 1 by decide, Nat.and_two_pow_sub_one_eq_mod]
    exact Nat.mod_eq_of_lt ha
  omega

theorem fw_sign {m : Nat} (h : m < 9007199254740992) : (fw m / 9223372036854775808 % 2 == 1) = false := by
  have := fw_bd h
  exact sign_no (by omega)
theorem read_fw {m : Nat} (h : m < 9007199254740992) : Ieee.double.read (fw m) = .number false (manF (fw m)) (expF (fw m)) := by
  have := fw_bd h
  rw [read_fin (by rw [fw_mag h]; omega), fw_sign h, fw_mag h]
theorem expF_log {m : Nat} (h0 : 0 < m) (h : m < 9007199254740992) : expF (fw m) = (m.log2 : Int) - 52 := by
  obtain ⟨f1, f2⟩ := full_bd h0 h
  have hb := log2_le52 h0 h
  have e : fw m / 4503599627370496 = m.log2 + 1023 := by rw [fw_pos h0]; omega
  have e2 : ¬ fw m < 4503599627370496 := by rw [fw_pos h0]; omega
  rw [expF, if_neg e2, e]
  omega
theorem manF_log {m : Nat} (h0 : 0 < m) (h : m < 9007199254740992) : manF (fw m) = m * 2 ^ (52 - m.log2) := by
  obtain ⟨f1, f2⟩ := full_bd h0 h
  have e : fw m % 4503599627370496 = m * 2 ^ (52 - m.log2) - 4503599627370496 := by rw [fw_pos h0]; omega
  have e2 : ¬ fw m < 4503599627370496 := by rw [fw_pos h0]; omega
  rw [manF, if_neg e2, e]
  omega
/-- A state divided by 2^48. -/
def fd (s : Nat) : Nat := if s = 0 then 0 else fw s - 216172782113783808
theorem fd_pos {s : Nat} (h0 : 0 < s) (h : s < 281474976710656) : fd s = (s.log2 + 974) * 4503599627370496 + s * 2 ^ (52 - s.log2) ∧ s.log2 ≤ 47 := by
  have hl : s.log2 ≤ 47 := by
    have := (log2_bd h0).1
    have h3 : 2 ^ s.log2 < 2 ^ 48 := Nat.lt_of_le_of_lt this h
    have := (Nat.pow_lt_pow_iff_right (show 1 < 2 by omega)).1 h3
    omega
  refine ⟨?_, hl⟩
  rw [fd, if_neg (by omega), fw_pos h0]
  omega
theorem quo_fd {s : Nat} (h : s < 281474976710656) : floatBits .quo .f64 (fw s) 4823355200913801216 = some (fd s) := by
  rcases Nat.eq_zero_or_pos s with h0 | h0
  · subst h0; decide
  · obtain ⟨e, hl⟩ := fd_pos h0 h
    obtain ⟨f1, f2⟩ := full_bd h0 (by omega)
    show (((Ieee.double.read (fw s)).quotient 54 (Ieee.double.read 4823355200913801216)).map Ieee.double.write) = _
    rw [read_fw (by omega), show Ieee.double.read 4823355200913801216 = .number false 4503599627370496 (-4) by decide, manF_log h0 (by omega), expF_log h0 (by omega)]
    have hM : (s * 2 ^ (52 - s.log2)).log2 = 52 := log2_52 f1 f2
    have hN : (4503599627370496 : Nat).log2 = 52 := by decide
    show some (Ieee.double.nearest false (2 * (((s * 2 ^ (52 - s.log2)) <<< (54 + (4503599627370496 : Nat).log2 - (s * 2 ^ (52 - s.log2)).log2)) / 4503599627370496) + (((s * 2 ^ (52 - s.log2)) <<< (54 + (4503599627370496 : Nat).log2 - (s * 2 ^ (52 - s.log2)).log2)) % 4503599627370496 != 0).toNat) ((s.log2 : Int) - 52 - -4 - ((54 + (4503599627370496 : Nat).log2 - (s * 2 ^ (52 - s.log2)).log2 : Nat) : Int) - 1)) = _
    rw [hM, hN, Nat.shiftLeft_eq]
    obtain ⟨M, hMM⟩ : ∃ M, s * 2 ^ (52 - s.log2) = M := ⟨_, rfl⟩
    rw [hMM] at f1 f2 e ⊢
    have q1 : M * 2 ^ (54 + 52 - 52) = (M * 4) * 4503599627370496 := by
      rw [show (2 : Nat) ^ (54 + 52 - 52) = 4 * 4503599627370496 by decide, Nat.mul_assoc]
    rw [q1, Nat.mul_div_cancel _ (by omega), Nat.mul_mod_left]
    have hx := nearest_exact (m := M) (j := 3) (e := s.log2 + 974) (place := (s.log2 : Int) - 52 - -4 - ((54 + 52 - 52 : Nat) : Int) - 1) (by omega) f2 (by omega) (Or.inr f1)
    rw [show 2 * (M * 4) + ((0 : Nat) != 0).toNat = M * 2 ^ 3 by show 2 * (M * 4) + 0 = M * 8; omega, hx, e, Nat.min_eq_left (by omega)]
end Go.Proofs.Ytelhbkfhalpniaa

namespace Go.Proofs.Ytelhbkfhalpniaa
open Go.RowKit Go.Lib Go.Joins

/-- The state that a seed gives. -/
def seedN (x : Nat) : Nat := if 9218868437227405312 < mag x then 0 else (x ^^^ (x / 65536)) % 281474976710656
/-- The next state. -/
def stepN (s : Nat) : Nat := (s * 25214903917 + 11) % 281474976710656
theorem stepN_lt (s : Nat) : stepN s < 281474976710656 := by unfold stepN; omega
theorem seedN_nan {x : Nat} (h : nanB x = true) : seedN x = 0 := by
  unfold seedN
  split
  · rfl
  · next h1 => rw [nan_no (by omega)] at h; cases h
theorem seedN_num {x : Nat} (h : nanB x = false) : seedN x = (x ^^^ (x / 65536)) % 281474976710656 := by
  unfold seedN
  split
  · next h1 => rw [nan_yes h1] at h; cases h
  · rfl
set_option maxRecDepth 100000 in
set_option maxHeartbeats 1000000 in
theorem first_any_di (x : Nat) (w : World) (hx : x < 18446744073709551616) : Calls Try.prog 24 #[.float .f64 x] w fun e w' => e = .returned (.int .u64 (seedN x : Nat)) ∧ w = w' := by
  have CN := isNaN_any x w
  have hf := run_f64bits x w
  cases h : nanB x
  · rw [h] at CN
    have hs := seedN_num h
    have h1 := u64_xor_nat x (x / 65536) hx (by omega)
    have h2 : (x : Int) / 65536 = ((x / 65536 : Nat) : Int) := by omega
    have h3 : x ^^^ (x / 65536) < 18446744073709551616 := Nat.xor_lt_two_pow (n := 64) hx (by omega)
    obtain ⟨z, hz⟩ : ∃ z, x ^^^ (x / 65536) = z := ⟨_, rfl⟩
    obtain ⟨y, hy⟩ : ∃ y, x / 65536 = y := ⟨_, rfl⟩
    rw [hz] at hs h1 h3
    rw [hy] at h1 h2
    have hS := Lib.hid hs
    have CN := Lib.hid CN
    clear hs hz hy
    go_enter Try.func24, Try.ntmps24
    go_wp2_with fail
    refine CN.out.mono ?_
    rintro e w' ⟨rfl, rfl⟩
    go_wp2
    go_ret
    exact ⟨by rw [hS.out]; rfl, rfl⟩
  · rw [h] at CN
    rw [seedN_nan h]
    have CN := Lib.hid CN
    clear h
    go_enter Try.func24, Try.ntmps24
    go_wp2_with fail
    refine CN.out.mono ?_
    rintro e w' ⟨rfl, rfl⟩
    go_wp2
    go_ret
    exact ⟨rfl, rfl⟩
theorem run_store_float_di (a : Addr) (n : Nat) (m : Mode) (w : World) : (store a (.float .f64 n) m).run Try.prog w = stored Try.prog w a (.float .f64 n) m := run_store _ w a _ m rfl
/-- A dice in memory. -/
def diceO (x s : Nat) : Obj := .cells #[.float .f64 x, .int .u64 (s : Int)] 47 (0, 0)
/-- The dice at g has been turned: of what there was nothing else. -/
structure DTo (g : Nat) (w w' : World) (x s : Nat) : Prop where
  is : w'.heap[g]? = some (diceO x s)
  size : w'.heap.size = w.heap.size
  other : ∀ k, k ≠ g → w'.heap[k]? = w.heap[k]?
  below : ∀ n, n ≤ g → Below n w w'
theorem DTo.trans {g : Nat} {w v u : World} {x s y t : Nat} (h : DTo g w v x s) (k : DTo g v u y t) : DTo g w u y t :=
  ⟨k.is, k.size.trans h.size, fun n hn => (k.other n hn).trans (h.other n hn), fun n hn => (h.below n hn).trans (k.below n hn)⟩
theorem other_setCell {w : World} {g i k : Nat} {v : Value} (h : k ≠ g) : (w.setCell ⟨g, i, none⟩ v).heap[k]? = w.heap[k]? := by
  exact Below.heap_setCell _ _ _ _ h
theorem dto_one {g x s z : Nat} {w : World} (hd : w.heap[g]? = some (diceO x s)) : DTo g w (w.setCell ⟨g, 1, none⟩ (.int .u64 (z : Int))) x z :=
  ⟨block_setCell hd (i := 1) (.int .u64 (z : Int)), by simp, fun k hk => other_setCell hk, fun n hn => (Below.refl n w).setCell (p := ⟨g, 1, none⟩) hn _⟩
theorem dto_two {g x s y z : Nat} {w : World} (hd : w.heap[g]? = some (diceO x s)) : DTo g w ((w.setCell ⟨g, 0, none⟩ (.float .f64 y)).setCell ⟨g, 1, none⟩ (.int .u64 (z : Int))) y z :=
  ⟨block_setCell (block_setCell hd (i := 0) (.float .f64 y)) (i := 1) (.int .u64 (z : Int)), by simp, fun k hk => (other_setCell hk).trans (other_setCell hk), fun n hn => ((Below.refl n w).setCell (p := ⟨g, 0, none⟩) hn _).setCell (p := ⟨g, 1, none⟩) hn _⟩
theorem DTo.drew {g x s : Nat} {w v : World} (h : DTo g w v x s) : DTo g w v.drew x s :=
  ⟨h.is, h.size, h.other, fun n hn => (h.below n hn).drew⟩
set_option maxRecDepth 100000 in
set_option maxHeartbeats 1000000 in
theorem reseed_any (g x s y : Nat) (w : World) (hd : w.heap[g]? = some (diceO x s)) (hy : y < 18446744073709551616) : Calls Try.prog 13 #[.pointer (some ⟨g, 0, none⟩), .float .f64 y] w fun e w' => e = .returned (.tuple #[]) ∧ DTo g w w' y (seedN y) := by
  have CF := Lib.hid (fun (W : World) => first_any_di y W hy)
  have HD := Lib.hid (dto_two (y := y) (z := seedN y) hd)
  have c0 : w.cell? ⟨g, 0, none⟩ = some (.float .f64 x) := cell_of_block hd 0
  have c1 : w.cell? ⟨g, 1, none⟩ = some (.int .u64 (s : Int)) := cell_of_block hd 1
  have f0 := unfrozen_of_block hd 0
  have hst := run_store_float_di
  have f1 := unfrozen_of_block hd 1
  clear hd
  go_enter Try.func13, Try.ntmps13
  go_wp2_with fail
  refine (CF.out _).mono ?_
  rintro e w' ⟨rfl, rfl⟩
  go_wp2
  refine bodyPost_end (results_none rfl _ _ _) rfl ?_
  exact ⟨rfl, HD.out⟩
set_option maxRecDepth 100000 in
set_option maxHeartbeats 1000000 in
theorem next_any_di (g x s : Nat) (w : World) (hd : w.heap[g]? = some (diceO x s)) : Calls Try.prog 11 #[.pointer (some ⟨g, 0, none⟩)] w fun e w' => e = .returned (.float .f64 (fd (stepN s))) ∧ DTo g w w' x (stepN s) := by
  have c1 : w.cell? ⟨g, 1, none⟩ = some (.int .u64 (s : Int)) := cell_of_block hd 1
  have w1 : (IntKind.u64.wrap (IntKind.u64.wrap ((s : Int) * 25214903917) + 11)).tmod 281474976710656 = (stepN s : Nat) := by
    rw [IntKind.wrap_u64, IntKind.wrap_u64, Int.tmod_eq_emod_of_nonneg (by omega)]; unfold stepN; omega
  have hz := stepN_lt s
  have HD := Lib.hid (dto_one (z := stepN s) hd)
  obtain ⟨z, hzz⟩ : ∃ z, stepN s = z := ⟨_, rfl⟩
  rw [hzz] at w1 hz HD ⊢
  have hf : floatOfInt .f64 (z : Int) = fw z := float_nat (by omega)
  have hq : ∀ t W, (binOp .quo t (.float .f64 (fw z)) (.float .f64 4823355200913801216)).run Try.prog W = .ok (.float .f64 (fd z)) W := fun t W => run_float_arith W .quo t .f64 _ _ _ (quo_fd hz)
  have f1 := unfrozen_of_block hd 1
  clear hzz hd
  go_enter Try.func11, Try.ntmps11
  go_wp2
  go_ret
  exact ⟨rfl, HD.out⟩
set_option maxRecDepth 100000 in
set_option maxHeartbeats 1000000 in
theorem new_any_di (x : Nat) (w : World) (hx : x < 18446744073709551616) : Calls Try.prog 8 #[.float .f64 x] w fun e w' => e = .returned (.pointer (some ⟨w.heap.size, 0, none⟩)) ∧ w'.heap[w.heap.size]? = some (diceO x (seedN x)) ∧ w'.heap.size = w.heap.size + 1 ∧ Below w.heap.size w w' := by
  have hn : (w.alloc (.cells #[.float .f64 0, .int .u64 0] 47)).heap[w.heap.size]? = some (diceO 0 0) := heap_alloc_new w _
  have hs : (w.alloc (.cells #[.float .f64 0, .int .u64 0] 47)).heap.size = w.heap.size + 1 := Array.size_push _
  have hb := below_alloc1 w (.cells #[.float .f64 0, .int .u64 0] 47)
  have CR := reseed_any w.heap.size 0 0 x _ hn hx
  obtain ⟨g, hg⟩ : ∃ g, w.heap.size = g := ⟨_, rfl⟩
  have HG := Lib.hid hg
  rw [hg] at CR hb hs
  have CR := Lib.hid CR
  have HS := Lib.hid hs
  have HB := Lib.hid hb
  clear hn hg hs hb
  go_enter Try.func8, Try.ntmps8
  go_wp2_with fail
  rw [HG.out]
  refine CR.out.mono ?_
  rintro e w' ⟨rfl, hd⟩
  have h1 := hd.is
  have h2 : w'.heap.size = g + 1 := hd.size.trans HS.out
  have h3 := HB.out.trans (hd.below g (Nat.le_refl _))
  have H := Lib.hid (And.intro h1 (And.intro h2 h3))
  clear hd h1 h2 h3
  go_wp2_with fail
  go_ret
  rw [HG.out]
  exact ⟨rfl, H.out⟩
end Go.Proofs.Ytelhbkfhalpniaa

namespace Go.Proofs.Ytelhbkfhalpniaa
open Go.RowKit Go.Lib Go.Joins

theorem flo_val {b : Nat} (h : b < 9218868437227405312) : flo b = truncR b := by
  have h1 := trunc_val (b := b) (by omega) (by rw [mag_no h]; exact h)
  rw [mag_no h, show sgn b = 0 by unfold sgn; omega, Nat.zero_add] at h1
  rw [← h1]
  have hr := read_fin (b := b) (by rw [mag_no h]; exact h)
  rw [sign_no h, mag_no h] at hr
  show Ieee.double.write ((Ieee.double.read b).integral .down) = Ieee.double.write ((Ieee.double.read b).integral .zero)
  rw [hr]
  rfl
theorem floor_pos (b : Nat) (w : World) (h : b < 9218868437227405312) : Calls Try.prog 35 #[.float .f64 b] w fun e w' => e = .returned (.float .f64 (truncR b)) ∧ w = w' := by
  have hd : FloatKind.f64.decode b = .number (b / 9223372036854775808 % 2 == 1) (manF (mag b)) (expF (mag b)) := read_fin (by rw [mag_no h]; exact h)
  have h1 := floor_any b w (by rw [hd]; rfl)
  rw [flo_val h] at h1
  exact h1
theorem order_some {b : Nat} (h : b < 9218868437227405312) : FloatKind.f64.format.order b 0 = some .gt ∨ FloatKind.f64.format.order b 0 = some .eq := by
  show Ieee.double.order b 0 = some .gt ∨ Ieee.double.order b 0 = some .eq
  rw [order_V h (by omega)]
  rcases Nat.eq_zero_or_pos b with h0 | h0
  · subst h0; right; decide
  · left; rw [Int.compare_eq_gt.2 (by omega)]
theorem order_self_eq {b t : Nat} (h : b < 9218868437227405312) (ht : t < 9218868437227405312) : (FloatKind.f64.format.order b t == some .eq) = decide (b = t) := by
  show (Ieee.double.order b t == some .eq) = _
  rw [order_V h ht]
  rcases Nat.lt_trichotomy b t with h1 | h1 | h1
  · rw [Int.compare_eq_lt.2 (by omega), decide_eq_false (by omega)]; rfl
  · rw [Int.compare_eq_eq.2 (by omega), decide_eq_true h1]; rfl
  · rw [Int.compare_eq_gt.2 (by omega), decide_eq_false (by omega)]; rfl
/-- Below nought, or no number. -/
theorem order_bad {b : Nat} (hb : b < 18446744073709551616) (h : 9223372036854775808 < b) : FloatKind.f64.format.order b 0 = some .lt ∨ FloatKind.f64.format.order b 0 = none := by
  rcases Nat.lt_trichotomy b 18442240474082181120 with h1 | h1 | h1
  · left
    have := ord0_neg (r := b - 9223372036854775808) (by omega) (by omega)
    rwa [show 9223372036854775808 + (b - 9223372036854775808) = b by omega] at this
  · left; subst h1; decide
  · right
    show Ieee.double.order b 0 = none
    unfold Ieee.Format.order
    rw [read_nan (b := b) (by unfold mag; omega)]
    rfl
/-- Infinite, or no number. -/
theorem order_far' {b B : Nat} (h : 9218868437227405312 ≤ b) (h2 : b < 9223372036854775808) (hB : B < 9218868437227405312) : (FloatKind.f64.format.order b 0 = some .gt ∧ FloatKind.f64.format.order b B = some .gt) ∨ FloatKind.f64.format.order b 0 = none := by
  rcases (by omega : b = 9218868437227405312 ∨ 9218868437227405312 < b) with h1 | h1
  · left
    subst h1
    refine ⟨by decide, ?_⟩
    show Ieee.double.order 9218868437227405312 B = some .gt
    unfold Ieee.Format.order
    rw [read_fin (b := B) (by rw [mag_no hB]; exact hB), show Ieee.double.read 9218868437227405312 = .infinity false by decide]
    rfl
  · right
    show Ieee.double.order b 0 = none
    unfold Ieee.Format.order
    rw [read_nan (b := b) (by unfold mag; omega)]
    rfl
theorem isWh_zero : isWh 0 = true := (trunc_wh (by omega)).1 (by
  unfold truncR
  rw [if_neg (by decide)]
  rw [show manF 0 = 0 by rw [manF, if_pos (by decide)], Nat.zero_div]
  rfl)
/-- Is it a whole number from nought up to a bound? -/
def okW (b B : Nat) : Bool := decide (b ≤ B ∨ b = 9223372036854775808) && isWh (mag b)
theorem okW_far {b B : Nat} (h : B < b) (h2 : b ≠ 9223372036854775808) : okW b B = false := by
  unfold okW
  rw [decide_eq_false (by omega), Bool.false_and]
set_option maxRecDepth 100000 in
set_option maxHeartbeats 1000000 in
theorem isWhole_any (b B : Nat) (w : World) (hb : b < 18446744073709551616) (hB : B < 9218868437227405312) (hB0 : 0 < B) :
    Calls Try.prog 33 #[.float .f64 b, .float .f64 B] w fun e w' => e = .returned (.bool (okW b B)) ∧ w = w' := by
  by_cases h1 : b < 9218868437227405312
  · have o1 := order_some h1
    have CT := fun W => floor_pos b W h1
    have e1 := order_self_eq h1 (truncR_lt h1)
    have o2 : FloatKind.f64.format.order b B = some (compare (b : Int) (B : Int)) := order_V h1 hB
    have hw : decide (b = truncR b) = isWh b := by
      cases h : isWh b with
      | true => exact decide_eq_true ((trunc_wh h1).2 h).symm
      | false => exact decide_eq_false fun e => by rw [(trunc_wh h1).1 e.symm] at h; cases h
    rw [hw] at e1
    unfold okW
    rw [mag_no h1]
    obtain ⟨q, hq⟩ : ∃ q, isWh b = q := ⟨_, rfl⟩
    rw [hq] at e1 ⊢
    obtain ⟨T, hT⟩ : ∃ T, truncR b = T := ⟨_, rfl⟩
    rw [hT] at CT e1
    have CT := Lib.hid CT
    clear hT hq hw
    by_cases hl : b ≤ B
    · rw [decide_eq_true (Or.inl hl), Bool.true_and]
      have o3 : FloatKind.f64.format.order b B = some .lt ∨ FloatKind.f64.format.order b B = some .eq := by
        rcases (by omega : b < B ∨ b = B) with h | h
        · left; rw [o2, Int.compare_eq_lt.2 (by omega)]
        · right; rw [o2, Int.compare_eq_eq.2 (by omega)]
      clear o2 hl h1
      rcases o1 with o1 | o1 <;> rcases o3 with o3 | o3 <;> cases q <;>
        · go_enter Try.func33, Try.ntmps33
          go_wp2_with fail
          refine (CT.out _).mono ?_
          rintro e w' ⟨rfl, rfl⟩
          go_wp2_with fail
          go_ret
          exact ⟨rfl, rfl⟩
    · rw [decide_eq_false (by omega), Bool.false_and]
      rw [Int.compare_eq_gt.2 (by omega)] at o2
      clear hl h1
      rcases o1 with o1 | o1 <;>
        · go_enter Try.func33, Try.ntmps33
          go_wp2_with fail
          go_ret
          exact ⟨rfl, rfl⟩
  · by_cases h2 : b = 9223372036854775808
    · subst h2
      have o1 : FloatKind.f64.format.order 9223372036854775808 0 = some .eq := ord0_mz
      have o2 : FloatKind.f64.format.order 9223372036854775808 B = some .lt := ordmz_pos hB0 (by omega)
      have o3 : (FloatKind.f64.format.order 9223372036854775808 9223372036854775808 == some .eq) = true := by decide
      have CT := Lib.hid (fun W => floor_any 9223372036854775808 W (by decide))
      have hf : flo 9223372036854775808 = 9223372036854775808 := by decide
      rw [hf] at CT
      have hk : okW 9223372036854775808 B = true := by
        unfold okW
        rw [decide_eq_true (Or.inr rfl), Bool.true_and]
        exact isWh_zero
      rw [hk]
      clear h1 hk hf
      go_enter Try.func33, Try.ntmps33
      go_wp2_with fail
      refine (CT.out _).mono ?_
      rintro e w' ⟨rfl, rfl⟩
      go_wp2_with fail
      go_ret
      exact ⟨rfl, rfl⟩
    · rw [okW_far (by omega) h2]
      rcases Nat.lt_or_ge b 9223372036854775808 with h3 | h3
      · rcases order_far' (by omega) h3 hB with ⟨o1, o2⟩ | o1
        · clear h1 h2 h3
          go_enter Try.func33, Try.ntmps33
          go_wp2_with fail
          go_ret
          exact ⟨rfl, rfl⟩
        · clear h1 h2 h3
          go_enter Try.func33, Try.ntmps33
          go_wp2_with fail
          go_ret
          exact ⟨rfl, rfl⟩
      · rcases order_bad hb (by omega) with o1 | o1 <;>
          · clear h1 h2 h3
            go_enter Try.func33, Try.ntmps33
            go_wp2_with fail
            go_ret
            exact ⟨rfl, rfl⟩
/-- The bits' functions, by their closures. -/
theorem and_clo (a b : Nat) (w : World) (ha : a < 9007199254740992) (hb : b < 9007199254740992) : Calls Try.prog 26 #[.int .u64 (a : Int), .int .u64 (b : Int)] w fun e w' => e = .returned (.int .u64 ((a &&& b : Nat) : Int)) ∧ w = w' := by
  have h1 := u64_and_nat a b (by omega) (by omega)
  go_enter Try.func26, Try.ntmps26
  go_wp2
  go_ret
  exact ⟨rfl, rfl⟩
theorem or_clo (a b : Nat) (w : World) (ha : a < 9007199254740992) (hb : b < 9007199254740992) : Calls Try.prog 27 #[.int .u64 (a : Int), .int .u64 (b : Int)] w fun e w' => e = .returned (.int .u64 ((a ||| b : Nat) : Int)) ∧ w = w' := by
  have h1 := u64_or_nat a b (by omega) (by omega)
  go_enter Try.func27, Try.ntmps27
  go_wp2
  go_ret
  exact ⟨rfl, rfl⟩
theorem xor_clo (a b : Nat) (w : World) (ha : a < 9007199254740992) (hb : b < 9007199254740992) : Calls Try.prog 28 #[.int .u64 (a : Int), .int .u64 (b : Int)] w fun e w' => e = .returned (.int .u64 ((a ^^^ b : Nat) : Int)) ∧ w = w' := by
  have h1 := u64_xor_nat a b (by omega) (by omega)
  go_enter Try.func28, Try.ntmps28
  go_wp2
  go_ret
  exact ⟨rfl, rfl⟩
theorem left_clo (a b : Nat) (w : World) (_ha : a < 9007199254740992) (_hb : b ≤ 52) : Calls Try.prog 29 #[.int .u64 (a : Int), .int .u64 (b : Int)] w fun e w' => e = .returned (.int .u64 ((a * 2 ^ b % 18446744073709551616 : Nat) : Int)) ∧ w = w' := by
  have h1 : IntKind.u64.wrap ((a : Int) * 2 ^ b) = ((a * 2 ^ b % 18446744073709551616 : Nat) : Int) := by
    rw [IntKind.wrap_u64, Int.natCast_emod, Int.natCast_mul, Int.natCast_pow]; rfl
  go_enter Try.func29, Try.ntmps29
  go_wp2
  go_ret
  exact ⟨rfl, rfl⟩
set_option maxRecDepth 100000 in
theorem right_clo (a b : Nat) (w : World) (_ha : a < 9007199254740992) (_hb : b ≤ 52) : Calls Try.prog 30 #[.int .u64 (a : Int), .int .u64 (b : Int)] w fun e w' => e = .returned (.int .u64 ((a / 2 ^ b : Nat) : Int)) ∧ w = w' := by
  have h1 : (a : Int) / 2 ^ b = ((a / 2 ^ b : Nat) : Int) := by
    rw [Int.natCast_ediv, Int.natCast_pow]; rfl
  obtain ⟨z, hz⟩ : ∃ z : Nat, a / 2 ^ b = z := ⟨_, rfl⟩
  rw [hz] at h1 ⊢
  clear hz
  go_enter Try.func30, Try.ntmps30
  go_wp2
  go_ret
  exact ⟨rfl, rfl⟩
/-- The whole number that a float is. -/
theorem wh_of_V {r q : Nat} (h : V r = q * S1074) : whQ r = q ∧ isWh r = true := by
  have hS := S_pos
  have e : amN r = q * amD r := by
    refine Nat.eq_of_mul_eq_mul_right hS ?_
    rw [← V_am, h, Nat.mul_right_comm]
  have hd := amD_pos r
  unfold whQ isWh
  rw [e, Nat.mul_div_cancel _ hd, Nat.mul_mod_left]
  exact ⟨rfl, rfl⟩
theorem wh_fw {m : Nat} (h : m < 9007199254740992) : whQ (fw m) = m ∧ isWh (fw m) = true := wh_of_V (fw_V h)
def qW (b : Nat) : Nat := whQ (mag b)
theorem fw_top : fw 9007199254740991 = 4845873199050653695 := by decide +kernel
theorem fw_52 : fw 52 = 4632515166703976448 := by decide +kernel
theorem V_mono {r s : Nat} (h : r ≤ s) : V r ≤ V s := by
  rcases Nat.lt_or_ge r s with h1 | h1
  · exact Nat.le_of_lt (V_lt h1)
  · rw [show r = s by omega]; exact Nat.le_refl _
theorem okW_le {b Q : Nat} (hQ : Q < 9007199254740992) (h : okW b (fw Q) = true) : qW b ≤ Q ∧ (b < 9218868437227405312 ∨ b = 9223372036854775808) ∧ isWh (mag b) = true := by
  have hb := fw_bd hQ
  unfold okW at h
  obtain ⟨h1, h2⟩ := Bool.and_eq_true_iff.1 h
  have h1 := of_decide_eq_true h1
  refine ⟨?_, by omega, h2⟩
  have hm : mag b ≤ fw Q := by unfold mag; omega
  have h3 := V_mono hm
  rw [fw_V hQ] at h3
  exact Nat.le_of_mul_le_mul_right (Nat.le_trans (whQ_le _) h3) S_pos
theorem okW_fw {m Q : Nat} (hQ : Q < 9007199254740992) (h : m ≤ Q) : okW (fw m) (fw Q) = true ∧ qW (fw m) = m := by
  have hm : m < 9007199254740992 := by omega
  obtain ⟨a, b⟩ := wh_fw hm
  unfold okW qW
  rw [fw_mag hm, a, b]
  refine ⟨?_, rfl⟩
  rw [decide_eq_true, Bool.true_and]
  left
  rcases Nat.lt_or_ge (fw Q) (fw m) with h1 | h1
  · have h2 := V_lt h1
    rw [fw_V hm, fw_V hQ] at h2
    have := Nat.lt_of_mul_lt_mul_right h2
    omega
  · exact h1
theorem qW_u64 {b : Nat} (h : b < 9218868437227405312 ∨ b = 9223372036854775808) (hq : qW b < 9007199254740992) : floatToIntVal .f64 b .u64 = some (qW b : Int) := by
  rcases h with h | h
  · have h1 := uint_of_wh (r := b) h (by unfold qW at hq; rw [mag_no h] at hq; omega)
    unfold qW
    rw [mag_no h]
    exact h1
  · subst h
    have h0 : qW 9223372036854775808 = 0 := by
      have : mag 9223372036854775808 = fw 0 := by decide
      unfold qW
      rw [this]
      exact (wh_fw (by omega)).1
    rw [h0]
    decide +kernel
set_option maxRecDepth 100000 in
set_option maxHeartbeats 1000000 in
theorem join_no (x y Q : Nat) (f : Value) (w : World) (hx : x < 18446744073709551616) (hy : y < 18446744073709551616) (hQ : Q < 9007199254740992) (hQ0 : 0 < Q) (h : (okW x 4845873199050653695 && okW y (fw Q)) = false) :
    Calls Try.prog 25 #[.float .f64 x, .float .f64 y, .float .f64 (fw Q), f] w fun e w' => e = .returned (.tuple #[.float .f64 0, .int .i64 1]) ∧ w = w' := by
  have hb := fw_bd hQ
  have h0 : 0 < fw Q := by
    rcases Nat.eq_zero_or_pos (fw Q) with h | h
    · have := fw_V hQ
      rw [h] at this
      have h0 : V 0 = 0 := by decide
      rw [h0] at this
      have := Nat.mul_pos hQ0 S_pos
      omega
    · exact h
  have C1 := Lib.hid (isWhole_any x 4845873199050653695 w hx (by omega) (by omega))
  have C2 := Lib.hid (isWhole_any y (fw Q) w hy (by omega) h0)
  obtain ⟨B, hB⟩ : ∃ B, fw Q = B := ⟨_, rfl⟩
  rw [hB] at C2 h ⊢
  obtain ⟨p, hp⟩ : ∃ p, okW x 4845873199050653695 = p := ⟨_, rfl⟩
  obtain ⟨q, hq⟩ : ∃ q, okW y B = q := ⟨_, rfl⟩
  rw [hp] at C1 h
  rw [hq] at C2 h
  clear hp hq hB hb h0
  cases p
  · go_enter Try.func25, Try.ntmps25
    go_wp2_with fail
    refine C1.out.mono ?_
    rintro e w' ⟨rfl, rfl⟩
    go_wp2_with fail
    go_ret2
    exact ⟨rfl, rfl⟩
  · cases q
    · go_enter Try.func25, Try.ntmps25
      go_wp2_with fail
      refine C1.out.mono ?_
      rintro e w' ⟨rfl, rfl⟩
      go_wp2_with fail
      refine C2.out.mono ?_
      rintro e w' ⟨rfl, rfl⟩
      go_wp2_with fail
      go_ret2
      exact ⟨rfl, rfl⟩
    · cases h
set_option maxRecDepth 100000 in
set_option maxHeartbeats 1000000 in
theorem join_And (x y Q z : Nat) (w : World) (hx : x < 18446744073709551616) (hy : y < 18446744073709551616) (hQ : Q < 9007199254740992) (hQ0 : 0 < Q) (h1 : okW x 4845873199050653695 = true) (h2 : okW y (fw Q) = true) (hz : z < 18446744073709551616)
    (CF : ∀ W, Calls Try.prog 26 #[.int .u64 (qW x : Int), .int .u64 (qW y : Int)] W fun e w' => e = .returned (.int .u64 (z : Int)) ∧ W = w') :
    Calls Try.prog 25 #[.float .f64 x, .float .f64 y, .float .f64 (fw Q), .func (.func 26) #[] #[]] w fun e w' => e = .returned (.tuple #[.float .f64 (fw (z % 9007199254740992)), .int .i64 0]) ∧ w = w' := by
  have hb := fw_bd hQ
  have h0 : 0 < fw Q := by
    rcases Nat.eq_zero_or_pos (fw Q) with h | h
    · have := fw_V hQ
      rw [h] at this
      have h0 : V 0 = 0 := by decide
      rw [h0] at this
      have := Nat.mul_pos hQ0 S_pos
      omega
    · exact h
  have C1 := isWhole_any x 4845873199050653695 w hx (by omega) (by omega)
  have C2 := isWhole_any y (fw Q) w hy (by omega) h0
  rw [h1] at C1
  rw [h2] at C2
  rw [← fw_top] at h1
  obtain ⟨q1, x1, -⟩ := okW_le (by omega) h1
  obtain ⟨q2, x2, -⟩ := okW_le hQ h2
  have v1 := qW_u64 x1 (by omega)
  have v2 := qW_u64 x2 (by omega)
  have c1 : ∀ W, (convert 26 28 (.float .f64 x)).run Try.prog W = .ok (.int .u64 (qW x : Int)) W := fun W => run_convert_float_int W 26 28 .f64 .u64 _ _ (by rw [Try.underlying26]; rfl) Try.underlying28 v1
  have c2 : ∀ W, (convert 26 28 (.float .f64 y)).run Try.prog W = .ok (.int .u64 (qW y : Int)) W := fun W => run_convert_float_int W 26 28 .f64 .u64 _ _ (by rw [Try.underlying26]; rfl) Try.underlying28 v2
  have t1 := top_mod z hz
  have f1 : floatOfInt .f64 ((z % 9007199254740992 : Nat) : Int) = fw (z % 9007199254740992) := float_nat (by omega)
  obtain ⟨B, hB⟩ : ∃ B, fw Q = B := ⟨_, rfl⟩
  rw [hB] at C2 ⊢
  obtain ⟨m, hm⟩ : ∃ m, z % 9007199254740992 = m := ⟨_, rfl⟩
  rw [hm] at t1 f1 ⊢
  obtain ⟨a, ha⟩ : ∃ a, qW x = a := ⟨_, rfl⟩
  obtain ⟨b, hbb⟩ : ∃ b, qW y = b := ⟨_, rfl⟩
  rw [ha] at c1 CF
  rw [hbb] at c2 CF
  have C1 := Lib.hid C1
  have C2 := Lib.hid C2
  have CF := Lib.hid CF
  clear h1 h2 q1 x1 q2 x2 v1 v2 hB hb h0 hm ha hbb
  go_enter Try.func25, Try.ntmps25
  go_wp2_with fail
  refine C1.out.mono ?_
  rintro e w' ⟨rfl, rfl⟩
  go_wp2_with fail
  refine C2.out.mono ?_
  rintro e w' ⟨rfl, rfl⟩
  go_wp2_with fail
  refine (CF.out _).mono ?_
  rintro e w' ⟨rfl, rfl⟩
  go_wp2_with fail
  go_ret2
  exact ⟨rfl, rfl⟩
set_option maxRecDepth 100000 in
set_option maxHeartbeats 1000000 in
theorem join_Or (x y Q z : Nat) (w : World) (hx : x < 18446744073709551616) (hy : y < 18446744073709551616) (hQ : Q < 9007199254740992) (hQ0 : 0 < Q) (h1 : okW x 4845873199050653695 = true) (h2 : okW y (fw Q) = true) (hz : z < 18446744073709551616)
    (CF : ∀ W, Calls Try.prog 27 #[.int .u64 (qW x : Int), .int .u64 (qW y : Int)] W fun e w' => e = .returned (.int .u64 (z : Int)) ∧ W = w') :
    Calls Try.prog 25 #[.float .f64 x, .float .f64 y, .float .f64 (fw Q), .func (.func 27) #[] #[]] w fun e w' => e = .returned (.tuple #[.float .f64 (fw (z % 9007199254740992)), .int .i64 0]) ∧ w = w' := by
  have hb := fw_bd hQ
  have h0 : 0 < fw Q := by
    rcases Nat.eq_zero_or_pos (fw Q) with h | h
    · have := fw_V hQ
      rw [h] at this
      have h0 : V 0 = 0 := by decide
      rw [h0] at this
      have := Nat.mul_pos hQ0 S_pos
      omega
    · exact h
  have C1 := isWhole_any x 4845873199050653695 w hx (by omega) (by omega)
  have C2 := isWhole_any y (fw Q) w hy (by omega) h0
  rw [h1] at C1
  rw [h2] at C2
  rw [← fw_top] at h1
  obtain ⟨q1, x1, -⟩ := okW_le (by omega) h1
  obtain ⟨q2, x2, -⟩ := okW_le hQ h2
  have v1 := qW_u64 x1 (by omega)
  have v2 := qW_u64 x2 (by omega)
  have c1 : ∀ W, (convert 26 28 (.float .f64 x)).run Try.prog W = .ok (.int .u64 (qW x : Int)) W := fun W => run_convert_float_int W 26 28 .f64 .u64 _ _ (by rw [Try.underlying26]; rfl) Try.underlying28 v1
  have c2 : ∀ W, (convert 26 28 (.float .f64 y)).run Try.prog W = .ok (.int .u64 (qW y : Int)) W := fun W => run_convert_float_int W 26 28 .f64 .u64 _ _ (by rw [Try.underlying26]; rfl) Try.underlying28 v2
  have t1 := top_mod z hz
  have f1 : floatOfInt .f64 ((z % 9007199254740992 : Nat) : Int) = fw (z % 9007199254740992) := float_nat (by omega)
  obtain ⟨B, hB⟩ : ∃ B, fw Q = B := ⟨_, rfl⟩
  rw [hB] at C2 ⊢
  obtain ⟨m, hm⟩ : ∃ m, z % 9007199254740992 = m := ⟨_, rfl⟩
  rw [hm] at t1 f1 ⊢
  obtain ⟨a, ha⟩ : ∃ a, qW x = a := ⟨_, rfl⟩
  obtain ⟨b, hbb⟩ : ∃ b, qW y = b := ⟨_, rfl⟩
  rw [ha] at c1 CF
  rw [hbb] at c2 CF
  have C1 := Lib.hid C1
  have C2 := Lib.hid C2
  have CF := Lib.hid CF
  clear h1 h2 q1 x1 q2 x2 v1 v2 hB hb h0 hm ha hbb
  go_enter Try.func25, Try.ntmps25
  go_wp2_with fail
  refine C1.out.mono ?_
  rintro e w' ⟨rfl, rfl⟩
  go_wp2_with fail
  refine C2.out.mono ?_
  rintro e w' ⟨rfl, rfl⟩
  go_wp2_with fail
  refine (CF.out _).mono ?_
  rintro e w' ⟨rfl, rfl⟩
  go_wp2_with fail
  go_ret2
  exact ⟨rfl, rfl⟩
set_option maxRecDepth 100000 in
set_option maxHeartbeats 1000000 in
theorem join_Xor (x y Q z : Nat) (w : World) (hx : x < 18446744073709551616) (hy : y < 18446744073709551616) (hQ : Q < 9007199254740992) (hQ0 : 0 < Q) (h1 : okW x 4845873199050653695 = true) (h2 : okW y (fw Q) = true) (hz : z < 18446744073709551616)
    (CF : ∀ W, Calls Try.prog 28 #[.int .u64 (qW x : Int), .int .u64 (qW y : Int)] W fun e w' => e = .returned (.int .u64 (z : Int)) ∧ W = w') :
    Calls Try.prog 25 #[.float .f64 x, .float .f64 y, .float .f64 (fw Q), .func (.func 28) #[] #[]] w fun e w' => e = .returned (.tuple #[.float .f64 (fw (z % 9007199254740992)), .int .i64 0]) ∧ w = w' := by
  have hb := fw_bd hQ
  have h0 : 0 < fw Q := by
    rcases Nat.eq_zero_or_pos (fw Q) with h | h
    · have := fw_V hQ
      rw [h] at this
      have h0 : V 0 = 0 := by decide
      rw [h0] at this
      have := Nat.mul_pos hQ0 S_pos
      omega
    · exact h
  have C1 := isWhole_any x 4845873199050653695 w hx (by omega) (by omega)
  have C2 := isWhole_any y (fw Q) w hy (by omega) h0
  rw [h1] at C1
  rw [h2] at C2
  rw [← fw_top] at h1
  obtain ⟨q1, x1, -⟩ := okW_le (by omega) h1
  obtain ⟨q2, x2, -⟩ := okW_le hQ h2
  have v1 := qW_u64 x1 (by omega)
  have v2 := qW_u64 x2 (by omega)
  have c1 : ∀ W, (convert 26 28 (.float .f64 x)).run Try.prog W = .ok (.int .u64 (qW x : Int)) W := fun W => run_convert_float_int W 26 28 .f64 .u64 _ _ (by rw [Try.underlying26]; rfl) Try.underlying28 v1
  have c2 : ∀ W, (convert 26 28 (.float .f64 y)).run Try.prog W = .ok (.int .u64 (qW y : Int)) W := fun W => run_convert_float_int W 26 28 .f64 .u64 _ _ (by rw [Try.underlying26]; rfl) Try.underlying28 v2
  have t1 := top_mod z hz
  have f1 : floatOfInt .f64 ((z % 9007199254740992 : Nat) : Int) = fw (z % 9007199254740992) := float_nat (by omega)
  obtain ⟨B, hB⟩ : ∃ B, fw Q = B := ⟨_, rfl⟩
  rw [hB] at C2 ⊢
  obtain ⟨m, hm⟩ : ∃ m, z % 9007199254740992 = m := ⟨_, rfl⟩
  rw [hm] at t1 f1 ⊢
  obtain ⟨a, ha⟩ : ∃ a, qW x = a := ⟨_, rfl⟩
  obtain ⟨b, hbb⟩ : ∃ b, qW y = b := ⟨_, rfl⟩
  rw [ha] at c1 CF
  rw [hbb] at c2 CF
  have C1 := Lib.hid C1
  have C2 := Lib.hid C2
  have CF := Lib.hid CF
  clear h1 h2 q1 x1 q2 x2 v1 v2 hB hb h0 hm ha hbb
  go_enter Try.func25, Try.ntmps25
  go_wp2_with fail
  refine C1.out.mono ?_
  rintro e w' ⟨rfl, rfl⟩
  go_wp2_with fail
  refine C2.out.mono ?_
  rintro e w' ⟨rfl, rfl⟩
  go_wp2_with fail
  refine (CF.out _).mono ?_
  rintro e w' ⟨rfl, rfl⟩
  go_wp2_with fail
  go_ret2
  exact ⟨rfl, rfl⟩
set_option maxRecDepth 100000 in
set_option maxHeartbeats 1000000 in
theorem join_Left (x y Q z : Nat) (w : World) (hx : x < 18446744073709551616) (hy : y < 18446744073709551616) (hQ : Q < 9007199254740992) (hQ0 : 0 < Q) (h1 : okW x 4845873199050653695 = true) (h2 : okW y (fw Q) = true) (hz : z < 18446744073709551616)
    (CF : ∀ W, Calls Try.prog 29 #[.int .u64 (qW x : Int), .int .u64 (qW y : Int)] W fun e w' => e = .returned (.int .u64 (z : Int)) ∧ W = w') :
    Calls Try.prog 25 #[.float .f64 x, .float .f64 y, .float .f64 (fw Q), .func (.func 29) #[] #[]] w fun e w' => e = .returned (.tuple #[.float .f64 (fw (z % 9007199254740992)), .int .i64 0]) ∧ w = w' := by
  have hb := fw_bd hQ
  have h0 : 0 < fw Q := by
    rcases Nat.eq_zero_or_pos (fw Q) with h | h
    · have := fw_V hQ
      rw [h] at this
      have h0 : V 0 = 0 := by decide
      rw [h0] at this
      have := Nat.mul_pos hQ0 S_pos
      omega
    · exact h
  have C1 := isWhole_any x 4845873199050653695 w hx (by omega) (by omega)
  have C2 := isWhole_any y (fw Q) w hy (by omega) h0
  rw [h1] at C1
  rw [h2] at C2
  rw [← fw_top] at h1
  obtain ⟨q1, x1, -⟩ := okW_le (by omega) h1
  obtain ⟨q2, x2, -⟩ := okW_le hQ h2
  have v1 := qW_u64 x1 (by omega)
  have v2 := qW_u64 x2 (by omega)
  have c1 : ∀ W, (convert 26 28 (.float .f64 x)).run Try.prog W = .ok (.int .u64 (qW x : Int)) W := fun W => run_convert_float_int W 26 28 .f64 .u64 _ _ (by rw [Try.underlying26]; rfl) Try.underlying28 v1
  have c2 : ∀ W, (convert 26 28 (.float .f64 y)).run Try.prog W = .ok (.int .u64 (qW y : Int)) W := fun W => run_convert_float_int W 26 28 .f64 .u64 _ _ (by rw [Try.underlying26]; rfl) Try.underlying28 v2
  have t1 := top_mod z hz
  have f1 : floatOfInt .f64 ((z % 9007199254740992 : Nat) : Int) = fw (z % 9007199254740992) := float_nat (by omega)
  obtain ⟨B, hB⟩ : ∃ B, fw Q = B := ⟨_, rfl⟩
  rw [hB] at C2 ⊢
  obtain ⟨m, hm⟩ : ∃ m, z % 9007199254740992 = m := ⟨_, rfl⟩
  rw [hm] at t1 f1 ⊢
  obtain ⟨a, ha⟩ : ∃ a, qW x = a := ⟨_, rfl⟩
  obtain ⟨b, hbb⟩ : ∃ b, qW y = b := ⟨_, rfl⟩
  rw [ha] at c1 CF
  rw [hbb] at c2 CF
  have C1 := Lib.hid C1
  have C2 := Lib.hid C2
  have CF := Lib.hid CF
  clear h1 h2 q1 x1 q2 x2 v1 v2 hB hb h0 hm ha hbb
  go_enter Try.func25, Try.ntmps25
  go_wp2_with fail
  refine C1.out.mono ?_
  rintro e w' ⟨rfl, rfl⟩
  go_wp2_with fail
  refine C2.out.mono ?_
  rintro e w' ⟨rfl, rfl⟩
  go_wp2_with fail
  refine (CF.out _).mono ?_
  rintro e w' ⟨rfl, rfl⟩
  go_wp2_with fail
  go_ret2
  exact ⟨rfl, rfl⟩
set_option maxRecDepth 100000 in
set_option maxHeartbeats 1000000 in
theorem join_Right (x y Q z : Nat) (w : World) (hx : x < 18446744073709551616) (hy : y < 18446744073709551616) (hQ : Q < 9007199254740992) (hQ0 : 0 < Q) (h1 : okW x 4845873199050653695 = true) (h2 : okW y (fw Q) = true) (hz : z < 18446744073709551616)
    (CF : ∀ W, Calls Try.prog 30 #[.int .u64 (qW x : Int), .int .u64 (qW y : Int)] W fun e w' => e = .returned (.int .u64 (z : Int)) ∧ W = w') :
    Calls Try.prog 25 #[.float .f64 x, .float .f64 y, .float .f64 (fw Q), .func (.func 30) #[] #[]] w fun e w' => e = .returned (.tuple #[.float .f64 (fw (z % 9007199254740992)), .int .i64 0]) ∧ w = w' := by
  have hb := fw_bd hQ
  have h0 : 0 < fw Q := by
    rcases Nat.eq_zero_or_pos (fw Q) with h | h
    · have := fw_V hQ
      rw [h] at this
      have h0 : V 0 = 0 := by decide
      rw [h0] at this
      have := Nat.mul_pos hQ0 S_pos
      omega
    · exact h
  have C1 := isWhole_any x 4845873199050653695 w hx (by omega) (by omega)
  have C2 := isWhole_any y (fw Q) w hy (by omega) h0
  rw [h1] at C1
  rw [h2] at C2
  rw [← fw_top] at h1
  obtain ⟨q1, x1, -⟩ := okW_le (by omega) h1
  obtain ⟨q2, x2, -⟩ := okW_le hQ h2
  have v1 := qW_u64 x1 (by omega)
  have v2 := qW_u64 x2 (by omega)
  have c1 : ∀ W, (convert 26 28 (.float .f64 x)).run Try.prog W = .ok (.int .u64 (qW x : Int)) W := fun W => run_convert_float_int W 26 28 .f64 .u64 _ _ (by rw [Try.underlying26]; rfl) Try.underlying28 v1
  have c2 : ∀ W, (convert 26 28 (.float .f64 y)).run Try.prog W = .ok (.int .u64 (qW y : Int)) W := fun W => run_convert_float_int W 26 28 .f64 .u64 _ _ (by rw [Try.underlying26]; rfl) Try.underlying28 v2
  have t1 := top_mod z hz
  have f1 : floatOfInt .f64 ((z % 9007199254740992 : Nat) : Int) = fw (z % 9007199254740992) := float_nat (by omega)
  obtain ⟨B, hB⟩ : ∃ B, fw Q = B := ⟨_, rfl⟩
  rw [hB] at C2 ⊢
  obtain ⟨m, hm⟩ : ∃ m, z % 9007199254740992 = m := ⟨_, rfl⟩
  rw [hm] at t1 f1 ⊢
  obtain ⟨a, ha⟩ : ∃ a, qW x = a := ⟨_, rfl⟩
  obtain ⟨b, hbb⟩ : ∃ b, qW y = b := ⟨_, rfl⟩
  rw [ha] at c1 CF
  rw [hbb] at c2 CF
  have C1 := Lib.hid C1
  have C2 := Lib.hid C2
  have CF := Lib.hid CF
  clear h1 h2 q1 x1 q2 x2 v1 v2 hB hb h0 hm ha hbb
  go_enter Try.func25, Try.ntmps25
  go_wp2_with fail
  refine C1.out.mono ?_
  rintro e w' ⟨rfl, rfl⟩
  go_wp2_with fail
  refine C2.out.mono ?_
  rintro e w' ⟨rfl, rfl⟩
  go_wp2_with fail
  refine (CF.out _).mono ?_
  rintro e w' ⟨rfl, rfl⟩
  go_wp2_with fail
  go_ret2
  exact ⟨rfl, rfl⟩
theorem and_yes (x y : Nat) (w : World) (hx : x < 18446744073709551616) (hy : y < 18446744073709551616) (h1 : okW x 4845873199050653695 = true) (h2 : okW y 4845873199050653695 = true) :
    Calls Try.prog 16 #[.float .f64 x, .float .f64 y] w fun e w' => e = .returned (.tuple #[.float .f64 (fw (qW x &&& qW y)), .int .i64 0]) ∧ w = w' := by
  have q1 := (okW_le (b := x) (Q := 9007199254740991) (by omega) (by rw [fw_top]; exact h1)).1
  have q2 := (okW_le (b := y) (Q := 9007199254740991) (by omega) (by rw [fw_top]; exact h2)).1
  have hz : qW x &&& qW y < 9007199254740992 := land_lt (by omega)
  have CJ := Lib.hid (join_And x y 9007199254740991 (qW x &&& qW y) w hx hy (by omega) (by omega) h1 (by rw [fw_top]; exact h2) (by omega) (fun W => and_clo (qW x) (qW y) W (by omega) (by omega)))
  rw [Nat.mod_eq_of_lt hz, fw_top] at CJ
  obtain ⟨m, hm⟩ : ∃ m, fw (qW x &&& qW y) = m := ⟨_, rfl⟩
  rw [hm] at CJ ⊢
  clear q1 q2 h1 h2 hm hz
  go_enter Try.func16, Try.ntmps16
  go_wp2_with fail
  refine CJ.out.mono ?_
  rintro e w' ⟨rfl, rfl⟩
  go_wp2_with fail
  go_ret2
  exact ⟨rfl, rfl⟩
theorem and_no (x y : Nat) (w : World) (hx : x < 18446744073709551616) (hy : y < 18446744073709551616) (h : (okW x 4845873199050653695 && okW y 4845873199050653695) = false) :
    Calls Try.prog 16 #[.float .f64 x, .float .f64 y] w fun e w' => e = .returned (.tuple #[.float .f64 0, .int .i64 1]) ∧ w = w' := by
  have CJ := Lib.hid (join_no x y 9007199254740991 (.func (.func 26) #[] #[]) w hx hy (by omega) (by omega) (by rw [fw_top]; exact h))
  rw [fw_top] at CJ
  clear h
  go_enter Try.func16, Try.ntmps16
  go_wp2_with fail
  refine CJ.out.mono ?_
  rintro e w' ⟨rfl, rfl⟩
  go_wp2_with fail
  go_ret2
  exact ⟨rfl, rfl⟩
theorem or_yes (x y : Nat) (w : World) (hx : x < 18446744073709551616) (hy : y < 18446744073709551616) (h1 : okW x 4845873199050653695 = true) (h2 : okW y 4845873199050653695 = true) :
    Calls Try.prog 17 #[.float .f64 x, .float .f64 y] w fun e w' => e = .returned (.tuple #[.float .f64 (fw (qW x ||| qW y)), .int .i64 0]) ∧ w = w' := by
  have q1 := (okW_le (b := x) (Q := 9007199254740991) (by omega) (by rw [fw_top]; exact h1)).1
  have q2 := (okW_le (b := y) (Q := 9007199254740991) (by omega) (by rw [fw_top]; exact h2)).1
  have hz : qW x ||| qW y < 9007199254740992 := lor_lt (by omega) (by omega)
  have CJ := Lib.hid (join_Or x y 9007199254740991 (qW x ||| qW y) w hx hy (by omega) (by omega) h1 (by rw [fw_top]; exact h2) (by omega) (fun W => or_clo (qW x) (qW y) W (by omega) (by omega)))
  rw [Nat.mod_eq_of_lt hz, fw_top] at CJ
  obtain ⟨m, hm⟩ : ∃ m, fw (qW x ||| qW y) = m := ⟨_, rfl⟩
  rw [hm] at CJ ⊢
  clear q1 q2 h1 h2 hm hz
  go_enter Try.func17, Try.ntmps17
  go_wp2_with fail
  refine CJ.out.mono ?_
  rintro e w' ⟨rfl, rfl⟩
  go_wp2_with fail
  go_ret2
  exact ⟨rfl, rfl⟩
theorem or_no (x y : Nat) (w : World) (hx : x < 18446744073709551616) (hy : y < 18446744073709551616) (h : (okW x 4845873199050653695 && okW y 4845873199050653695) = false) :
    Calls Try.prog 17 #[.float .f64 x, .float .f64 y] w fun e w' => e = .returned (.tuple #[.float .f64 0, .int .i64 1]) ∧ w = w' := by
  have CJ := Lib.hid (join_no x y 9007199254740991 (.func (.func 27) #[] #[]) w hx hy (by omega) (by omega) (by rw [fw_top]; exact h))
  rw [fw_top] at CJ
  clear h
  go_enter Try.func17, Try.ntmps17
  go_wp2_with fail
  refine CJ.out.mono ?_
  rintro e w' ⟨rfl, rfl⟩
  go_wp2_with fail
  go_ret2
  exact ⟨rfl, rfl⟩
theorem xor_yes (x y : Nat) (w : World) (hx : x < 18446744073709551616) (hy : y < 18446744073709551616) (h1 : okW x 4845873199050653695 = true) (h2 : okW y 4845873199050653695 = true) :
    Calls Try.prog 18 #[.float .f64 x, .float .f64 y] w fun e w' => e = .returned (.tuple #[.float .f64 (fw (qW x ^^^ qW y)), .int .i64 0]) ∧ w = w' := by
  have q1 := (okW_le (b := x) (Q := 9007199254740991) (by omega) (by rw [fw_top]; exact h1)).1
  have q2 := (okW_le (b := y) (Q := 9007199254740991) (by omega) (by rw [fw_top]; exact h2)).1
  have hz : qW x ^^^ qW y < 9007199254740992 := lxor_lt (by omega) (by omega)
  have CJ := Lib.hid (join_Xor x y 9007199254740991 (qW x ^^^ qW y) w hx hy (by omega) (by omega) h1 (by rw [fw_top]; exact h2) (by omega) (fun W => xor_clo (qW x) (qW y) W (by omega) (by omega)))
  rw [Nat.mod_eq_of_lt hz, fw_top] at CJ
  obtain ⟨m, hm⟩ : ∃ m, fw (qW x ^^^ qW y) = m := ⟨_, rfl⟩
  rw [hm] at CJ ⊢
  clear q1 q2 h1 h2 hm hz
  go_enter Try.func18, Try.ntmps18
  go_wp2_with fail
  refine CJ.out.mono ?_
  rintro e w' ⟨rfl, rfl⟩
  go_wp2_with fail
  go_ret2
  exact ⟨rfl, rfl⟩
theorem xor_no (x y : Nat) (w : World) (hx : x < 18446744073709551616) (hy : y < 18446744073709551616) (h : (okW x 4845873199050653695 && okW y 4845873199050653695) = false) :
    Calls Try.prog 18 #[.float .f64 x, .float .f64 y] w fun e w' => e = .returned (.tuple #[.float .f64 0, .int .i64 1]) ∧ w = w' := by
  have CJ := Lib.hid (join_no x y 9007199254740991 (.func (.func 28) #[] #[]) w hx hy (by omega) (by omega) (by rw [fw_top]; exact h))
  rw [fw_top] at CJ
  clear h
  go_enter Try.func18, Try.ntmps18
  go_wp2_with fail
  refine CJ.out.mono ?_
  rintro e w' ⟨rfl, rfl⟩
  go_wp2_with fail
  go_ret2
  exact ⟨rfl, rfl⟩
theorem left_yes (x y : Nat) (w : World) (hx : x < 18446744073709551616) (hy : y < 18446744073709551616) (h1 : okW x 4845873199050653695 = true) (h2 : okW y 4632515166703976448 = true) :
    Calls Try.prog 19 #[.float .f64 x, .float .f64 y] w fun e w' => e = .returned (.tuple #[.float .f64 (fw (qW x * 2 ^ qW y % 9007199254740992)), .int .i64 0]) ∧ w = w' := by
  have q1 := (okW_le (b := x) (Q := 9007199254740991) (by omega) (by rw [fw_top]; exact h1)).1
  have q2 := (okW_le (b := y) (Q := 52) (by omega) (by rw [fw_52]; exact h2)).1
  have CJ := Lib.hid (join_Left x y 52 (qW x * 2 ^ qW y % 18446744073709551616) w hx hy (by omega) (by omega) h1 (by rw [fw_52]; exact h2) (Nat.mod_lt _ (by omega)) (fun W => left_clo (qW x) (qW y) W (by omega) (by omega)))
  rw [Nat.mod_mod_of_dvd _ (by decide), fw_52] at CJ
  obtain ⟨m, hm⟩ : ∃ m, fw (qW x * 2 ^ qW y % 9007199254740992) = m := ⟨_, rfl⟩
  rw [hm] at CJ ⊢
  clear q1 q2 h1 h2 hm
  go_enter Try.func19, Try.ntmps19
  go_wp2_with fail
  refine CJ.out.mono ?_
  rintro e w' ⟨rfl, rfl⟩
  go_wp2_with fail
  go_ret2
  exact ⟨rfl, rfl⟩
theorem left_no (x y : Nat) (w : World) (hx : x < 18446744073709551616) (hy : y < 18446744073709551616) (h : (okW x 4845873199050653695 && okW y 4632515166703976448) = false) :
    Calls Try.prog 19 #[.float .f64 x, .float .f64 y] w fun e w' => e = .returned (.tuple #[.float .f64 0, .int .i64 1]) ∧ w = w' := by
  have CJ := Lib.hid (join_no x y 52 (.func (.func 29) #[] #[]) w hx hy (by omega) (by omega) (by rw [fw_52]; exact h))
  rw [fw_52] at CJ
  clear h
  go_enter Try.func19, Try.ntmps19
  go_wp2_with fail
  refine CJ.out.mono ?_
  rintro e w' ⟨rfl, rfl⟩
  go_wp2_with fail
  go_ret2
  exact ⟨rfl, rfl⟩
theorem right_yes (x y : Nat) (w : World) (hx : x < 18446744073709551616) (hy : y < 18446744073709551616) (h1 : okW x 4845873199050653695 = true) (h2 : okW y 4632515166703976448 = true) :
    Calls Try.prog 20 #[.float .f64 x, .float .f64 y] w fun e w' => e = .returned (.tuple #[.float .f64 (fw (qW x / 2 ^ qW y)), .int .i64 0]) ∧ w = w' := by
  have q1 := (okW_le (b := x) (Q := 9007199254740991) (by omega) (by rw [fw_top]; exact h1)).1
  have q2 := (okW_le (b := y) (Q := 52) (by omega) (by rw [fw_52]; exact h2)).1
  have hz : qW x / 2 ^ qW y < 9007199254740992 := Nat.lt_of_le_of_lt (Nat.div_le_self _ _) (by omega)
  have CJ := Lib.hid (join_Right x y 52 (qW x / 2 ^ qW y) w hx hy (by omega) (by omega) h1 (by rw [fw_52]; exact h2) (by omega) (fun W => right_clo (qW x) (qW y) W (by omega) (by omega)))
  rw [Nat.mod_eq_of_lt hz, fw_52] at CJ
  obtain ⟨m, hm⟩ : ∃ m, fw (qW x / 2 ^ qW y) = m := ⟨_, rfl⟩
  rw [hm] at CJ ⊢
  clear q1 q2 h1 h2 hm hz
  go_enter Try.func20, Try.ntmps20
  go_wp2_with fail
  refine CJ.out.mono ?_
  rintro e w' ⟨rfl, rfl⟩
  go_wp2_with fail
  go_ret2
  exact ⟨rfl, rfl⟩
theorem right_no (x y : Nat) (w : World) (hx : x < 18446744073709551616) (hy : y < 18446744073709551616) (h : (okW x 4845873199050653695 && okW y 4632515166703976448) = false) :
    Calls Try.prog 20 #[.float .f64 x, .float .f64 y] w fun e w' => e = .returned (.tuple #[.float .f64 0, .int .i64 1]) ∧ w = w' := by
  have CJ := Lib.hid (join_no x y 52 (.func (.func 30) #[] #[]) w hx hy (by omega) (by omega) (by rw [fw_52]; exact h))
  rw [fw_52] at CJ
  clear h
  go_enter Try.func20, Try.ntmps20
  go_wp2_with fail
  refine CJ.out.mono ?_
  rintro e w' ⟨rfl, rfl⟩
  go_wp2_with fail
  go_ret2
  exact ⟨rfl, rfl⟩
theorem top_ok : okW 4845873199050653695 4845873199050653695 = true ∧ qW 4845873199050653695 = 9007199254740991 := by
  have h := okW_fw (m := 9007199254740991) (Q := 9007199254740991) (by omega) (by omega)
  rw [fw_top] at h
  exact h
theorem not_yes (x : Nat) (w : World) (hx : x < 18446744073709551616) (h1 : okW x 4845873199050653695 = true) :
    Calls Try.prog 21 #[.float .f64 x] w fun e w' => e = .returned (.tuple #[.float .f64 (fw (9007199254740991 - qW x)), .int .i64 0]) ∧ w = w' := by
  have q1 := (okW_le (b := x) (Q := 9007199254740991) (by omega) (by rw [fw_top]; exact h1)).1
  have CJ := Lib.hid (xor_yes x 4845873199050653695 w hx (by omega) h1 top_ok.1)
  rw [top_ok.2, top_xor (by omega)] at CJ
  obtain ⟨m, hm⟩ : ∃ m, fw (9007199254740991 - qW x) = m := ⟨_, rfl⟩
  rw [hm] at CJ ⊢
  clear q1 h1 hm
  go_enter Try.func21, Try.ntmps21
  go_wp2_with fail
  refine CJ.out.mono ?_
  rintro e w' ⟨rfl, rfl⟩
  go_wp2_with fail
  go_ret2
  exact ⟨rfl, rfl⟩
theorem not_no (x : Nat) (w : World) (hx : x < 18446744073709551616) (h1 : okW x 4845873199050653695 = false) :
    Calls Try.prog 21 #[.float .f64 x] w fun e w' => e = .returned (.tuple #[.float .f64 0, .int .i64 1]) ∧ w = w' := by
  have CJ := Lib.hid (xor_no x 4845873199050653695 w hx (by omega) (by rw [h1]; rfl))
  clear h1
  go_enter Try.func21, Try.ntmps21
  go_wp2_with fail
  refine CJ.out.mono ?_
  rintro e w' ⟨rfl, rfl⟩
  go_wp2_with fail
  go_ret2
  exact ⟨rfl, rfl⟩
end Go.Proofs.Ytelhbkfhalpniaa

namespace Go.Proofs.Ytelhbkfhalpniaa
open Go.RowKit Go.Lib Go.Joins

theorem di_f12 : fw 12 = 4622945017495814144 := by decide +kernel
theorem di_f10 : fw 10 = 4621819117588971520 := by decide +kernel
theorem di_f6 : fw 6 = 4618441417868443648 := by decide +kernel
theorem di_d1 : fd (stepN (seedN 0)) = 4406209285428609024 := by decide +kernel
theorem di_d2 : fd (stepN (stepN (seedN 0))) = 4562187153742659584 := by decide +kernel
theorem di_xor (w : World) : Calls Try.prog 18 #[.float .f64 4622945017495814144, .float .f64 4621819117588971520] w fun e w' => e = .returned (.tuple #[.float .f64 4618441417868443648, .int .i64 0]) ∧ w = w' := by
  have h1 := okW_fw (m := 12) (Q := 9007199254740991) (by omega) (by omega)
  have h2 := okW_fw (m := 10) (Q := 9007199254740991) (by omega) (by omega)
  rw [di_f12, fw_top] at h1
  rw [di_f10, fw_top] at h2
  have h := xor_yes _ _ w (by omega) (by omega) h1.1 h2.1
  rw [h1.2, h2.2, show 12 ^^^ 10 = 6 by decide, di_f6] at h
  exact h
set_option maxRecDepth 100000 in
set_option maxHeartbeats 1000000 in
theorem dfixed_any (w : World) : Calls Try.prog 7 #[] w fun e w' => e = .returned (.bool true) ∧ Below w.heap.size w w' := by
  have CN := Lib.hid (new_any_di 0 w (by omega))
  have CT := Lib.hid (fun (W : World) (x s : Nat) (hd : W.heap[w.heap.size]? = some (diceO x s)) => next_any_di w.heap.size x s W hd)
  obtain ⟨g, hg⟩ : ∃ g, w.heap.size = g := ⟨_, rfl⟩
  rw [hg] at CN CT ⊢
  have CX := Lib.hid di_xor
  have o1 : (FloatKind.f64.format.order 4406209285428609024 4406209285428609024 == some .eq) = true := by decide +kernel
  have o2 : (FloatKind.f64.format.order 4562187153742659584 4562187153742659584 == some .eq) = true := by decide +kernel
  have o3 : (FloatKind.f64.format.order 4618441417868443648 4618441417868443648 == some .eq) = true := by decide +kernel
  clear hg
  go_enter Try.func7, Try.ntmps7
  go_wp2_with fail
  refine CN.out.mono ?_
  rintro e w1 ⟨rfl, hd, hs, hB⟩
  have HB := Lib.hid hB
  clear hs hB
  go_wp2_with fail
  refine (CT.out _ _ _ hd).mono ?_
  rintro e w2 ⟨rfl, h2⟩
  rw [di_d1]
  have HB := Lib.hid (HB.out.trans (h2.below g (Nat.le_refl _)))
  have hd2 := h2.is
  clear hd h2
  go_wp2_with fail
  refine (CT.out _ _ _ hd2).mono ?_
  rintro e w3 ⟨rfl, h2⟩
  rw [di_d2]
  have HB := Lib.hid (HB.out.trans (h2.below g (Nat.le_refl _)))
  clear hd2 h2
  go_wp2_with fail
  refine (CX.out _).mono ?_
  rintro e w' ⟨rfl, rfl⟩
  go_wp2_with fail
  go_ret
  exact ⟨rfl, HB.out⟩
end Go.Proofs.Ytelhbkfhalpniaa

namespace Go.Proofs.Ytelhbkfhalpniaa
open Go.RowKit Go.Lib Go.Joins

set_option maxRecDepth 100000 in
set_option maxHeartbeats 1000000 in
theorem dsame_any (x : Nat) (w : World) : Calls Try.prog 14 #[.float .f64 x, .float .f64 x] w fun e w' => e = .returned (.bool true) ∧ w = w' := by
  have b1 := fun W => run_f64bits x W
  cases h : nanB x
  · have t1 : (FloatKind.f64.format.order x x != some .eq) = false := h
    clear h
    go_enter Try.func14, Try.ntmps14
    go_wp2
    go_ret
    exact ⟨rfl, rfl⟩
  · have t1 : (FloatKind.f64.format.order x x != some .eq) = true := h
    clear h
    go_enter Try.func14, Try.ntmps14
    go_wp2
    go_ret
    exact ⟨rfl, rfl⟩
end Go.Proofs.Ytelhbkfhalpniaa

namespace Go.Proofs.Ytelhbkfhalpniaa
open Go.RowKit Go.Lib

/-- The unit of a piece. -/
abbrev D4 : Nat := 10000
theorem lim4 {l : List Nat} (h : Lim D4 l) (k : Nat) (hk : k < l.length) : ∃ x, l[k] = x ∧ x < 10000 := ⟨_, rfl, lim_get h k hk⟩

set_option maxRecDepth 100000 in
set_option maxHeartbeats 1000000 in
theorem rtrim_any (A : Option Addr) (cap : Nat) (xs : List Nat) (w : World) (hx : Lim D4 xs) (_hxn : xs.length ≤ 10000000000000) (hcap : xs.length ≤ cap) (hcm : cap ≤ maxLen) (hr : Rd .i64 w A xs) :
    Calls Try.prog 48 #[.slice A xs.length cap] w fun e w' => (∃ m : Nat, m ≤ xs.length ∧ dig D4 (vl D4 xs) = xs.take m ∧ e = .returned (.slice A m cap)) ∧ w = w' := by
  unfold maxLen at hcm
  go_enter Try.func48, Try.ntmps48
  go_wp2
  go_loop [0] (fun v => ∃ k : Nat, k ≤ xs.length ∧ v = .slice A k cap ∧ ∀ j (_ : k ≤ j) (hj : j < xs.length), xs[j] = 0) (fun v => lenOf v)
  case atStart => exact ⟨xs.length, Nat.le_refl _, rfl, fun j _ _ => by omega⟩
  case round =>
    obtain ⟨k, hk, rfl, h0⟩ := hrel
    have H0 := Lib.hid h0; clear h0
    by_cases hz : k = 0
    · subst hz
      go_wp2
      go_ret
      exact ⟨⟨0, Nat.zero_le _, (trim_take (by decide) hx (Nat.zero_le _) H0.out (.inl rfl)).1, rfl⟩, rfl⟩
    · obtain ⟨g, o, rfl, hc⟩ := hr (k - 1) (by omega)
      obtain ⟨x, hxe, hxk⟩ := lim4 hx (k - 1) (by omega)
      rw [hxe] at hc
      have HX := Lib.hid hxe; clear hxe
      have hkn : ((k : Int) - 1).toNat = k - 1 := by omega
      by_cases hx0 : x = 0
      · subst hx0
        go_wp2
        go_round
        case rel => exact ⟨k - 1, by omega, rfl, fun j h1 h2 => by
          by_cases e : j = k - 1
          · subst e; exact HX.out
          · exact H0.out j (by omega) h2⟩
        case measure => simp [lenOf]; omega
      · have hxi : ((x : Int) == 0) = false := by rw [beq_eq_false_iff_ne]; omega
        go_wp2
        go_ret
        exact ⟨⟨k, hk, (trim_take (by decide) hx hk H0.out (.inr ⟨by omega, by rw [HX.out]; exact hx0⟩)).1, rfl⟩, rfl⟩
theorem rtrim_own (v : Value) (B : Nat) (xs : List Nat) (w : World) (hx : Lim D4 xs) (hxn : xs.length ≤ 10000000000000) (hO : Own .i64 w B 3 v xs) :
    Calls Try.prog 48 #[v] w fun e w' => (∃ v', e = .returned v' ∧ Own .i64 w B 3 v' (dig D4 (vl D4 xs))) ∧ w = w' := by
  obtain ⟨A, cap, rfl, h1, h2⟩ := hO.slice
  refine (rtrim_any A cap xs w hx hxn h1 h2 hO.rd).mono ?_
  rintro e w' ⟨⟨m, hm, hd, rfl⟩, rfl⟩
  exact ⟨⟨_, rfl, by rw [hd]; exact hO.take m hm⟩, rfl⟩

theorem small_step {ds : List Nat} {m n : Nat} (h : vl D4 ds + D4 ^ ds.length * m = n) : vl D4 (ds ++ [m % 10000]) + D4 ^ (ds ++ [m % 10000]).length * (m / 10000) = n := by
  rw [vl_snoc, List.length_append, List.length_singleton, Nat.pow_succ, ← h]
  have hd : D4 ^ ds.length * m = D4 ^ ds.length * (m % 10000) + D4 ^ ds.length * D4 * (m / 10000) := digit_step (B := 10000) (P := D4 ^ ds.length) (z := m)
  omega
set_option maxRecDepth 100000 in
set_option maxHeartbeats 2000000 in
theorem small_any (n : Nat) (w : World) (hn : n ≤ 9223372036854775807) : Calls Try.prog 41 #[.int .i64 n] w (Makes .i64 3 w (dig D4 n)) := by
  obtain ⟨i0, hi, hz0, hz1, hz2⟩ := info_parts info_i64
  go_enter Try.func41, Try.ntmps41
  go_wp2
  go_loopw [0, 3] (fun q v wr => ∃ (m : Nat) (ds : List Nat), q = .int .i64 m ∧ (ds.length ≤ 16 ∧ m ≤ n ∧ m < 10000 ^ (16 - ds.length)) ∧ Own .i64 wr w.heap.size 3 v ds ∧ Lim D4 ds ∧ vl D4 ds + D4 ^ ds.length * m = n ∧ (0 < m ∨ Top ds) ∧ Below w.heap.size w wr) (fun q _ _ => (RowKit.intOf q).toNat)
  case atStart => exact ⟨n, [], rfl, ⟨Nat.zero_le _, Nat.le_refl _, Nat.lt_of_le_of_lt hn (by decide)⟩, Own.nil _ _ _, lim_nil _, by simp [vl], .inr top_nil, Below.refl _ _⟩
  case round =>
    obtain ⟨m, ds, rfl, ⟨hd16, hmn, hmp⟩, hO, hL, hv, ht, hB⟩ := hrel
    obtain ⟨A, cap, rfl, hcap⟩ := hO.slice
    by_cases hm : m = 0
    · subst hm
      have HE := Lib.hid (show dig D4 n = ds from dig_eq (by decide) ⟨hL, by rcases ht with h | h; omega; exact h⟩ (by rw [← hv]; simp))
      have HO := Lib.hid hO
      clear hv hO hL ht
      go_wp2
      go_ret
      exact ⟨_, rfl, by rw [HE.out]; exact HO.out, hB⟩
    · have hown := hO.row (n := ds.length) rfl
      have HS := Lib.hid (small_step hv)
      have hlim : Lim D4 (ds ++ [m % 10000]) := lim_append.2 ⟨hL, lim_one.2 (Nat.mod_lt _ (by decide))⟩
      have htop : 0 < m / 10000 ∨ Top (ds ++ [m % 10000]) := by
        rcases Nat.eq_zero_or_pos (m / 10000) with h | h
        · exact .inr (top_snoc.2 (by omega))
        · exact .inl h
      have hsz := hB.size
      have hd15 : ds.length < 16 := by
        rcases Nat.lt_or_ge ds.length 16 with h | h
        · exact h
        · rw [show 16 - ds.length = 0 by omega, Nat.pow_zero] at hmp
          omega
      have hm1 : ds.length + 1 ≤ 16 ∧ m / 10000 ≤ n ∧ m / 10000 < 10000 ^ (16 - (ds.length + 1)) := by
        refine ⟨by omega, by omega, Nat.div_lt_of_lt_mul ?_⟩
        rw [← Nat.pow_succ', show (16 - (ds.length + 1)).succ = 16 - ds.length by omega]
        exact hmp
      clear hmp
      clear hv hO hL ht
      go_wp2_with (at_builtin; refine wpList_append_own _ rfl _ _ 63 rfl w.heap.size 3 i0 (.int .i64 0) 1 8 Try.underlying63 hi hz0 hz1 hz2 rfl (by decide) _ _ _ rfl (hown.alloc _) ⟨wr.heap.size, 0, none⟩ 1 1 [.int .i64 ((m % 10000 : Nat) : Int)] rfl rfl (cell_one_new _ _ _) ?c2 ?c3 ?c4 ?c5 ?_)
      case c2 => simp [Value.oneCell']
      case c3 => unfold maxLen; omega
      case c4 => omega
      case c5 => first | omega | (simp; omega)
      intro v' w4 hown' hgrow _
      have hB4 : Below w.heap.size w w4 := (hB.alloc hsz _).grown hgrow (by simp; omega) (fun z e => (hown.lt z e).1)
      have HO1 := Lib.hid (Own.snoc hown' rfl)
      clear hown hown' hgrow
      go_wp2
      go_roundw
      case rel => exact ⟨m / 10000, ds ++ [m % 10000], vint (by omega), by rw [List.length_append]; exact hm1, HO1.out, hlim, HS.out, htop, hB4⟩
      case measure => simp [RowKit.intOf]; omega
end Go.Proofs.Ytelhbkfhalpniaa

namespace Go.Proofs.Ytelhbkfhalpniaa
open Go.RowKit Go.Lib

/-- The product's pieces so far. -/
structure RTim (xs ds : List Nat) (n k c : Nat) : Prop where
  len : ds.length = k
  lim : Lim D4 ds
  hc : c < n
  eq : vl D4 ds + D4 ^ k * c = vl D4 (xs.take k) * n
  top : k ≤ xs.length ∨ k + c ≤ xs.length + n
theorem rtim_step {xs ds : List Nat} {n k c : Nat} (h : RTim xs ds n k c) (hx : Lim D4 xs) (hgo : k < xs.length ∨ 0 < c) (z : Nat) (hz : z = c + xs.getD k 0 * n) : RTim xs (ds ++ [z % 10000]) n (k + 1) (z / 10000) := by
  have b1 := getD_lt hx (by decide) k
  have h3 := h.hc
  refine ⟨by rw [List.length_append, h.len]; rfl, lim_append.2 ⟨h.lim, lim_one.2 (Nat.mod_lt _ (by decide))⟩, ?_, ?_, ?_⟩
  · apply Nat.div_lt_of_lt_mul
    have : (xs.getD k 0 + 1) * n ≤ 10000 * n := Nat.mul_le_mul_right _ b1
    rw [Nat.add_mul] at this
    omega
  · have e1 := h.eq
    have hd : D4 ^ k * z = D4 ^ k * (z % 10000) + D4 ^ k * D4 * (z / 10000) := digit_step (B := 10000) (P := D4 ^ k) (z := z)
    have e2 := congrArg (D4 ^ k * ·) hz
    simp only [Nat.mul_add, ← Nat.mul_assoc] at e2
    rw [vl_snoc, h.len, vl_take_get, Nat.pow_succ, Nat.add_mul]
    omega
  · by_cases a : k < xs.length
    · exact .inl a
    · rw [getD_no a, Nat.zero_mul, Nat.add_zero] at hz
      have := h.top
      exact .inr (by omega)
theorem rtim_end {xs ds : List Nat} {n k : Nat} (h : RTim xs ds n k 0) (hx : xs.length ≤ k) : vl D4 ds = vl D4 xs * n := by
  have := h.eq
  rwa [vl_take_all hx, Nat.mul_zero, Nat.add_zero] at this

set_option maxRecDepth 100000 in
set_option maxHeartbeats 4000000 in
theorem rcmp_any (A A' : Option Addr) (ca cb : Nat) (xs ys : List Nat) (w : World) (hx : Norm D4 xs) (hy : Norm D4 ys) (hxn : xs.length ≤ 1000000) (_hyn : ys.length ≤ 1000000) (hra : Rd .i64 w A xs) (hrb : Rd .i64 w A' ys) :
    Calls Try.prog 56 #[.slice A xs.length ca, .slice A' ys.length cb] w fun e w' => e = .returned (.int .i64 (cmpZ (vl D4 xs) (vl D4 ys))) ∧ ∃ n, w' = w.drewN n := by
  by_cases hne : xs.length = ys.length
  · have hnb : ((xs.length : Int) != (ys.length : Int)) = false := by simp [hne]
    have HN := Lib.hid hne; clear hne
    go_enter Try.func56, Try.ntmps56
    go_wp2
    go_loopw [5] (fun i wr => ∃ k n : Nat, k ≤ xs.length ∧ i = .int .i64 ((k : Int) - 1) ∧ xs.drop k = ys.drop k ∧ wr = w.drewN n) (fun i _ => (RowKit.intOf i + 1).toNat)
    case atStart => exact ⟨xs.length, 0, Nat.le_refl _, rfl, by rw [List.drop_length, HN.out, List.drop_length], rfl⟩
    case round =>
      obtain ⟨k, n, hk, rfl, hd, rfl⟩ := hrel
      have HD := Lib.hid hd; clear hd
      rcases k with _ | k
      · have he : cmpZ (vl D4 xs) (vl D4 ys) = 0 := by
          have := HD.out
          simp at this
          rw [this]; exact cmpZ_eq rfl
        have HE := Lib.hid he; clear he
        go_wp2
        go_ret
        exact ⟨by rw [HE.out]; rfl, n, rfl⟩
      · have hlx : k < xs.length := hk
        have hly : k < ys.length := by have := HN.out; omega
        obtain ⟨g, o, rfl, hc⟩ := hra k hlx
        obtain ⟨g', o', rfl, hc'⟩ := hrb k hly
        obtain ⟨x, hxe, hxk⟩ := lim4 hx.1 k hlx
        obtain ⟨y, hye, hyk⟩ := lim4 hy.1 k hly
        rw [hxe] at hc
        rw [hye] at hc'
        rcases Nat.lt_trichotomy x y with h | h | h
        · have HE := Lib.hid (show cmpZ (vl D4 xs) (vl D4 ys) = -1 from cmpZ_lt (vl_cmp_at hx.1 HN.out hlx HD.out (by rw [hxe, hye]; exact h)))
          clear hxe hye
          rw [show ((k + 1 : Nat) : Int) - 1 = (k : Int) by omega]
          go_wp2
          go_quiet (fail)
          go_wp2
          go_ret
          exact ⟨by rw [HE.out]; rfl, _, by rw [World.drewN_drewN]⟩
        · have hd2 : xs.drop k = ys.drop k := by rw [drop_get xs k hlx, drop_get ys k hly, HD.out, hxe, hye, h]
          have HD2 := Lib.hid hd2
          subst h
          clear hd2 hxe hye
          rw [show ((k + 1 : Nat) : Int) - 1 = (k : Int) by omega]
          go_wp2
          go_quiet (fail)
          go_wp2
          go_quiet (fail)
          go_wp2
          go_roundw
          case rel => exact ⟨k, _, by omega, rfl, HD2.out, rfl⟩
          case measure => simp [RowKit.intOf]
        · have HE := Lib.hid (show cmpZ (vl D4 xs) (vl D4 ys) = 1 from cmpZ_gt (vl_cmp_at hy.1 HN.out.symm hly HD.out.symm (by rw [hxe, hye]; exact h)))
          have h2 : ¬ x < y := by omega
          clear hxe hye
          rw [show ((k + 1 : Nat) : Int) - 1 = (k : Int) by omega]
          go_wp2
          go_quiet (fail)
          go_wp2
          go_quiet (fail)
          go_wp2
          go_ret
          exact ⟨by rw [HE.out]; rfl, _, by rw [World.drewN_drewN, World.drewN_drewN]⟩
  · have hnb : ((xs.length : Int) != (ys.length : Int)) = true := by simp; omega
    rcases Nat.lt_or_gt_of_ne hne with h | h
    · have HE := Lib.hid (show cmpZ (vl D4 xs) (vl D4 ys) = -1 from cmpZ_lt (norm_len_lt (by decide) hx.1 hy.2 h))
      clear hne
      go_enter Try.func56, Try.ntmps56
      go_wp2
      go_ret
      exact ⟨by rw [HE.out]; rfl, 0, rfl⟩
    · have HE := Lib.hid (show cmpZ (vl D4 xs) (vl D4 ys) = 1 from cmpZ_gt (norm_len_lt (by decide) hy.1 hx.2 h))
      have h2 : ¬ xs.length < ys.length := by omega
      clear hne
      go_enter Try.func56, Try.ntmps56
      go_wp2
      go_ret
      exact ⟨by rw [HE.out]; rfl, 0, rfl⟩
end Go.Proofs.Ytelhbkfhalpniaa

namespace Go.Proofs.Ytelhbkfhalpniaa
open Go.RowKit Go.Lib

theorem piece_prod {x n c : Nat} (hx : x < 10000) (hn : n ≤ 1099511627776) (hc : c < n) : ∃ p : Nat, x * n = p ∧ (x : Int) * (n : Int) = (p : Int) ∧ (p : Int) + (c : Int) ≤ 9223372036854775807 ∧ p ≤ 10995116277760000 := by
  have h : x * n ≤ 9999 * 1099511627776 := Nat.mul_le_mul (by omega) hn
  exact ⟨x * n, rfl, (Int.natCast_mul _ _).symm, by omega, by omega⟩

set_option maxRecDepth 100000 in
set_option maxHeartbeats 4000000 in
theorem rtim_any (A : Option Addr) (ca n : Nat) (xs : List Nat) (w : World) (hx : Lim D4 xs) (hxn : xs.length ≤ 1000000) (hn0 : 0 < n) (hn : n ≤ 1099511627776) (hra : Rd .i64 w A xs) :
    Calls Try.prog 49 #[.slice A xs.length ca, .int .i64 n] w (Makes .i64 3 w (dig D4 (vl D4 xs * n))) := by
  obtain ⟨i0, hi, hz0, hz1, hz2⟩ := info_parts info_i64
  go_enter Try.func49, Try.ntmps49
  go_wp2
  go_loopw [5, 6, 7] (fun v c i wr => ∃ (k z : Nat) (ds : List Nat), i = .int .i64 k ∧ c = .int .i64 z ∧ Own .i64 wr w.heap.size 3 v ds ∧ RTim xs ds n k z ∧ Below w.heap.size w wr) (fun _ c i _ => (xs.length - (RowKit.intOf i).toNat) * 2199023255552 + (RowKit.intOf c).toNat)
  case atStart => exact ⟨0, 0, [], rfl, rfl, Own.nil _ _ _, ⟨rfl, lim_nil _, hn0, by simp [vl], .inl (Nat.zero_le _)⟩, Below.refl _ _⟩
  case round =>
    obtain ⟨k, z, ds, rfl, rfl, hO, hR, hB⟩ := hrel
    obtain ⟨A5, c5, rfl, _⟩ := hO.slice
    have hzn : z < n := hR.hc
    have htop := hR.top
    by_cases hgo : k < xs.length ∨ 0 < z
    · have hdl := hR.len
      have hown := hO.row hdl
      have HDL := Lib.hid hdl
      have hsz := hB.size
      rw [hdl] at hown
      rw [hdl]
      by_cases hlx : k < xs.length
      · obtain ⟨g, o, rfl, hc⟩ := (hra.below hB) k hlx
        obtain ⟨x, hxe, hxk⟩ := lim4 hx k hlx
        rw [hxe] at hc
        obtain ⟨p, hp, hpi, hpb, hpb2⟩ := piece_prod hxk hn hzn
        have HS := Lib.hid (rtim_step hR hx hgo (z + p) (by rw [getD_of hlx, hxe, hp]))
        have hz2b : (z + p) / 10000 < 1099511627776 := by have := HS.out.hc; omega
        clear hR hdl hO hxe hp hgo htop
        go_wp2_with (at_builtin; refine wpList_append_own _ rfl _ _ 63 rfl w.heap.size 3 i0 (.int .i64 0) 1 8 Try.underlying63 hi hz0 hz1 hz2 rfl (by decide) _ _ _ rfl (hown.alloc _) ⟨wr.heap.size, 0, none⟩ 1 1 [.int .i64 (((z + p) % 10000 : Nat) : Int)] rfl rfl (cell_one_new _ _ _) ?c2 ?c3 ?c4 ?c5 ?_)
        case c2 => simp [Value.oneCell']
        case c3 => unfold maxLen; omega
        case c4 => omega
        case c5 => first | omega | (simp; omega)
        intro v' w4 hown' hgrow _
        have hB4 : Below w.heap.size w w4 := (hB.alloc hsz _).grown hgrow (by simp; omega) (fun z e => (hown.lt z e).1)
        have HO1 := Lib.hid (Own.snoc hown' HDL.out.symm)
        clear hown hown' hgrow hpi
        go_wp2
        go_roundw
        case rel => exact ⟨k + 1, (z + p) / 10000, ds ++ [(z + p) % 10000], by go_num, vint (by omega), HO1.out, HS.out, hB4⟩
        case measure => simp [RowKit.intOf]; omega
      · have hz0' : 0 < z := by omega
        have HS := Lib.hid (rtim_step hR hx hgo z (by rw [getD_no hlx, Nat.zero_mul, Nat.add_zero]))
        clear hR hdl hO hgo
        go_wp2_with (at_builtin; refine wpList_append_own _ rfl _ _ 63 rfl w.heap.size 3 i0 (.int .i64 0) 1 8 Try.underlying63 hi hz0 hz1 hz2 rfl (by decide) _ _ _ rfl (hown.alloc _) ⟨wr.heap.size, 0, none⟩ 1 1 [.int .i64 ((z % 10000 : Nat) : Int)] rfl rfl (cell_one_new _ _ _) ?c2 ?c3 ?c4 ?c5 ?_)
        case c2 => simp [Value.oneCell']
        case c3 => unfold maxLen; omega
        case c4 => omega
        case c5 => first | omega | (simp; omega)
        intro v' w4 hown' hgrow _
        have hB4 : Below w.heap.size w w4 := (hB.alloc hsz _).grown hgrow (by simp; omega) (fun z e => (hown.lt z e).1)
        have HO1 := Lib.hid (Own.snoc hown' HDL.out.symm)
        clear hown hown' hgrow
        go_wp2
        go_roundw
        case rel => exact ⟨k + 1, z / 10000, ds ++ [z % 10000], by go_num, vint (by omega), HO1.out, HS.out, hB4⟩
        case measure => simp [RowKit.intOf]; omega
    · have hlx : ¬ k < xs.length := by omega
      obtain rfl : z = 0 := by omega
      have he := rtim_end hR (by omega)
      have hl := hR.len
      have cT := rtrim_own _ _ ds wr hR.lim (by omega) hO
      rw [he] at cT
      have CT := Lib.hid cT
      rw [hl]
      rw [hl] at CT
      clear cT hO hR he hl hgo
      go_wp2_with fail
      refine CT.out.mono ?_
      rintro e w' ⟨⟨v', rfl, hO7⟩, rfl⟩
      have HO7 := Lib.hid hO7
      clear hO7 CT
      go_wp2
      go_ret
      exact ⟨_, rfl, HO7.out, hB⟩
end Go.Proofs.Ytelhbkfhalpniaa

namespace Go.Proofs.Ytelhbkfhalpniaa
open Go.RowKit Go.Lib

theorem dig4_powb {b j : Nat} (hb : b ≤ 10000) (_h1 : 1 ≤ b) : (dig D4 (b ^ j)).length ≤ j + 1 := by
  rw [dig_len_le (by decide)]
  have h1 : b ^ j ≤ D4 ^ j := Nat.pow_le_pow_left hb _
  have h2 : D4 ^ j < D4 ^ (j + 1) := Nat.pow_lt_pow_right (by decide) (by omega)
  omega
theorem own_oneb (w : World) (a : Nat) (t : TypeId) : Own .i64 (w.alloc (.cells #[.int .i64 (a : Nat)] t)) w.heap.size t (.slice (some ⟨w.heap.size, 0, none⟩) 1 1) [a] :=
  World.ownsRow_lit (e := t) (size := 1) w #[.int .i64 (a : Nat)] 1 (Nat.le_refl _) (by decide) rfl
theorem dig4_oneb (b : Nat) : dig D4 (b ^ 0) = [1] := by
  rw [Nat.pow_zero]
  exact dig_eq (by decide) ⟨fun x hx => by rw [List.mem_singleton] at hx; subst hx; decide, by simp [Top]⟩ (by simp [vl])
theorem lim4p (n : Nat) : Lim D4 (dig D4 n) := (dig_norm (by decide) n).1
set_option maxRecDepth 100000 in
set_option maxHeartbeats 4000000 in
theorem rpow_b2 (k : Nat) (w : World) (hk : k ≤ 10000) :
    Calls Try.prog 44 #[.int .i64 2, .int .i64 k] w (Makes .i64 3 w (dig D4 (2 ^ k))) := by
  have hO0 := own_oneb w 1 3
  rw [← dig4_oneb 2] at hO0
  have HO0 := Lib.hid hO0
  have hB0 := (Below.refl w.heap.size w).alloc (Nat.le_refl _) (.cells #[.int .i64 (1 : Nat)] 3)
  clear hO0
  go_enter Try.func44, Try.ntmps44
  go_wp2
  go_loopw [5, 1] (fun v q wr => ∃ j m : Nat, j + m = k ∧ q = .int .i64 m ∧ Own .i64 wr w.heap.size 3 v (dig D4 (2 ^ j)) ∧ Below w.heap.size w wr) (fun _ q _ => (RowKit.intOf q).toNat)
  case atStart => exact ⟨0, k, by omega, rfl, HO0.out, hB0⟩
  case round =>
    clear HO0 hB0
    obtain ⟨j, m, hjm, rfl, hO, hB⟩ := hrel
    obtain ⟨A5, c5, rfl, _⟩ := hO.slice
    by_cases h8 : 8 ≤ m
    · have cT := rtim_any A5 c5 256 (dig D4 (2 ^ j)) wr (lim4p _) (by have := dig4_powb (b := 2) (j := j) (by omega) (by omega); omega) (by omega) (by omega) hO.rd
      have hp : 2 ^ j * 256 = 2 ^ (j + 8) := by rw [Nat.pow_add]
      rw [dig_vl (by decide), hp, show ((256 : Nat) : Int) = 256 from rfl] at cT
      have CT := Lib.hid cT
      clear cT hp hO
      go_wp2_with fail
      refine CT.out.mono ?_
      rintro e w1 ⟨v, rfl, hO1, hB1⟩
      have HO1 := Lib.hid (hO1.mono hB.size)
      have hB2 := hB.trans (hB1.mono hB.size)
      clear hO1 hB1 CT
      go_wp2
      go_roundw
      case rel => exact ⟨j + 8, m - 8, by omega, vint (by omega), HO1.out, hB2⟩
      case measure => simp [RowKit.intOf]; omega
    · go_wp2
      obtain ⟨wo, rfl⟩ : ∃ wo : World, wo = wr := ⟨wr, rfl⟩
      go_loopw [5, 1] (fun v q wi => ∃ j m : Nat, j + m = k ∧ q = .int .i64 m ∧ Own .i64 wi w.heap.size 3 v (dig D4 (2 ^ j)) ∧ Below w.heap.size w wi) (fun _ q _ => (RowKit.intOf q).toNat)
      case atStart => exact ⟨j, m, hjm, rfl, hO, hB⟩
      case round =>
        clear hO hB hjm h8
        obtain ⟨j, m, hjm, rfl, hO, hB⟩ := hrel
        obtain ⟨A5, c5, rfl, _⟩ := hO.slice
        by_cases h1 : 0 < m
        · have cT := rtim_any A5 c5 2 (dig D4 (2 ^ j)) wr (lim4p _) (by have := dig4_powb (b := 2) (j := j) (by omega) (by omega); omega) (by omega) (by omega) hO.rd
          have hp : 2 ^ j * 2 = 2 ^ (j + 1) := by rw [Nat.pow_succ]
          rw [dig_vl (by decide), hp, show ((2 : Nat) : Int) = 2 from rfl] at cT
          have CT := Lib.hid cT
          clear cT hp hO
          go_wp2_with fail
          refine CT.out.mono ?_
          rintro e w1 ⟨v, rfl, hO1, hB1⟩
          have HO1 := Lib.hid (hO1.mono hB.size)
          have hB2 := hB.trans (hB1.mono hB.size)
          clear hO1 hB1 CT
          go_wp2
          go_roundw
          case rel => exact ⟨j + 1, m - 1, by omega, vint (by omega), HO1.out, hB2⟩
          case measure => simp [RowKit.intOf]; omega
        · obtain rfl : m = 0 := by omega
          obtain rfl : j = k := by omega
          have HO := Lib.hid hO
          clear hO
          go_wp2
          go_ret
          exact ⟨_, rfl, HO.out, hB⟩

set_option maxRecDepth 100000 in
set_option maxHeartbeats 4000000 in
theorem rpow_b5 (k : Nat) (w : World) (hk : k ≤ 10000) :
    Calls Try.prog 44 #[.int .i64 5, .int .i64 k] w (Makes .i64 3 w (dig D4 (5 ^ k))) := by
  have hO0 := own_oneb w 1 3
  rw [← dig4_oneb 5] at hO0
  have HO0 := Lib.hid hO0
  have hB0 := (Below.refl w.heap.size w).alloc (Nat.le_refl _) (.cells #[.int .i64 (1 : Nat)] 3)
  clear hO0
  go_enter Try.func44, Try.ntmps44
  go_wp2
  go_loopw [5, 1] (fun v q wr => ∃ j m : Nat, j + m = k ∧ q = .int .i64 m ∧ Own .i64 wr w.heap.size 3 v (dig D4 (5 ^ j)) ∧ Below w.heap.size w wr) (fun _ q _ => (RowKit.intOf q).toNat)
  case atStart => exact ⟨0, k, by omega, rfl, HO0.out, hB0⟩
  case round =>
    clear HO0 hB0
    obtain ⟨j, m, hjm, rfl, hO, hB⟩ := hrel
    obtain ⟨A5, c5, rfl, _⟩ := hO.slice
    by_cases h8 : 8 ≤ m
    · have cT := rtim_any A5 c5 390625 (dig D4 (5 ^ j)) wr (lim4p _) (by have := dig4_powb (b := 5) (j := j) (by omega) (by omega); omega) (by omega) (by omega) hO.rd
      have hp : 5 ^ j * 390625 = 5 ^ (j + 8) := by rw [Nat.pow_add]
      rw [dig_vl (by decide), hp, show ((390625 : Nat) : Int) = 390625 from rfl] at cT
      have CT := Lib.hid cT
      clear cT hp hO
      go_wp2_with fail
      refine CT.out.mono ?_
      rintro e w1 ⟨v, rfl, hO1, hB1⟩
      have HO1 := Lib.hid (hO1.mono hB.size)
      have hB2 := hB.trans (hB1.mono hB.size)
      clear hO1 hB1 CT
      go_wp2
      go_roundw
      case rel => exact ⟨j + 8, m - 8, by omega, vint (by omega), HO1.out, hB2⟩
      case measure => simp [RowKit.intOf]; omega
    · go_wp2
      obtain ⟨wo, rfl⟩ : ∃ wo : World, wo = wr := ⟨wr, rfl⟩
      go_loopw [5, 1] (fun v q wi => ∃ j m : Nat, j + m = k ∧ q = .int .i64 m ∧ Own .i64 wi w.heap.size 3 v (dig D4 (5 ^ j)) ∧ Below w.heap.size w wi) (fun _ q _ => (RowKit.intOf q).toNat)
      case atStart => exact ⟨j, m, hjm, rfl, hO, hB⟩
      case round =>
        clear hO hB hjm h8
        obtain ⟨j, m, hjm, rfl, hO, hB⟩ := hrel
        obtain ⟨A5, c5, rfl, _⟩ := hO.slice
        by_cases h1 : 0 < m
        · have cT := rtim_any A5 c5 5 (dig D4 (5 ^ j)) wr (lim4p _) (by have := dig4_powb (b := 5) (j := j) (by omega) (by omega); omega) (by omega) (by omega) hO.rd
          have hp : 5 ^ j * 5 = 5 ^ (j + 1) := by rw [Nat.pow_succ]
          rw [dig_vl (by decide), hp, show ((5 : Nat) : Int) = 5 from rfl] at cT
          have CT := Lib.hid cT
          clear cT hp hO
          go_wp2_with fail
          refine CT.out.mono ?_
          rintro e w1 ⟨v, rfl, hO1, hB1⟩
          have HO1 := Lib.hid (hO1.mono hB.size)
          have hB2 := hB.trans (hB1.mono hB.size)
          clear hO1 hB1 CT
          go_wp2
          go_roundw
          case rel => exact ⟨j + 1, m - 1, by omega, vint (by omega), HO1.out, hB2⟩
          case measure => simp [RowKit.intOf]; omega
        · obtain rfl : m = 0 := by omega
          obtain rfl : j = k := by omega
          have HO := Lib.hid hO
          clear hO
          go_wp2
          go_ret
          exact ⟨_, rfl, HO.out, hB⟩

set_option maxRecDepth 100000 in
set_option maxHeartbeats 4000000 in
theorem rpow_b10 (k : Nat) (w : World) (hk : k ≤ 10000) :
    Calls Try.prog 44 #[.int .i64 10, .int .i64 k] w (Makes .i64 3 w (dig D4 (10 ^ k))) := by
  have hO0 := own_oneb w 1 3
  rw [← dig4_oneb 10] at hO0
  have HO0 := Lib.hid hO0
  have hB0 := (Below.refl w.heap.size w).alloc (Nat.le_refl _) (.cells #[.int .i64 (1 : Nat)] 3)
  clear hO0
  go_enter Try.func44, Try.ntmps44
  go_wp2
  go_loopw [5, 1] (fun v q wr => ∃ j m : Nat, j + m = k ∧ q = .int .i64 m ∧ Own .i64 wr w.heap.size 3 v (dig D4 (10 ^ j)) ∧ Below w.heap.size w wr) (fun _ q _ => (RowKit.intOf q).toNat)
  case atStart => exact ⟨0, k, by omega, rfl, HO0.out, hB0⟩
  case round =>
    clear HO0 hB0
    obtain ⟨j, m, hjm, rfl, hO, hB⟩ := hrel
    obtain ⟨A5, c5, rfl, _⟩ := hO.slice
    by_cases h8 : 8 ≤ m
    · have cT := rtim_any A5 c5 100000000 (dig D4 (10 ^ j)) wr (lim4p _) (by have := dig4_powb (b := 10) (j := j) (by omega) (by omega); omega) (by omega) (by omega) hO.rd
      have hp : 10 ^ j * 100000000 = 10 ^ (j + 8) := by rw [Nat.pow_add]
      rw [dig_vl (by decide), hp, show ((100000000 : Nat) : Int) = 100000000 from rfl] at cT
      have CT := Lib.hid cT
      clear cT hp hO
      go_wp2_with fail
      refine CT.out.mono ?_
      rintro e w1 ⟨v, rfl, hO1, hB1⟩
      have HO1 := Lib.hid (hO1.mono hB.size)
      have hB2 := hB.trans (hB1.mono hB.size)
      clear hO1 hB1 CT
      go_wp2
      go_roundw
      case rel => exact ⟨j + 8, m - 8, by omega, vint (by omega), HO1.out, hB2⟩
      case measure => simp [RowKit.intOf]; omega
    · go_wp2
      obtain ⟨wo, rfl⟩ : ∃ wo : World, wo = wr := ⟨wr, rfl⟩
      go_loopw [5, 1] (fun v q wi => ∃ j m : Nat, j + m = k ∧ q = .int .i64 m ∧ Own .i64 wi w.heap.size 3 v (dig D4 (10 ^ j)) ∧ Below w.heap.size w wi) (fun _ q _ => (RowKit.intOf q).toNat)
      case atStart => exact ⟨j, m, hjm, rfl, hO, hB⟩
      case round =>
        clear hO hB hjm h8
        obtain ⟨j, m, hjm, rfl, hO, hB⟩ := hrel
        obtain ⟨A5, c5, rfl, _⟩ := hO.slice
        by_cases h1 : 0 < m
        · have cT := rtim_any A5 c5 10 (dig D4 (10 ^ j)) wr (lim4p _) (by have := dig4_powb (b := 10) (j := j) (by omega) (by omega); omega) (by omega) (by omega) hO.rd
          have hp : 10 ^ j * 10 = 10 ^ (j + 1) := by rw [Nat.pow_succ]
          rw [dig_vl (by decide), hp, show ((10 : Nat) : Int) = 10 from rfl] at cT
          have CT := Lib.hid cT
          clear cT hp hO
          go_wp2_with fail
          refine CT.out.mono ?_
          rintro e w1 ⟨v, rfl, hO1, hB1⟩
          have HO1 := Lib.hid (hO1.mono hB.size)
          have hB2 := hB.trans (hB1.mono hB.size)
          clear hO1 hB1 CT
          go_wp2
          go_roundw
          case rel => exact ⟨j + 1, m - 1, by omega, vint (by omega), HO1.out, hB2⟩
          case measure => simp [RowKit.intOf]; omega
        · obtain rfl : m = 0 := by omega
          obtain rfl : j = k := by omega
          have HO := Lib.hid hO
          clear hO
          go_wp2
          go_ret
          exact ⟨_, rfl, HO.out, hB⟩

end Go.Proofs.Ytelhbkfhalpniaa

namespace Go.Proofs.Ytelhbkfhalpniaa
open Go.RowKit Go.Lib

/-- The sum's pieces so far. -/
structure RAdd (xs ys ds : List Nat) (k c : Nat) : Prop where
  len : ds.length = k
  lim : Lim D4 ds
  hc : c ≤ 1
  eq : vl D4 ds + D4 ^ k * c = vl D4 (xs.take k) + vl D4 (ys.take k)
  top : k ≤ xs.length ∨ k ≤ ys.length ∨ c = 0
theorem radd_step {xs ys ds : List Nat} {k c : Nat} (h : RAdd xs ys ds k c) (hx : Lim D4 xs) (hy : Lim D4 ys) (z : Nat) (hz : z = c + xs.getD k 0 + ys.getD k 0) : RAdd xs ys (ds ++ [z % 10000]) (k + 1) (z / 10000) := by
  have b1 := getD_lt hx (by decide) k
  have b2 := getD_lt hy (by decide) k
  have h3 := h.hc
  refine ⟨by rw [List.length_append, h.len]; rfl, lim_append.2 ⟨h.lim, lim_one.2 (Nat.mod_lt _ (by decide))⟩, ?_, ?_, ?_⟩
  · have : z < 20000 := by show z < 20000; have a : D4 = 10000 := rfl; omega
    omega
  · have e1 := h.eq
    have hd : D4 ^ k * z = D4 ^ k * (z % 10000) + D4 ^ k * D4 * (z / 10000) := digit_step (B := 10000) (P := D4 ^ k) (z := z)
    have e2 := congrArg (D4 ^ k * ·) hz
    simp only [Nat.mul_add] at e2
    rw [vl_snoc, h.len, vl_take_get, vl_take_get, Nat.pow_succ]
    omega
  · by_cases a : k < xs.length
    · exact .inl a
    · by_cases b : k < ys.length
      · exact .inr (.inl b)
      · rw [getD_no a, getD_no b] at hz
        exact .inr (.inr (by omega))
theorem radd_end {xs ys ds : List Nat} {k : Nat} (h : RAdd xs ys ds k 0) (hx : xs.length ≤ k) (hy : ys.length ≤ k) : vl D4 ds = vl D4 xs + vl D4 ys := by
  have := h.eq
  rwa [vl_take_all hx, vl_take_all hy, Nat.mul_zero, Nat.add_zero] at this

set_option maxRecDepth 100000 in
set_option maxHeartbeats 4000000 in
theorem radd_any (A A' : Option Addr) (ca cb : Nat) (xs ys : List Nat) (w : World) (hx : Lim D4 xs) (hy : Lim D4 ys) (hxn : xs.length ≤ 1000000) (hyn : ys.length ≤ 1000000) (hra : Rd .i64 w A xs) (hrb : Rd .i64 w A' ys) :
    Calls Try.prog 55 #[.slice A xs.length ca, .slice A' ys.length cb] w (Makes .i64 3 w (dig D4 (vl D4 xs + vl D4 ys))) := by
  obtain ⟨i0, hi, hz0, hz1, hz2⟩ := info_parts info_i64
  go_enter Try.func55, Try.ntmps55
  go_wp2
  go_loopw [5, 6, 7] (fun v c i wr => ∃ (k z : Nat) (ds : List Nat), i = .int .i64 k ∧ c = .int .i64 z ∧ Own .i64 wr w.heap.size 3 v ds ∧ RAdd xs ys ds k z ∧ k ≤ 1000001 ∧ Below w.heap.size w wr) (fun _ _ i _ => xs.length + ys.length + 1 - (RowKit.intOf i).toNat)
  case atStart => exact ⟨0, 0, [], rfl, rfl, Own.nil _ _ _, ⟨rfl, lim_nil _, by omega, by simp [vl], .inl (Nat.zero_le _)⟩, by omega, Below.refl _ _⟩
  case round =>
    obtain ⟨k, z, ds, rfl, rfl, hO, hR, hk, hB⟩ := hrel
    obtain ⟨A5, c5, rfl, _⟩ := hO.slice
    have hz1' : z ≤ 1 := hR.hc
    by_cases hgo : k < xs.length ∨ k < ys.length ∨ 0 < z
    · have hkb : k ≤ 1000000 := by have := hR.top; omega
      have hks : k ≤ xs.length + ys.length := by have := hR.top; omega
      have hdl := hR.len
      have hown := hO.row hdl
      have HDL := Lib.hid hdl
      have hsz := hB.size
      rw [hdl] at hown
      rw [hdl]
      have hg2 : k < xs.length ∨ ¬ k < xs.length := by omega
      obtain ⟨x, hxe, hxk⟩ : ∃ x, xs.getD k 0 = x ∧ x < 10000 := ⟨_, rfl, getD_lt hx (by decide) k⟩
      obtain ⟨y, hye, hyk⟩ : ∃ y, ys.getD k 0 = y ∧ y < 10000 := ⟨_, rfl, getD_lt hy (by decide) k⟩
      have HS := Lib.hid (radd_step hR hx hy (z + x + y) (by rw [hxe, hye]))
      clear hR hdl hO
      have hcx : k < xs.length → ∃ g o, A = some ⟨g, o, none⟩ ∧ wr.cell? ⟨g, o + k, none⟩ = some (.int .i64 (x : Nat)) := fun h => by
        obtain ⟨g, o, e, hc⟩ := (hra.below hB) k h
        exact ⟨g, o, e, by rw [hc, ← getD_of h, hxe]⟩
      have hcy : k < ys.length → ∃ g o, A' = some ⟨g, o, none⟩ ∧ wr.cell? ⟨g, o + k, none⟩ = some (.int .i64 (y : Nat)) := fun h => by
        obtain ⟨g, o, e, hc⟩ := (hrb.below hB) k h
        exact ⟨g, o, e, by rw [hc, ← getD_of h, hye]⟩
      have hx0 : ¬ k < xs.length → x = 0 := fun h => by rw [← hxe]; exact getD_no h
      have hy0 : ¬ k < ys.length → y = 0 := fun h => by rw [← hye]; exact getD_no h
      have HCX := Lib.hid hcx
      have HCY := Lib.hid hcy
      have HX0 := Lib.hid hx0
      have HY0 := Lib.hid hy0
      clear hcx hcy hx0 hy0 hxe hye hg2
      by_cases hlx : k < xs.length
      · by_cases hly : k < ys.length
        · obtain ⟨g, o, rfl, hc⟩ := HCX.out hlx
          obtain ⟨g', o', rfl, hc'⟩ := HCY.out hly
          clear hgo HCX HCY HX0 HY0
          obtain ⟨S, hS⟩ : ∃ S, z + x + y = S := ⟨_, rfl⟩
          rw [hS] at HS
          have hSi : (z : Int) + (x : Int) + (y : Int) = (S : Int) := by omega
          clear hS
          go_wp2_with (at_builtin; refine wpList_append_own _ rfl _ _ 63 rfl w.heap.size 3 i0 (.int .i64 0) 1 8 Try.underlying63 hi hz0 hz1 hz2 rfl (by decide) _ _ _ rfl (hown.alloc _) ⟨wr.heap.size, 0, none⟩ 1 1 [.int .i64 ((S % 10000 : Nat) : Int)] rfl rfl (cell_one_new _ _ _) ?c2 ?c3 ?c4 ?c5 ?_)
          case c2 => simp [Value.oneCell']
          case c3 => unfold maxLen; omega
          case c4 => omega
          case c5 => first | omega | (simp; omega)
          intro v' w4 hown' hgrow _
          have hB4 : Below w.heap.size w w4 := (hB.alloc hsz _).grown hgrow (by simp; omega) (fun z e => (hown.lt z e).1)
          have HO1 := Lib.hid (Own.snoc hown' HDL.out.symm)
          clear hown hown' hgrow
          go_wp2
          go_roundw
          case rel => exact ⟨k + 1, S / 10000, ds ++ [S % 10000], vint (by omega), vint (by omega), HO1.out, HS.out, Nat.succ_le_succ hkb, hB4⟩
          case measure => simp [RowKit.intOf]; omega
        · obtain ⟨g, o, rfl, hc⟩ := HCX.out hlx
          obtain rfl := HY0.out hly
          clear hgo HCX HCY HX0 HY0
          obtain ⟨S, hS⟩ : ∃ S, z + x + 0 = S := ⟨_, rfl⟩
          rw [hS] at HS
          have hSi : (z : Int) + (x : Int) = (S : Int) := by omega
          clear hS
          go_wp2_with (at_builtin; refine wpList_append_own _ rfl _ _ 63 rfl w.heap.size 3 i0 (.int .i64 0) 1 8 Try.underlying63 hi hz0 hz1 hz2 rfl (by decide) _ _ _ rfl (hown.alloc _) ⟨wr.heap.size, 0, none⟩ 1 1 [.int .i64 ((S % 10000 : Nat) : Int)] rfl rfl (cell_one_new _ _ _) ?c2 ?c3 ?c4 ?c5 ?_)
          case c2 => simp [Value.oneCell']
          case c3 => unfold maxLen; omega
          case c4 => omega
          case c5 => first | omega | (simp; omega)
          intro v' w4 hown' hgrow _
          have hB4 : Below w.heap.size w w4 := (hB.alloc hsz _).grown hgrow (by simp; omega) (fun z e => (hown.lt z e).1)
          have HO1 := Lib.hid (Own.snoc hown' HDL.out.symm)
          clear hown hown' hgrow
          go_wp2
          go_roundw
          case rel => exact ⟨k + 1, S / 10000, ds ++ [S % 10000], vint (by omega), vint (by omega), HO1.out, HS.out, Nat.succ_le_succ hkb, hB4⟩
          case measure => simp [RowKit.intOf]; omega
      · by_cases hly : k < ys.length
        · obtain rfl := HX0.out hlx
          obtain ⟨g', o', rfl, hc'⟩ := HCY.out hly
          clear hgo HCX HCY HX0 HY0
          obtain ⟨S, hS⟩ : ∃ S, z + 0 + y = S := ⟨_, rfl⟩
          rw [hS] at HS
          have hSi : (z : Int) + (y : Int) = (S : Int) := by omega
          clear hS
          go_wp2_with (at_builtin; refine wpList_append_own _ rfl _ _ 63 rfl w.heap.size 3 i0 (.int .i64 0) 1 8 Try.underlying63 hi hz0 hz1 hz2 rfl (by decide) _ _ _ rfl (hown.alloc _) ⟨wr.heap.size, 0, none⟩ 1 1 [.int .i64 ((S % 10000 : Nat) : Int)] rfl rfl (cell_one_new _ _ _) ?c2 ?c3 ?c4 ?c5 ?_)
          case c2 => simp [Value.oneCell']
          case c3 => unfold maxLen; omega
          case c4 => omega
          case c5 => first | omega | (simp; omega)
          intro v' w4 hown' hgrow _
          have hB4 : Below w.heap.size w w4 := (hB.alloc hsz _).grown hgrow (by simp; omega) (fun z e => (hown.lt z e).1)
          have HO1 := Lib.hid (Own.snoc hown' HDL.out.symm)
          clear hown hown' hgrow
          go_wp2
          go_roundw
          case rel => exact ⟨k + 1, S / 10000, ds ++ [S % 10000], vint (by omega), vint (by omega), HO1.out, HS.out, Nat.succ_le_succ hkb, hB4⟩
          case measure => simp [RowKit.intOf]; omega
        · obtain rfl := HX0.out hlx
          obtain rfl := HY0.out hly
          have hzp : 0 < z := by omega
          clear hgo HCX HCY HX0 HY0
          go_wp2_with (at_builtin; refine wpList_append_own _ rfl _ _ 63 rfl w.heap.size 3 i0 (.int .i64 0) 1 8 Try.underlying63 hi hz0 hz1 hz2 rfl (by decide) _ _ _ rfl (hown.alloc _) ⟨wr.heap.size, 0, none⟩ 1 1 [.int .i64 ((z % 10000 : Nat) : Int)] rfl rfl (cell_one_new _ _ _) ?c2 ?c3 ?c4 ?c5 ?_)
          case c2 => simp [Value.oneCell']
          case c3 => unfold maxLen; omega
          case c4 => omega
          case c5 => first | omega | (simp; omega)
          intro v' w4 hown' hgrow _
          have hB4 : Below w.heap.size w w4 := (hB.alloc hsz _).grown hgrow (by simp; omega) (fun z e => (hown.lt z e).1)
          have HO1 := Lib.hid (Own.snoc hown' HDL.out.symm)
          clear hown hown' hgrow
          go_wp2
          go_roundw
          case rel => exact ⟨k + 1, z / 10000, ds ++ [z % 10000], vint (by omega), vint (by omega), HO1.out, HS.out, Nat.succ_le_succ hkb, hB4⟩
          case measure => simp [RowKit.intOf]; omega
    · have hlx : ¬ k < xs.length := by omega
      have hly : ¬ k < ys.length := by omega
      obtain rfl : z = 0 := by omega
      have he := radd_end hR (by omega) (by omega)
      have hl := hR.len
      have cT := rtrim_own _ _ ds wr hR.lim (by omega) hO
      rw [he] at cT
      have CT := Lib.hid cT
      clear cT hO hR he hl hgo
      go_wp2_with fail
      refine CT.out.mono ?_
      rintro e w' ⟨⟨v', rfl, hO7⟩, rfl⟩
      have HO7 := Lib.hid hO7
      clear hO7 CT
      go_wp2
      go_ret
      exact ⟨_, rfl, HO7.out, hB⟩
end Go.Proofs.Ytelhbkfhalpniaa
