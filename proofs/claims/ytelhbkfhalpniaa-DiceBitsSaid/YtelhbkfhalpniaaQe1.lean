/- Several texts in one (Plain: numbers of digits of any base, the lowest digit first; Plain: one step of each loop over limbs; Plain: the guess of a limb of the quotient, and a round of the long division; Words for memory: a row of numbers within a block that may be written; a slice that is read; Words for memory: a row of the call's own, of numbers; Contracts of layer 2: fresh, mulAdd; Contracts of layer 2: comparison; Small facts on answers of layer 2; Contracts of layer 3: fractions, timesTwo; Plain: decimal texts of numbers; Contracts of layer 2: isDigits, Parse; Contracts of layer 2: the bytes turned round; Text; Contracts of layer 2: Text; Contracts of layer 3: digits, ten; Contracts of layer 3: timesTen; Contracts of layer 3: floats by their bits: Abs, IsNaN, IsInf, Parts; Contracts of layer 3: which floats are finite; Parts; Contracts of layer 3: amount; Plain: float64(k) times the constant log10(2), and its floor, for every k that a float has. No walk here; Contracts of layer 4: math.Floor, tensIn; Plain: floats by their rungs, and which one is nearest to a fraction. No walk here; Plain: the float that Read's rounding gives is the nearest one. No walk here; Contracts of layer 3: math.Ldexp of a natural that is a float; Contracts of layer 3: math.Ldexp; Contracts of layer 3: Sci of a number other than nought; Contracts of layer 3: Read of any power: the nearest float; Contracts of layer 3: what its laws share: same, digits one by one; Contracts of layer 3: what its laws share: naturals as floats, digits; Contracts of layer 4: Trunc; Plain: floats by a mantissa of 53 digits; exact differences; one step of what is left. No walk here; Contracts of layer 4: cutSign, hexDigit, Trunc; Contracts of layer 4: the float nearest to a numeral; Contracts of layer 4: math.Mod; Contracts of layer 4: whole numbers: wholeBelow, Whole; Contracts of layer 4: Pow). -/
import Derived.KernelRfl
import Derived.WalkSmall
import Derived.WalkKit
import Derived.ProofKit
import Derived.Below
import Derived.Lib.Hide
import Derived.Laws.OwnMore
import Derived.Lib.SmallJoins
import Derived.Test.YtelhbkfhalpniaaProg
import Derived.Laws.MakeOwn
import Derived.Maps.AppendAt
import Derived.Laws.AppendOwnNone
import Derived.RangeFuncBox
import Derived.Deep.QuietTactic
import Derived.BigQuiet
import Derived.Laws.BitsAllLaws
import Derived.Laws.CopyOwn
import Derived.Outline
import Derived.Lib.BitFns
import Derived.Deep.RegionWith
import Derived.Test.YtelhbkfhalpniaaShelf
import Derived.WalkSpells
import Derived.WalkLawsBesides
import Derived.RegionTactic
import Derived.ChangeAlike
import Derived.Lib.LazyBuf
import Derived.Lib.BufferRead
import Derived.Laws.Cover2
import Derived.Laws.Externs
import Derived.Laws.BitsAll
import Derived.Laws.FloatArith
import Derived.Lib.ItoaNum
import Derived.Lib.AppendIntMem
namespace Go.Proofs.Ytelhbkfhalpniaa

/-- The number that digits write. -/
def vl (B : Nat) : List Nat → Nat
  | [] => 0
  | x :: l => x + B * vl B l
def Lim (B : Nat) (l : List Nat) : Prop := ∀ x ∈ l, x < B
/-- No nought at the top. -/
def Top (l : List Nat) : Prop := l.getLast? ≠ some 0

theorem vl_nil (B : Nat) : vl B [] = 0 := rfl
theorem vl_cons (B x : Nat) (l : List Nat) : vl B (x :: l) = x + B * vl B l := rfl
theorem vl_append (B : Nat) (l m : List Nat) : vl B (l ++ m) = vl B l + B ^ l.length * vl B m := by
  induction l with
  | nil => simp [vl]
  | cons x l ih =>
    rw [List.cons_append, vl_cons, ih, vl_cons, List.length_cons, Nat.pow_succ, Nat.mul_add, Nat.add_assoc, Nat.mul_comm (B ^ l.length) B, Nat.mul_assoc]
theorem vl_one (B x : Nat) : vl B [x] = x := by simp [vl]
theorem vl_snoc (B : Nat) (l : List Nat) (x : Nat) : vl B (l ++ [x]) = vl B l + B ^ l.length * x := by rw [vl_append, vl_one]
theorem vl_zeros (B n : Nat) : vl B (List.replicate n 0) = 0 := by
  induction n with
  | zero => rfl
  | succ n ih => rw [List.replicate_succ, vl_cons, ih]; rfl
theorem lim_nil (B : Nat) : Lim B [] := fun _ h => by cases h
theorem lim_append {B : Nat} {l m : List Nat} : Lim B (l ++ m) ↔ Lim B l ∧ Lim B m := by
  unfold Lim
  constructor
  · exact fun h => ⟨fun x hx => h x (List.mem_append_left _ hx), fun x hx => h x (List.mem_append_right _ hx)⟩
  · rintro ⟨h1, h2⟩ x hx
    rcases List.mem_append.1 hx with h | h
    · exact h1 x h
    · exact h2 x h
theorem lim_cons {B x : Nat} {l : List Nat} : Lim B (x :: l) ↔ x < B ∧ Lim B l := by
  unfold Lim
  simp
theorem lim_one {B x : Nat} : Lim B [x] ↔ x < B := by unfold Lim; simp
theorem lim_take {B : Nat} {l : List Nat} (h : Lim B l) (k : Nat) : Lim B (l.take k) := fun x hx => h x (List.mem_of_mem_take hx)
theorem lim_get {B : Nat} {l : List Nat} (h : Lim B l) (k : Nat) (hk : k < l.length) : l[k] < B := h _ (List.getElem_mem hk)
theorem lim_zeros {B : Nat} (hB : 0 < B) (n : Nat) : Lim B (List.replicate n 0) := fun x hx => by rw [(List.mem_replicate.1 hx).2]; exact hB
theorem vl_lt {B : Nat} {l : List Nat} (h : Lim B l) : vl B l < B ^ l.length := by
  induction l with
  | nil => simp [vl]
  | cons x l ih =>
    obtain ⟨h1, h2⟩ := lim_cons.1 h
    have := ih h2
    rw [vl_cons, List.length_cons, Nat.pow_succ, Nat.mul_comm (B ^ l.length) B]
    have h3 : B * (vl B l + 1) ≤ B * B ^ l.length := Nat.mul_le_mul_left B this
    rw [Nat.mul_add] at h3
    omega
theorem vl_take_drop (B : Nat) (l : List Nat) (k : Nat) (hk : k ≤ l.length) : vl B l = vl B (l.take k) + B ^ k * vl B (l.drop k) := by
  have := vl_append B (l.take k) (l.drop k)
  rw [List.take_append_drop, List.length_take, Nat.min_eq_left hk] at this
  exact this
theorem take_succ_get {α : Type} (l : List α) (k : Nat) (hk : k < l.length) : l.take (k + 1) = l.take k ++ [l[k]] := by
  rw [List.take_succ_eq_append_getElem hk]
theorem drop_get {α : Type} (l : List α) (k : Nat) (hk : k < l.length) : l.drop k = l[k] :: l.drop (k + 1) := (List.drop_eq_getElem_cons hk)
theorem vl_take_succ (B : Nat) (l : List Nat) (k : Nat) (hk : k < l.length) : vl B (l.take (k + 1)) = vl B (l.take k) + B ^ k * l[k] := by
  rw [take_succ_get l k hk, vl_snoc, List.length_take, Nat.min_eq_left (by omega)]

theorem top_nil : Top [] := by simp [Top]
theorem top_snoc {l : List Nat} {x : Nat} : Top (l ++ [x]) ↔ x ≠ 0 := by simp [Top]
theorem snoc_of_ne {l : List Nat} (h : l ≠ []) : ∃ m x, l = m ++ [x] := ⟨l.dropLast, l.getLast h, (List.dropLast_concat_getLast h).symm⟩
theorem vl_top {B : Nat} {l : List Nat} (ht : Top l) (h : l ≠ []) : B ^ (l.length - 1) ≤ vl B l := by
  obtain ⟨m, x, rfl⟩ := snoc_of_ne h
  have hx := top_snoc.1 ht
  rw [vl_snoc, List.length_append, List.length_singleton, Nat.add_sub_cancel]
  have : B ^ m.length * 1 ≤ B ^ m.length * x := Nat.mul_le_mul_left _ (by omega)
  omega
/-- Digits that write a number as it is written. -/
def Norm (B : Nat) (l : List Nat) : Prop := Lim B l ∧ Top l
theorem norm_len_lt {B : Nat} (hB : 0 < B) {l m : List Nat} (hl : Lim B l) (hm : Top m) (h : l.length < m.length) : vl B l < vl B m := by
  have h1 := vl_lt hl
  have h2 := vl_top (B := B) hm (by intro e; rw [e] at h; simp at h)
  have h3 : B ^ l.length ≤ B ^ (m.length - 1) := Nat.pow_le_pow_right hB (by omega)
  omega
theorem lim_unique {B : Nat} : ∀ {l m : List Nat}, Lim B l → Lim B m → l.length = m.length → vl B l = vl B m → l = m
  | [], [], _, _, _, _ => rfl
  | [], _ :: _, _, _, h, _ => by simp at h
  | _ :: _, [], _, _, h, _ => by simp at h
  | x :: l, y :: m, hl, hm, h, he => by
    obtain ⟨a1, a2⟩ := lim_cons.1 hl
    obtain ⟨b1, b2⟩ := lim_cons.1 hm
    rw [vl_cons, vl_cons] at he
    have e1 : x = y := by
      have := congrArg (· % B) he
      simpa [Nat.add_mul_mod_self_left, Nat.mod_eq_of_lt a1, Nat.mod_eq_of_lt b1] using this
    subst e1
    have e2 : vl B l = vl B m := Nat.eq_of_mul_eq_mul_left (show 0 < B by omega) (by omega)
    rw [lim_unique a2 b2 (by simpa using h) e2]
theorem norm_unique {B : Nat} (hB : 0 < B) {l m : List Nat} (hl : Norm B l) (hm : Norm B m) (he : vl B l = vl B m) : l = m := by
  rcases Nat.lt_trichotomy l.length m.length with h | h | h
  · have := norm_len_lt hB hl.1 hm.2 h; omega
  · exact lim_unique hl.1 hm.1 h he
  · have := norm_len_lt hB hm.1 hl.2 h; omega
/-- Without noughts at the top. -/
def trimL : List Nat → List Nat
  | [] => []
  | x :: l => if trimL l = [] then (if x = 0 then [] else [x]) else x :: trimL l
theorem trimL_top : ∀ l, Top (trimL l)
  | [] => top_nil
  | x :: l => by
    unfold trimL
    split
    · split
      · exact top_nil
      · rename_i h; exact top_snoc (l := []).2 h
    · rename_i h
      have := trimL_top l
      obtain ⟨m, y, e⟩ := snoc_of_ne h
      rw [e] at this ⊢
      exact (top_snoc (l := x :: m)).2 (top_snoc.1 this)
theorem trimL_vl (B : Nat) : ∀ l, vl B (trimL l) = vl B l
  | [] => rfl
  | x :: l => by
    have ih := trimL_vl B l
    unfold trimL
    split
    · rename_i h
      rw [h, vl_nil] at ih
      rw [vl_cons, ← ih]
      split
      · rename_i h2; rw [h2]; rfl
      · simp [vl]
    · rw [vl_cons, vl_cons, ih]
theorem trimL_lim {B : Nat} : ∀ {l : List Nat}, Lim B l → Lim B (trimL l)
  | [], _ => lim_nil B
  | x :: l, h => by
    obtain ⟨h1, h2⟩ := lim_cons.1 h
    unfold trimL
    split
    · split
      · exact lim_nil B
      · exact lim_one.2 h1
    · exact lim_cons.2 ⟨h1, trimL_lim h2⟩
/-- The digits of a number: n of them, and noughts at the top taken away. -/
def digs (B : Nat) : Nat → Nat → List Nat
  | 0, _ => []
  | k + 1, n => n % B :: digs B k (n / B)
theorem digs_lim {B : Nat} (hB : 0 < B) : ∀ k n, Lim B (digs B k n)
  | 0, _ => lim_nil B
  | k + 1, _ => lim_cons.2 ⟨Nat.mod_lt _ hB, digs_lim hB k _⟩
theorem digs_vl {B : Nat} : ∀ k n, n < B ^ k → vl B (digs B k n) = n
  | 0, _, h => by simp at h; rw [h]; rfl
  | k + 1, n, h => by
    rw [digs, vl_cons, digs_vl k _ (Nat.div_lt_of_lt_mul (by rw [Nat.pow_succ, Nat.mul_comm] at h; exact h))]
    exact Nat.mod_add_div n B
theorem lt_pow_self' {B : Nat} (hB : 2 ≤ B) (n : Nat) : n < B ^ n := by
  exact Nat.lt_pow_self (by omega)
def dig (B n : Nat) : List Nat := trimL (digs B n n)
theorem dig_vl {B : Nat} (hB : 2 ≤ B) (n : Nat) : vl B (dig B n) = n := by rw [dig, trimL_vl, digs_vl _ _ (lt_pow_self' hB n)]
theorem dig_norm {B : Nat} (hB : 2 ≤ B) (n : Nat) : Norm B (dig B n) := ⟨trimL_lim (digs_lim (by omega) _ _), trimL_top _⟩
theorem dig_eq {B : Nat} (hB : 2 ≤ B) {l : List Nat} {n : Nat} (h : Norm B l) (hv : vl B l = n) : dig B n = l :=
  norm_unique (by omega) (dig_norm hB n) h (by rw [dig_vl hB, hv])
theorem dig_nil {B n : Nat} (hB : 2 ≤ B) (h : dig B n = []) : n = 0 := by rw [← dig_vl hB n, h]; rfl
/-- How the loop that takes noughts away ends. -/
theorem trim_take {B : Nat} (hB : 2 ≤ B) {l : List Nat} {n : Nat} (hl : Lim B l) (hn : n ≤ l.length) (h0 : ∀ j (_ : n ≤ j) (hj : j < l.length), l[j] = 0) (ht : n = 0 ∨ ∃ h : n - 1 < l.length, l[n - 1] ≠ 0) : dig B (vl B l) = l.take n ∧ (dig B (vl B l)).length = n := by
  have hd : l.drop n = List.replicate (l.length - n) 0 := by
    apply List.ext_getElem
    · simp
    · intro i h1 h2
      rw [List.getElem_drop, List.getElem_replicate]
      exact h0 _ (by omega) (by simp at h1; omega)
  have hv : vl B (l.take n) = vl B l := by
    rw [vl_take_drop B l n hn, hd, vl_zeros]; simp
  have e : dig B (vl B l) = l.take n := by
    refine dig_eq hB ⟨lim_take hl n, ?_⟩ hv
    rcases ht with rfl | ⟨h, ht⟩
    · exact top_nil
    · by_cases hz : n = 0
      · subst hz; exact top_nil
      · have := take_succ_get l (n - 1) h
        rw [show n - 1 + 1 = n by omega] at this
        rw [this]
        exact top_snoc.2 ht
  refine ⟨e, ?_⟩
  rw [e, List.length_take]; omega
/-- Comparison from the top: same above, less at one place. -/
theorem vl_cmp_at {B : Nat} {l m : List Nat} {k : Nat} (hl : Lim B l) (he : l.length = m.length) (hk : k < l.length) (ha : l.drop (k + 1) = m.drop (k + 1)) (hx : l[k] < m[k]'(by omega)) : vl B l < vl B m := by
  rw [vl_take_drop B l k (by omega), vl_take_drop B m k (by omega), drop_get l k hk, drop_get m k (by omega), vl_cons, vl_cons, ha]
  have h1 := vl_lt (lim_take hl k)
  rw [List.length_take, Nat.min_eq_left (by omega)] at h1
  generalize vl B (m.drop (k + 1)) = t
  generalize l[k] = x at hx ⊢
  generalize (m[k]'(by omega)) = y at hx ⊢
  have h2 : B ^ k * (x + B * t + 1) ≤ B ^ k * (y + B * t) := Nat.mul_le_mul_left _ (by omega)
  rw [Nat.mul_add _ _ 1] at h2
  omega
/-- Which lists are numbers: as long as the number is small. -/
theorem dig_len_le {B : Nat} (hB : 2 ≤ B) (n k : Nat) : (dig B n).length ≤ k ↔ n < B ^ k := by
  constructor
  · intro h
    have h1 := vl_lt (dig_norm hB n).1
    rw [dig_vl hB] at h1
    exact Nat.lt_of_lt_of_le h1 (Nat.pow_le_pow_right (by omega) h)
  · intro h
    rcases Nat.lt_or_ge k (dig B n).length with h1 | h1
    · have h2 := vl_top (B := B) (dig_norm hB n).2 (by intro e; rw [e] at h1; simp at h1)
      rw [dig_vl hB] at h2
      have h3 : B ^ k ≤ B ^ ((dig B n).length - 1) := Nat.pow_le_pow_right (by omega) (by omega)
      omega
    · exact h1
end Go.Proofs.Ytelhbkfhalpniaa

namespace Go.Proofs.Ytelhbkfhalpniaa

theorem lim_set {B : Nat} {l : List Nat} {k y : Nat} (h : Lim B l) (hy : y < B) : Lim B (l.set k y) := fun x hx => by
  rcases List.mem_or_eq_of_mem_set hx with h1 | h1
  · exact h x h1
  · omega
theorem vl_set (B : Nat) : ∀ (l : List Nat) (k y : Nat) (hk : k < l.length), vl B (l.set k y) + B ^ k * l[k] = vl B l + B ^ k * y
  | x :: l, 0, y, _ => by simp [vl]; omega
  | x :: l, k + 1, y, hk => by
    have ih := vl_set B l k y (by simpa using hk)
    have := congrArg (B * ·) ih
    simp only [Nat.mul_add] at this
    simp only [List.set_cons_succ, vl_cons, List.getElem_cons_succ, Nat.pow_succ, Nat.mul_comm (B ^ k) B, Nat.mul_assoc]
    omega
/-- The digit at a place, 0 behind the end. -/
theorem vl_take_get (B : Nat) (l : List Nat) (k : Nat) : vl B (l.take (k + 1)) = vl B (l.take k) + B ^ k * l.getD k 0 := by
  by_cases hk : k < l.length
  · rw [vl_take_succ B l k hk, List.getD_eq_getElem?_getD, List.getElem?_eq_getElem hk]; rfl
  · rw [List.take_of_length_le (by omega), List.take_of_length_le (by omega), List.getD_eq_getElem?_getD, List.getElem?_eq_none (by omega)]; simp
theorem vl_take_all {B : Nat} {l : List Nat} {k : Nat} (h : l.length ≤ k) : vl B (l.take k) = vl B l := by rw [List.take_of_length_le h]
theorem getD_of {l : List Nat} {k : Nat} (hk : k < l.length) : l.getD k 0 = l[k] := by rw [List.getD_eq_getElem?_getD, List.getElem?_eq_getElem hk]; rfl
theorem getD_no {l : List Nat} {k : Nat} (hk : ¬ k < l.length) : l.getD k 0 = 0 := by rw [List.getD_eq_getElem?_getD, List.getElem?_eq_none (by omega)]; rfl
theorem getD_lt {B : Nat} {l : List Nat} (h : Lim B l) (hB : 0 < B) (k : Nat) : l.getD k 0 < B := by
  by_cases hk : k < l.length
  · rw [getD_of hk]; exact lim_get h k hk
  · rw [getD_no hk]; exact hB

/-- One digit: what is put down and what is carried. -/
theorem digit_step {B P z : Nat} : P * z = P * (z % B) + P * B * (z / B) := by
  have := Nat.mod_add_div z B
  have h2 := congrArg (P * ·) this
  simp only [Nat.mul_add, ← Nat.mul_assoc] at h2
  exact h2.symm

end Go.Proofs.Ytelhbkfhalpniaa

namespace Go.Proofs.Ytelhbkfhalpniaa

/-- All that is known of the numbers that are guessed by: the divisor's two top limbs, the dividend's three. -/
structure GuessOk (B P Dl v1 v0 Nl u2 u1 u0 : Nat) : Prop where
  hP : 0 < P
  hDl : Dl < P
  hNl : Nl < P
  hv0 : v0 < B
  hv1 : v1 < B
  hu0 : u0 < B
  htop : B ≤ 2 * v1
  hB2 : 2 ≤ B
  hless : Nl + P * (u0 + B * (u1 + B * u2)) < B * (Dl + P * (v0 + B * v1))
section
variable {B P Dl v1 v0 Nl u2 u1 u0 : Nat} (h : GuessOk B P Dl v1 v0 Nl u2 u1 u0)
include h
end

section
variable {B D A : Nat} {cur qs : List Nat} {i n : Nat}
end
end Go.Proofs.Ytelhbkfhalpniaa

namespace Go.Proofs.Ytelhbkfhalpniaa
open Go.RowKit

/-- Numbers as cells. -/
def nums (κ : IntKind) (xs : List Nat) : List Value := xs.map fun x : Nat => Value.int κ (x : Int)
theorem nums_len (κ : IntKind) (xs : List Nat) : (nums κ xs).length = xs.length := List.length_map _
theorem nums_set (κ : IntKind) (xs : List Nat) (k y : Nat) : (nums κ xs).set k (.int κ (y : Nat)) = nums κ (xs.set k y) := by
  unfold nums; rw [List.map_set]
theorem nums_append (κ : IntKind) (xs ys : List Nat) : nums κ (xs ++ ys) = nums κ xs ++ nums κ ys := List.map_append
/-- Block g is L, then the numbers xs, then R, and may be written. -/
def At (κ : IntKind) (w : World) (g : Nat) (t : TypeId) (L : List Value) (xs : List Nat) (R : List Value) : Prop :=
  ∃ cs : Array Value, w.heap[g]? = some (.cells cs t (0, 0)) ∧ cs.toList = L ++ nums κ xs ++ R
section
variable {κ : IntKind} {w w' : World} {g o : Nat} {t : TypeId} {L R : List Value} {xs : List Nat}
theorem At.lt (h : At κ w g t L xs R) : g < w.heap.size := by
  obtain ⟨cs, h1, _⟩ := h
  exact (Array.getElem?_eq_some_iff.1 h1).1
theorem At.cell (h : At κ w g t L xs R) (ho : L.length = o) (k : Nat) (hk : k < xs.length) : w.cell? ⟨g, o + k, none⟩ = some (.int κ (xs[k] : Nat)) := by
  obtain ⟨cs, h1, h2⟩ := h
  rw [cell_of_row w g _ cs t (0, 0) h1, ← Array.getElem?_toList, h2, List.append_assoc, List.getElem?_append_right (by omega), ← ho, Nat.add_sub_cancel_left, List.getElem?_append_left (by rw [nums_len]; exact hk), nums, List.getElem?_map, List.getElem?_eq_getElem hk]
  rfl
theorem At.frozen (h : At κ w g t L xs R) (j : Nat) : w.frozen? ⟨g, j, none⟩ = false := by
  obtain ⟨cs, h1, _⟩ := h
  exact frozen_of_row w g j cs t h1
theorem At.set (h : At κ w g t L xs R) (ho : L.length = o) (k y : Nat) (hk : k < xs.length) : At κ (w.setCell ⟨g, o + k, none⟩ (.int κ (y : Nat))) g t L (xs.set k y) R := by
  obtain ⟨cs, h1, h2⟩ := h
  refine ⟨cs.setIfInBounds (o + k) (.int κ (y : Nat)), heap_setCell_same w g (o + k) cs t _ h1, ?_⟩
  rw [Array.toList_setIfInBounds, h2, List.append_assoc, List.set_append, if_neg (by omega), List.set_append, if_pos (by rw [nums_len]; omega), show o + k - L.length = k by omega, nums_set, List.append_assoc]
theorem At.drew (h : At κ w g t L xs R) : At κ w.drew g t L xs R := h
theorem At.drewN (h : At κ w g t L xs R) (n : Nat) : At κ (w.drewN n) g t L xs R := h
theorem At.far (h : At κ w g t L xs R) {g' j : Nat} (hne : g ≠ g') (u : Value) : At κ (w.setCell ⟨g', j, none⟩ u) g t L xs R := by
  obtain ⟨cs, h1, h2⟩ := h
  exact ⟨cs, (heap_setCell_other w ⟨g', j, none⟩ g u (fun e => hne (by simpa using e))).trans h1, h2⟩
theorem At.alloc (h : At κ w g t L xs R) (o : Obj) : At κ (w.alloc o) g t L xs R := by
  obtain ⟨cs, h1, h2⟩ := h
  exact ⟨cs, (Below.heap_alloc w o g (Array.getElem?_eq_some_iff.1 h1).1).trans h1, h2⟩
theorem At.kept (h : At κ w g t L xs R) {row : Option Nat} (hg : w.grownBy w' row) (hne : some g ≠ row) : At κ w' g t L xs R := by
  obtain ⟨cs, h1, h2⟩ := h
  exact ⟨cs, (hg.block g (Array.getElem?_eq_some_iff.1 h1).1 hne).trans h1, h2⟩
theorem At.below (h : At κ w g t L xs R) {B : Nat} (hb : Below B w w') (hg : g < B) : At κ w' g t L xs R := by
  obtain ⟨cs, h1, h2⟩ := h
  exact ⟨cs, (hb.block g hg).trans h1, h2⟩
end
theorem vint {κ : IntKind} {a b : Int} (h : a = b) : Value.int κ a = Value.int κ b := by rw [h]
theorem grown_refl (w : World) (row : Option Nat) : w.grownBy w row := ⟨rfl, rfl, rfl, Nat.le_refl _, fun _ _ _ => rfl⟩
theorem grown_trans {a b c : World} {row : Option Nat} (h : a.grownBy b row) (k : b.grownBy c row) : a.grownBy c row :=
  ⟨k.os.trans h.os, k.tape.trans h.tape, k.output.trans h.output, Nat.le_trans h.size k.size, fun i hi hne => (k.block i (Nat.lt_of_lt_of_le hi h.size) hne).trans (h.block i hi hne)⟩
theorem grown_set {a w : World} {g j : Nat} (h : a.grownBy w (some g)) (u : Value) : a.grownBy (w.setCell ⟨g, j, none⟩ u) (some g) :=
  grown_trans h ⟨rfl, rfl, rfl, by simp [World.setCell], fun k _ hk => heap_setCell_other w ⟨g, j, none⟩ k u (fun e => hk (by simp [e]))⟩
theorem below_drewN' {B : Nat} {a w : World} (h : Below B a w) (n : Nat) : Below B a (w.drewN n) := ⟨h.os, h.tape, h.output, h.size, h.block⟩
/-- A slice that is read. -/
def Rd (κ : IntKind) (w : World) (A : Option Addr) (xs : List Nat) : Prop :=
  ∀ j (_ : j < xs.length), ∃ g o, A = some ⟨g, o, none⟩ ∧ w.cell? ⟨g, o + j, none⟩ = some (.int κ (xs[j] : Nat))
/-- It does not lie in block g. -/
def Off (A : Option Addr) (g : Nat) : Prop := ∀ a, A = some a → a.block ≠ g
section
variable {κ : IntKind} {w w' : World} {A : Option Addr} {xs : List Nat}
theorem Rd.nil : Rd κ w A [] := fun _ h => by simp at h
theorem Rd.of {g o : Nat} (h : ∀ j (_ : j < xs.length), w.cell? ⟨g, o + j, none⟩ = some (.int κ (xs[j] : Nat))) : Rd κ w (some ⟨g, o, none⟩) xs := fun j hj => ⟨g, o, rfl, h j hj⟩
theorem Rd.kept (h : Rd κ w A xs) {g : Nat} (hg : w.grownBy w' (some g)) (hne : Off A g) : Rd κ w' A xs := fun j hj => by
  obtain ⟨g', o, e, hc⟩ := h j hj
  exact ⟨g', o, e, hg.cell hc (by intro e2; cases e2; exact hne _ e rfl)⟩
theorem Rd.below (h : Rd κ w A xs) (hb : Below w.heap.size w w') : Rd κ w' A xs := fun j hj => by
  obtain ⟨g', o, e, hc⟩ := h j hj
  exact ⟨g', o, e, (hb.cell (World.block_lt_of_cell? w _ hc)).trans hc⟩
theorem Rd.take (h : Rd κ w A xs) (n : Nat) : Rd κ w A (xs.take n) := fun j hj => by
  have hj2 : j < xs.length := by rw [List.length_take] at hj; omega
  obtain ⟨g, o, e, hc⟩ := h j hj2
  exact ⟨g, o, e, by rw [hc, List.getElem_take]⟩
theorem At.rd {g : Nat} {t : TypeId} {L R : List Value} (h : At κ w g t L xs R) : Rd κ w (some ⟨g, L.length, none⟩) xs := Rd.of fun j hj => h.cell rfl j hj
end
/-- A row of the call's own, of numbers. -/
def Own (κ : IntKind) (w : World) (B : Nat) (t : TypeId) (v : Value) (xs : List Nat) : Prop := w.ownsRow B t 1 v xs.length (nums κ xs)
end Go.Proofs.Ytelhbkfhalpniaa

namespace Go.Proofs.Ytelhbkfhalpniaa
open Go.RowKit

theorem info_i64 : (Try.prog.info? 3).map (fun i => (i.zero, i.size, i.bytes)) = some (some (.int .i64 0), 1, 8) := by kernel_rfl

section
variable {κ : IntKind} {w w' : World} {B g n cap : Nat} {t : TypeId} {v : Value} {A : Option Addr} {xs : List Nat}
theorem Own.nil (w : World) (B : Nat) (t : TypeId) : Own κ w B t (.slice none 0 0) [] := World.ownsRow_nil _ _ _ _
theorem Own.form (h : Own κ w B t v xs) (hx : 0 < xs.length) : ∃ g cap, v = .slice (some ⟨g, 0, none⟩) xs.length cap ∧ B ≤ g ∧ xs.length ≤ cap ∧ cap ≤ maxLen := by
  rcases h.2 with ⟨_, h0⟩ | ⟨g, cap, cur, rfl, hb, _, h1, h2, _⟩
  · omega
  · exact ⟨g, cap, rfl, hb, h1, h2⟩
theorem Own.forms (h : Own κ w B t v xs) : (v = .slice none 0 0 ∧ xs = []) ∨ ∃ g cap, v = .slice (some ⟨g, 0, none⟩) xs.length cap ∧ B ≤ g ∧ xs.length ≤ cap ∧ cap ≤ maxLen := by
  rcases h.2 with ⟨h1, h0⟩ | ⟨g, cap, cur, rfl, hb, _, h1, h2, _⟩
  · exact .inl ⟨h1, List.eq_nil_of_length_eq_zero h0⟩
  · exact .inr ⟨g, cap, rfl, hb, h1, h2⟩
/-- As a slice: the address is a variable. -/
theorem Own.slice (h : Own κ w B t v xs) : ∃ A cap, v = .slice A xs.length cap ∧ xs.length ≤ cap ∧ cap ≤ maxLen := by
  rcases h.forms with ⟨rfl, rfl⟩ | ⟨g, cap, rfl, _, h1, h2⟩
  · exact ⟨none, 0, rfl, Nat.le_refl _, Nat.zero_le _⟩
  · exact ⟨_, cap, rfl, h1, h2⟩
theorem Own.cell (h : Own κ w B t (.slice (some ⟨g, 0, none⟩) n cap) xs) (k : Nat) (hk : k < xs.length) : w.cell? ⟨g, k, none⟩ = some (.int κ (xs[k] : Nat)) := by
  have hn : n = xs.length := by
    rcases h.form (by omega) with ⟨_, _, e, _⟩
    cases e; rfl
  subst hn
  rw [World.ownsRow.cellAt h k (by omega), nums, List.getElem?_map, List.getElem?_eq_getElem hk]
  rfl
theorem Own.frozen (h : Own κ w B t (.slice (some ⟨g, 0, none⟩) xs.length cap) xs) (k : Nat) : w.frozen? ⟨g, k, none⟩ = false := World.ownsRow.frozenAt h k
theorem Own.set (h : Own κ w B t (.slice (some ⟨g, 0, none⟩) n cap) xs) (hn : n = xs.length) (k y : Nat) : Own κ (w.setCell ⟨g, k, none⟩ (.int κ (y : Nat))) B t (.slice (some ⟨g, 0, none⟩) n cap) (xs.set k y) := by
  subst hn
  have := (World.ownsRow.stored h k (.int κ (y : Nat))).1
  rw [nums_set] at this
  unfold Own
  rw [List.length_set]
  exact this
theorem Own.rd (h : Own κ w B t (.slice A n cap) xs) : Rd κ w A xs := fun j hj => by
  obtain ⟨g, c, e, _⟩ := h.form (by omega)
  cases e
  exact ⟨g, 0, rfl, by rw [Nat.zero_add]; exact h.cell j hj⟩
theorem Own.len (h : Own κ w B t (.slice A n cap) xs) : n = xs.length := by
  rcases h.forms with ⟨e, rfl⟩ | ⟨g, c, e, _⟩
  · cases e; rfl
  · cases e; rfl
theorem Own.addr (h : Own κ w B t (.slice A n cap) xs) (hx : 0 < xs.length) : ∃ g, A = some ⟨g, 0, none⟩ ∧ B ≤ g := by
  obtain ⟨g, c, e, hb, _⟩ := h.form hx
  cases e
  exact ⟨g, rfl, hb⟩
theorem Own.row (h : Own κ w B t v xs) {n : Nat} (hn : xs.length = n) : w.ownsRow B t 1 v n (nums κ xs) := by subst hn; exact h
theorem Own.kept (h : Own κ w B t v xs) {row : Option Nat} (hg : w.grownBy w' row) (hne : v.ownBlock = none ∨ v.ownBlock ≠ row) : Own κ w' B t v xs := World.ownsRow.kept h hg hne
theorem Own.drew (h : Own κ w B t v xs) : Own κ w.drew B t v xs := h
theorem Own.alloc (h : Own κ w B t v xs) (o : Obj) : Own κ (w.alloc o) B t v xs := World.ownsRow.alloc h o
theorem Own.mono (h : Own κ w B t v xs) {B' : Nat} (hb : B' ≤ B) : Own κ w B' t v xs := ⟨h.1, h.2.imp_right fun ⟨g, cap, cur, e, hB, rest⟩ => ⟨g, cap, cur, e, Nat.le_trans hb hB, rest⟩⟩
theorem Own.below (h : Own κ w B t v xs) (hb : Below w.heap.size w w') : Own κ w' B t v xs := by
  refine ⟨h.1, ?_⟩
  rcases h.2 with h0 | ⟨g, cap, cur, rfl, hB, hg, rest⟩
  · exact .inl h0
  · exact .inr ⟨g, cap, cur, rfl, hB, (hb.block g (Array.getElem?_eq_some_iff.1 hg).1).trans hg, rest⟩
theorem Own.lt (h : Own κ w B t (.slice (some ⟨g, 0, none⟩) n cap) xs) : B ≤ g ∧ g < w.heap.size := World.ownsRow.lt h g rfl
theorem Own.take (h : Own κ w B t (.slice A n cap) xs) (m : Nat) (hm : m ≤ xs.length) : Own κ w B t (.slice A m cap) (xs.take m) := by
  have hl : (xs.take m).length = m := by rw [List.length_take]; omega
  unfold Own
  rw [hl]
  rcases h.2 with ⟨e, h0⟩ | ⟨g, c, cur, e, hB, hg, h1, h2, h3, h4⟩
  · cases e
    obtain rfl : m = 0 := by omega
    exact World.ownsRow_nil _ _ _ _
  · cases e
    refine ⟨by rw [nums_len, hl]; omega, .inr ⟨g, cap, cur, rfl, hB, hg, by omega, h2, h3, ?_⟩⟩
    have := congrArg (List.take m) h4
    rw [List.take_take, Nat.mul_one, Nat.min_eq_left (by omega)] at this
    rw [Nat.mul_one, this, nums, nums, List.map_take]
theorem Own.snoc {k : Nat} {x : Nat} (h : w.ownsRow B t 1 v (k + 1) (nums κ xs ++ [.int κ (x : Nat)])) (hk : k = xs.length) : Own κ w B t v (xs ++ [x]) := by
  subst hk
  unfold Own
  rw [List.length_append, nums_append]
  exact h
theorem Own.append {k m : Nat} {ys : List Nat} (h : w.ownsRow B t 1 v (k + m) (nums κ xs ++ nums κ ys)) (hk : k = xs.length) (hm : m = ys.length) : Own κ w B t v (xs ++ ys) := by
  subst hk
  subst hm
  unfold Own
  rw [List.length_append, nums_append]
  exact h
/-- A block whose beginning is read is a row of the call's own. -/
theorem own_of_at {R : List Value} (h : At κ w g t [] xs R) (hB : B ≤ g) (hc : cap = xs.length + R.length) (hm : cap ≤ maxLen) : Own κ w B t (.slice (some ⟨g, 0, none⟩) xs.length cap) xs := by
  obtain ⟨cs, h1, h2⟩ := h
  have hl : cs.size = cap := by rw [← Array.length_toList, h2]; simp [nums_len, hc]
  refine ⟨by rw [nums_len]; omega, .inr ⟨g, cap, cs, rfl, hB, h1, by omega, hm, by omega, ?_⟩⟩
  rw [h2, List.nil_append, Nat.mul_one, List.take_append_of_le_length (by rw [nums_len]; exact Nat.le_refl _), List.take_of_length_le (by rw [nums_len]; exact Nat.le_refl _)]
/-- The cells of a slice that is read, as the law of append wants them. -/
theorem Rd.news {g o : Nat} (h : Rd κ w (some ⟨g, o, none⟩) xs) : ∀ j u, (nums κ xs)[j]? = some u → w.cell? ((⟨g, o, none⟩ : Addr).add j) = some u := by
  intro j u hu
  by_cases hj : j < xs.length
  · obtain ⟨g', o', e, hc⟩ := h j hj
    cases e
    rw [nums, List.getElem?_map, List.getElem?_eq_getElem hj] at hu
    rw [Addr.add_lit, hc]
    exact hu
  · rw [List.getElem?_eq_none (by rw [nums_len]; omega)] at hu
    cases hu
theorem nums_one (κ : IntKind) (xs : List Nat) : ∀ u ∈ nums κ xs, u.oneCell' = true := by
  intro u hu
  obtain ⟨x, _, rfl⟩ := List.mem_map.1 hu
  rfl
end
end Go.Proofs.Ytelhbkfhalpniaa

namespace Go.Proofs.Ytelhbkfhalpniaa
open Go.RowKit Go.Lib

/-- The end of a contract that makes a row of its own. -/
def Makes (κ : IntKind) (t : TypeId) (w : World) (xs : List Nat) (e : Ending) (w' : World) : Prop := ∃ v, e = .returned v ∧ Own κ w' w.heap.size t v xs ∧ Below w.heap.size w w'

end Go.Proofs.Ytelhbkfhalpniaa

namespace Go.Proofs.Ytelhbkfhalpniaa
open Go.RowKit Go.Lib

def cmpZ (a b : Nat) : Int := if a < b then -1 else if b < a then 1 else 0
theorem cmpZ_lt {a b : Nat} (h : a < b) : cmpZ a b = -1 := by rw [cmpZ, if_pos h]
theorem cmpZ_gt {a b : Nat} (h : b < a) : cmpZ a b = 1 := by rw [cmpZ, if_neg (by omega), if_pos h]
theorem cmpZ_eq {a b : Nat} (h : a = b) : cmpZ a b = 0 := by rw [cmpZ, if_neg (by omega), if_neg (by omega)]

end Go.Proofs.Ytelhbkfhalpniaa

namespace Go.Proofs.Ytelhbkfhalpniaa
open Go.RowKit Go.Lib

theorem Own.slice_ {κ : IntKind} {w : World} {B : Nat} {t : TypeId} {v : Value} {xs : List Nat} (h : Own κ w B t v xs) : ∃ A cap, v = .slice A xs.length cap ∧ (A = none → cap = 0) := by
  rcases h.forms with ⟨rfl, rfl⟩ | ⟨g, cap, rfl, _, _, _⟩
  · exact ⟨none, 0, rfl, fun _ => rfl⟩
  · exact ⟨_, cap, rfl, fun e => by cases e⟩
end Go.Proofs.Ytelhbkfhalpniaa

namespace Go.Proofs.Ytelhbkfhalpniaa
open Go.RowKit Go.Lib

theorem Rd.far {κ : IntKind} {W : World} {A : Option Addr} {xs : List Nat} (h : Rd κ W A xs) {g j : Nat} (hne : Off A g) (u : Value) : Rd κ (W.setCell ⟨g, j, none⟩ u) A xs := h.kept (grown_set (grown_refl W (some g)) u) hne
end Go.Proofs.Ytelhbkfhalpniaa

namespace Go.Proofs.Ytelhbkfhalpniaa

/-- The number that bytes of decimal digits write, the highest first. -/
def pv : List UInt8 → Nat := fun l => l.foldl (fun a c => a * 10 + (c.toNat - 48)) 0
theorem pv_foldl (l : List UInt8) : ∀ a, l.foldl (fun a c => a * 10 + (c.toNat - 48)) a = a * 10 ^ l.length + pv l := by
  induction l with
  | nil => intro a; simp [pv]
  | cons c l ih =>
    intro a
    have h1 := ih (a * 10 + (c.toNat - 48))
    have h2 := ih (0 * 10 + (c.toNat - 48))
    simp only [List.foldl_cons, List.length_cons, pv] at h1 h2 ⊢
    rw [h1, h2, Nat.pow_succ]
    simp only [Nat.add_mul, Nat.mul_assoc, Nat.mul_comm 10]
    omega
theorem pv_append (l m : List UInt8) : pv (l ++ m) = pv l * 10 ^ m.length + pv m := by
  unfold pv
  rw [List.foldl_append, pv_foldl]
  rfl
theorem pv_one (c : UInt8) : pv [c] = c.toNat - 48 := by simp [pv]
theorem pv_snoc (l : List UInt8) (c : UInt8) : pv (l ++ [c]) = pv l * 10 + (c.toNat - 48) := by rw [pv_append, pv_one]; simp
/-- Decimal digits, every one. -/
def Dec (l : List UInt8) : Prop := ∀ c ∈ l, 48 ≤ c.toNat ∧ c.toNat ≤ 57
theorem dec_append {l m : List UInt8} : Dec (l ++ m) ↔ Dec l ∧ Dec m := by
  unfold Dec
  constructor
  · exact fun h => ⟨fun x hx => h x (List.mem_append_left _ hx), fun x hx => h x (List.mem_append_right _ hx)⟩
  · rintro ⟨h1, h2⟩ x hx
    rcases List.mem_append.1 hx with h | h
    · exact h1 x h
    · exact h2 x h
theorem dec_take {l : List UInt8} (h : Dec l) (k : Nat) : Dec (l.take k) := fun x hx => h x (List.mem_of_mem_take hx)
theorem dec_drop {l : List UInt8} (h : Dec l) (k : Nat) : Dec (l.drop k) := fun x hx => h x (List.mem_of_mem_drop hx)
theorem pv_cons (c : UInt8) (l : List UInt8) : pv (c :: l) = (c.toNat - 48) * 10 ^ l.length + pv l := by
  have := pv_append [c] l
  rwa [pv_one] at this
theorem pv_lt {l : List UInt8} (h : Dec l) : pv l < 10 ^ l.length := by
  induction l with
  | nil => simp [pv]
  | cons c l ih =>
    have h3 := ih (fun x hx => h x (List.mem_cons_of_mem _ hx))
    have h4 := h c List.mem_cons_self
    rw [pv_cons, List.length_cons, Nat.pow_succ]
    have : (c.toNat - 48) * 10 ^ l.length ≤ 9 * 10 ^ l.length := Nat.mul_le_mul_right _ (by omega)
    omega

/-- A digit as a byte. -/
def db (d : Nat) : UInt8 := UInt8.ofNat (48 + d)
theorem db_toNat {d : Nat} (h : d < 10) : (db d).toNat = 48 + d := by
  unfold db
  rw [UInt8.toNat_ofNat']
  omega
/-- A number's decimal text. -/
def decs (n : Nat) : List UInt8 := if n = 0 then [48] else (dig 10 n).reverse.map db
/-- Every text of digits is the decimal text of its number, noughts ahead taken away. -/
theorem decs_pv {l : List Nat} (hl : Lim 10 l) (hn : vl 10 l ≠ 0) : decs (vl 10 l) = (l.reverse.dropWhile (· == 0)).map db := by
  have hn2 : dig 10 (vl 10 l) = (l.reverse.dropWhile (· == 0)).reverse := by
    have hsplit : l = (l.reverse.dropWhile (· == 0)).reverse ++ (l.reverse.takeWhile (· == 0)).reverse := by
      rw [← List.reverse_append, List.takeWhile_append_dropWhile, List.reverse_reverse]
    have hz : vl 10 (l.reverse.takeWhile (· == 0)).reverse = 0 := by
      have : (l.reverse.takeWhile (· == 0)).reverse = List.replicate (l.reverse.takeWhile (· == 0)).reverse.length 0 := by
        rw [List.eq_replicate_iff]
        refine ⟨rfl, fun b hb => ?_⟩
        have := List.all_eq_true.1 (List.all_takeWhile (p := fun x : Nat => x == 0) (l := l.reverse)) b (List.mem_reverse.1 hb)
        simpa using this
      rw [this, vl_zeros]
    have hv : vl 10 (l.reverse.dropWhile (· == 0)).reverse = vl 10 l := by
      conv => rhs; rw [hsplit, vl_append, hz]
      simp
    refine dig_eq (by decide) ⟨?_, ?_⟩ hv
    · intro x hx
      refine hl x ?_
      rw [hsplit]
      exact List.mem_append_left _ hx
    · intro e
      rw [List.getLast?_reverse] at e
      have := List.head?_dropWhile_not (fun x : Nat => x == 0) l.reverse
      rw [e] at this
      simp at this
  rw [decs, if_neg hn, hn2, List.reverse_reverse]
end Go.Proofs.Ytelhbkfhalpniaa

namespace Go.Proofs.Ytelhbkfhalpniaa
open Go.RowKit Go.Lib

theorem ba_len (s : ByteArray) : s.data.toList.length = s.size := Array.length_toList
theorem ba_take_snoc (s : ByteArray) (k : Nat) (h : k < s.size) : s.data.toList.take (k + 1) = s.data.toList.take k ++ [s[k]] := by
  rw [List.take_succ_eq_append_getElem (by rw [ba_len]; exact h)]; rfl
theorem ba_nil {s : ByteArray} (h : s.size = 0) : s.data.toList = [] := List.eq_nil_of_length_eq_zero (by rw [ba_len]; exact h)
theorem dec_snoc {l : List UInt8} {c : UInt8} (h : Dec l) (hc : 48 ≤ c.toNat ∧ c.toNat ≤ 57) : Dec (l ++ [c]) := dec_append.2 ⟨h, fun x hx => by rw [List.mem_singleton] at hx; rw [hx]; exact hc⟩
theorem dec_at {s : ByteArray} (h : Dec s.data.toList) (k : Nat) (hk : k < s.size) : 48 ≤ s[k].toNat ∧ s[k].toNat ≤ 57 := h _ (by
  have : s[k] = s.data.toList[k]'(by rw [ba_len]; exact hk) := rfl
  rw [this]
  exact List.getElem_mem _)

/-- Is it one decimal digit or more? -/
noncomputable def isDec (s : ByteArray) : Bool := @decide (0 < s.size ∧ Dec s.data.toList) (Classical.propDecidable _)
theorem isDec_iff {s : ByteArray} : isDec s = true ↔ 0 < s.size ∧ Dec s.data.toList := by
  unfold isDec
  exact @decide_eq_true_iff _ (Classical.propDecidable _)
theorem isDec_no {s : ByteArray} : isDec s = false ↔ ¬ (0 < s.size ∧ Dec s.data.toList) := by
  unfold isDec
  exact @decide_eq_false_iff_not _ (Classical.propDecidable _)

end Go.Proofs.Ytelhbkfhalpniaa

namespace Go.Proofs.Ytelhbkfhalpniaa
open Go.RowKit Go.Lib

theorem info_u8 : (Try.prog.info? 5).map (fun i => (i.zero, i.size, i.bytes)) = some (some (.int .u8 0), 1, 1) := by kernel_rfl
end Go.Proofs.Ytelhbkfhalpniaa

namespace Go.Proofs.Ytelhbkfhalpniaa
open Go.RowKit Go.Lib

/-- Digits as bytes. -/
def d8 (ds : List Nat) : List Nat := ds.map fun d => 48 + d
theorem d8_len (ds : List Nat) : (d8 ds).length = ds.length := List.length_map _
def lenOf : Value → Nat | .slice _ n _ => n | _ => 0
end Go.Proofs.Ytelhbkfhalpniaa

namespace Go.Proofs.Ytelhbkfhalpniaa
open Go.RowKit Go.Lib

theorem pv_zeros (k : Nat) : pv (List.replicate k (48 : UInt8)) = 0 := by
  induction k with
  | zero => rfl
  | succ k ih => rw [List.replicate_succ, pv_cons, ih]; simp
end Go.Proofs.Ytelhbkfhalpniaa

namespace Go.Proofs.Ytelhbkfhalpniaa
open Go.RowKit Go.Lib

/-- A block of two cells that is there. -/
structure Two (W : World) (g : Nat) (a b : Value) (t : TypeId) : Prop where
  row : W.heap[g]? = some (.cells #[a, b] t (0, 0))
theorem Two.facts {W : World} {g : Nat} {a b : Value} {t : TypeId} (h : Two W g a b t) : W.cell? ⟨g, 0, none⟩ = some a ∧ W.cell? ⟨g, 1, none⟩ = some b ∧ W.frozen? ⟨g, 0, none⟩ = false ∧ W.frozen? ⟨g, 1, none⟩ = false ∧ g < W.heap.size := by
  have h0 := cell_of_row W _ 0 _ _ _ h.row
  have h1 := cell_of_row W _ 1 _ _ _ h.row
  simp only [List.getElem?_toArray, List.getElem?_cons_zero, List.getElem?_cons_succ] at h0 h1
  exact ⟨h0, h1, frozen_of_row W _ 0 _ _ h.row, frozen_of_row W _ 1 _ _ h.row, (Array.getElem?_eq_some_iff.1 h.row).1⟩
theorem Two.below {W W' : World} {g : Nat} {a b : Value} {t : TypeId} (h : Two W g a b t) (hb : Below W.heap.size W W') : Two W' g a b t := ⟨(hb.block g (Array.getElem?_eq_some_iff.1 h.row).1).trans h.row⟩
theorem Two.alloc {W : World} {g : Nat} {a b : Value} {t : TypeId} (h : Two W g a b t) (o : Obj) : Two (W.alloc o) g a b t := ⟨(Below.heap_alloc W o g (Array.getElem?_eq_some_iff.1 h.row).1).trans h.row⟩

end Go.Proofs.Ytelhbkfhalpniaa

namespace Go.Proofs.Ytelhbkfhalpniaa
open Go.RowKit Go.Lib

/-- The bits without the sign. -/
def mag (b : Nat) : Nat := b % 9223372036854775808
theorem run_f64bits (b : Nat) (W : World) : (callFunc 23 #[.float .f64 b]).run Try.prog W = .ok (.value (.int .u64 b)) W := by
  rw [run_callFunc_extern Try.func23 (by kernel_rfl) (by kernel_rfl) (by kernel_rfl) (e := Extern.MathFloatBits.float64bits) (by kernel_rfl)]
  rfl
theorem run_f64from (n : Nat) (W : World) : (callFunc 12 #[.int .u64 n]).run Try.prog W = .ok (.value (.float .f64 n)) W := by
  rw [run_callFunc_extern Try.func12 (by kernel_rfl) (by kernel_rfl) (by kernel_rfl) (e := Extern.MathFloatBits.float64frombits) (by kernel_rfl)]
  rfl
def nanB (b : Nat) : Bool := FloatKind.f64.format.order b b != some .eq
theorem isNaN_any (b : Nat) (w : World) : Calls Try.prog 32 #[.float .f64 b] w fun e w' => e = .returned (.bool (nanB b)) ∧ w = w' := by
  have h : (FloatKind.f64.format.order b b != some .eq) = nanB b := rfl
  go_enter Try.func32, Try.ntmps32
  go_wp2
  go_ret
  exact ⟨rfl, rfl⟩
end Go.Proofs.Ytelhbkfhalpniaa

namespace Go.Proofs.Ytelhbkfhalpniaa
open Go.RowKit Go.Lib

theorem dbl_sign : Ieee.double.signWeight = 9223372036854775808 := by decide
theorem dbl_binade : Ieee.double.binade = 4503599627370496 := by decide
theorem dbl_inf : Ieee.double.infRung = 9218868437227405312 := by decide
theorem dbl_least : Ieee.double.leastPlace = -1074 := by decide
/-- A finite float's natural and power. -/
def manF (r : Nat) : Nat := if r < 4503599627370496 then r else 4503599627370496 + r % 4503599627370496
def expF (r : Nat) : Int := if r < 4503599627370496 then -1074 else -1074 + ((r / 4503599627370496 - 1 : Nat) : Int)
theorem read_fin {b : Nat} (h : mag b < 9218868437227405312) : Ieee.double.read b = .number (b / 9223372036854775808 % 2 == 1) (manF (mag b)) (expF (mag b)) := by
  unfold Ieee.Format.read manF expF mag at *
  simp only [dbl_sign, dbl_binade, dbl_inf, dbl_least]
  split
  · rfl
  · rfl
theorem read_inf {b : Nat} (h : mag b = 9218868437227405312) : Ieee.double.read b = .infinity (b / 9223372036854775808 % 2 == 1) := by
  unfold Ieee.Format.read mag at *
  simp only [dbl_sign, dbl_binade, dbl_inf]
  rw [if_neg (by omega), if_neg (by omega), if_pos h]
theorem read_nan {b : Nat} (h : 9218868437227405312 < mag b) : Ieee.double.read b = .nan (b / 9223372036854775808 % 2 == 1) (mag b - 9218868437227405312) := by
  unfold Ieee.Format.read mag at *
  simp only [dbl_sign, dbl_binade, dbl_inf]
  rw [if_neg (by omega), if_neg (by omega), if_neg (by omega)]
theorem nan_no {b : Nat} (h : mag b ≤ 9218868437227405312) : nanB b = false := by
  show (Ieee.double.order b b != some .eq) = false
  unfold Ieee.Format.order
  rcases Nat.lt_or_ge (mag b) 9218868437227405312 with h1 | h1
  · rw [read_fin h1]
    simp [Ieee.Datum.order]
  · rw [read_inf (by omega)]
    simp [Ieee.Datum.order]
theorem nan_yes {b : Nat} (h : 9218868437227405312 < mag b) : nanB b = true := by
  show (Ieee.double.order b b != some .eq) = true
  unfold Ieee.Format.order
  rw [read_nan h]
  rfl
end Go.Proofs.Ytelhbkfhalpniaa

namespace Go.Proofs.Ytelhbkfhalpniaa
open Go.RowKit Go.Lib

/-- A row of numbers is not touched by a store where no number is. -/
theorem Rd.other {κ : IntKind} {W : World} {A : Option Addr} {xs : List Nat} (h : Rd κ W A xs) {g j : Nat} {u0 : Value} (hc : W.cell? ⟨g, j, none⟩ = some u0) (hu : ∀ z, u0 ≠ .int κ z) (u : Value) : Rd κ (W.setCell ⟨g, j, none⟩ u) A xs := fun i hi => by
  obtain ⟨g', o, e, hc'⟩ := h i hi
  refine ⟨g', o, e, ?_⟩
  have hne : (⟨g', o + i, none⟩ : Addr) ≠ ⟨g, j, none⟩ := fun e2 => by
    rw [e2] at hc'
    rw [hc] at hc'
    exact hu _ (Option.some.inj hc')
  rw [World.cell?_setCell_other _ _ _ _ (fun e3 => hne e3.symm)]
  exact hc'
theorem manF_lt {r : Nat} : manF r < 9007199254740992 := by unfold manF; split <;> omega
theorem expF_bd {r : Nat} (h : r < 9218868437227405312) : -1074 ≤ expF r ∧ expF r ≤ 971 := by unfold expF; split <;> omega
/-- The parts of a float as a fraction. -/
def amN (r : Nat) : Nat := manF r * 2 ^ (expF r).toNat
def amD (r : Nat) : Nat := 2 ^ (-expF r).toNat
theorem amD_pos (r : Nat) : 0 < amD r := Nat.pow_pos (by omega)

end Go.Proofs.Ytelhbkfhalpniaa

namespace Go.Proofs.Ytelhbkfhalpniaa
def flo (x : Nat) : Nat := FloatKind.f64.encode ((FloatKind.f64.decode x).integral .down)
def isNum : Ieee.Datum → Bool | .number .. => true | _ => false
end Go.Proofs.Ytelhbkfhalpniaa

namespace Go.Proofs.Ytelhbkfhalpniaa
open Go.RowKit Go.Lib

attribute [local irreducible] FloatKind.decode in
theorem floor_step (x : Nat) (s : Bool) (m : Nat) (p : Int) (hd : FloatKind.f64.decode x = .number s m p) : Extern.MathFloor.toIntegral "math.archFloor" .down #[.float .f64 x] = pure (.float .f64 (flo x)) := by
  unfold flo
  conv => lhs; whnf
  rw [hd]
theorem run_floor (x : Nat) (W : World) (h : isNum (FloatKind.f64.decode x) = true) : (callFunc 39 #[.float .f64 x]).run Try.prog W = .ok (.value (.float .f64 (flo x))) W := by
  rw [run_callFunc_extern Try.func39 (by kernel_rfl) (by kernel_rfl) (by kernel_rfl) (e := Extern.MathFloor.toIntegral "math.archFloor" .down) (by kernel_rfl)]
  cases hd : FloatKind.f64.decode x with
  | number s m p => rw [floor_step x s m p hd]; rfl
  | infinity s => rw [hd] at h; cases h
  | nan s t => rw [hd] at h; cases h
theorem floor_any (x : Nat) (w : World) (h : isNum (FloatKind.f64.decode x) = true) : Calls Try.prog 35 #[.float .f64 x] w fun e w' => e = .returned (.float .f64 (flo x)) ∧ w = w' := by
  have h1 := fun W => run_floor x W h
  go_enter Try.func35, Try.ntmps35
  go_wp2
  go_ret
  exact ⟨rfl, rfl⟩
end Go.Proofs.Ytelhbkfhalpniaa

namespace Go.Proofs.Ytelhbkfhalpniaa

/-- What the float of rung r is, counted in the least one. -/
def V (r : Nat) : Nat := if r < 4503599627370496 then r else (4503599627370496 + r % 4503599627370496) * 2 ^ (r / 4503599627370496 - 1)
def U (r : Nat) : Nat := 2 ^ (r / 4503599627370496 - 1)
theorem U_pos (r : Nat) : 0 < U r := Nat.pow_pos (by omega)
theorem V_succ (r : Nat) : V (r + 1) = V r + U r := by
  unfold V U
  by_cases h : r + 1 < 4503599627370496
  · rw [if_pos h, if_pos (by omega), show r / 4503599627370496 - 1 = 0 by omega, Nat.pow_zero]
  · rw [if_neg h]
    by_cases h2 : r < 4503599627370496
    · obtain rfl : r = 4503599627370495 := by omega
      decide
    · rw [if_neg h2]
      by_cases h3 : (r + 1) % 4503599627370496 = 0
      · rw [h3, show (r + 1) / 4503599627370496 - 1 = r / 4503599627370496 - 1 + 1 by omega, Nat.pow_succ, show r % 4503599627370496 = 4503599627370495 by omega]
        generalize 2 ^ (r / 4503599627370496 - 1) = z
        omega
      · rw [show (r + 1) / 4503599627370496 = r / 4503599627370496 by omega, show (r + 1) % 4503599627370496 = r % 4503599627370496 + 1 by omega, ← Nat.add_assoc, Nat.succ_mul]
theorem V_lt {r s : Nat} (h : r < s) : V r < V s := by
  induction s with
  | zero => omega
  | succ s ih =>
    have h1 := V_succ s
    have h2 := U_pos s
    rcases Nat.lt_or_ge r s with h3 | h3
    · have := ih h3; omega
    · obtain rfl : r = s := by omega
      omega
theorem V_le {r s : Nat} (h : r ≤ s) : V r ≤ V s := by
  rcases Nat.lt_or_ge r s with h1 | h1
  · exact Nat.le_of_lt (V_lt h1)
  · obtain rfl : r = s := by omega
    exact Nat.le_refl _
theorem V_inj {r s : Nat} (h : V r = V s) : r = s := by
  rcases Nat.lt_trichotomy r s with h1 | h1 | h1
  · have := V_lt h1; omega
  · exact h1
  · have := V_lt h1; omega
theorem V_at (e m : Nat) (hm : m ≤ 9007199254740992) (h : e = 0 ∨ 4503599627370496 ≤ m) : V (e * 4503599627370496 + m) = m * 2 ^ e := by
  unfold V
  by_cases h1 : m = 9007199254740992
  · subst h1
    rw [if_neg (by omega), show (e * 4503599627370496 + 9007199254740992) % 4503599627370496 = 0 by omega, show (e * 4503599627370496 + 9007199254740992) / 4503599627370496 - 1 = e + 1 by omega, Nat.pow_succ]
    generalize 2 ^ e = z
    omega
  · by_cases h2 : 4503599627370496 ≤ m
    · rw [if_neg (by omega), show (e * 4503599627370496 + m) / 4503599627370496 - 1 = e by omega, show 4503599627370496 + (e * 4503599627370496 + m) % 4503599627370496 = m by omega]
    · obtain rfl : e = 0 := by omega
      rw [if_pos (by omega)]
      simp

/-- r is the rung nearest to X / (2 D); of two, the even one; the last is infinity. -/
structure Near (X D r : Nat) : Prop where
  lo : ∀ q, r = q + 1 → (V q + V r) * D ≤ X
  loe : ∀ q, r = q + 1 → (V q + V r) * D = X → r % 2 = 0
  hi : r < 9218868437227405312 → X ≤ (V r + V (r + 1)) * D
  hie : r < 9218868437227405312 → X = (V r + V (r + 1)) * D → r % 2 = 0
  top : r ≤ 9218868437227405312
/-- A number that is not greater has no greater nearest float. -/
theorem Near.le {X D r X' D' r' : Nat} (hD : 0 < D) (hD' : 0 < D') (h : X * D' ≤ X' * D) (a : Near X D r) (b : Near X' D' r') : r ≤ r' := by
  rcases Nat.lt_or_ge r' r with hlt | hge
  · exfalso
    obtain ⟨q, rfl⟩ : ∃ q, r = q + 1 := ⟨r - 1, by omega⟩
    have h1 := a.lo q rfl
    have h2 := b.hi (by have := a.top; omega)
    have e1 : (V q + V (q + 1)) * D * D' ≤ X * D' := Nat.mul_le_mul_right _ h1
    have e2 : X' * D ≤ (V r' + V (r' + 1)) * D' * D := Nat.mul_le_mul_right _ h2
    rw [Nat.mul_right_comm _ D' D] at e2
    rcases Nat.lt_or_ge r' q with h3 | h3
    · have h4 := V_lt h3
      have h5 := V_le (show r' + 1 ≤ q + 1 by omega)
      have h6 : (V r' + V (r' + 1)) * D * D' < (V q + V (q + 1)) * D * D' := Nat.mul_lt_mul_of_pos_right (Nat.mul_lt_mul_of_pos_right (by omega) hD) hD'
      omega
    · obtain rfl : r' = q := by omega
      have e3 : X * D' = (V r' + V (r' + 1)) * D * D' := by omega
      have e4 : X' * D = (V r' + V (r' + 1)) * D' * D := by rw [Nat.mul_right_comm _ D' D]; omega
      have p1 := a.loe r' rfl (Nat.eq_of_mul_eq_mul_right hD' e3).symm
      have p2 := b.hie (by have := a.top; omega) (Nat.eq_of_mul_eq_mul_right hD e4)
      omega
  · exact hge
theorem Near.uniq {X D r X' D' r' : Nat} (hD : 0 < D) (hD' : 0 < D') (h : X * D' = X' * D) (a : Near X D r) (b : Near X' D' r') : r = r' :=
  Nat.le_antisymm (a.le hD hD' (by omega) b) (b.le hD' hD (by omega) a)
/-- A float is the nearest one to itself. -/
theorem Near.self {r : Nat} (h : r < 9218868437227405312) : Near (2 * V r) 1 r := by
  have h1 := V_lt (show r < r + 1 by omega)
  refine ⟨fun q e => ?_, fun q e => ?_, fun _ => by omega, fun _ e => by omega, by omega⟩
  · have := V_lt (show q < r by omega); omega
  · have := V_lt (show q < r by omega); omega
end Go.Proofs.Ytelhbkfhalpniaa

namespace Go.Proofs.Ytelhbkfhalpniaa

def S1074 : Nat := 2 ^ 1074
theorem S_eq (c : Nat) (h : c = 1074) : S1074 = 2 ^ c := by subst h; rfl
theorem near_zero {D : Nat} (_hD : 0 < D) : Near 0 D 0 :=
  ⟨fun q e => absurd e (by omega), fun q e => absurd e (by omega), fun _ => Nat.zero_le _, fun _ _ => rfl, by omega⟩
end Go.Proofs.Ytelhbkfhalpniaa

namespace Go.Proofs.Ytelhbkfhalpniaa
open Go.RowKit Go.Lib

theorem dbl_frac : Ieee.double.fractionBits = 52 := rfl
theorem word_pos (r : Nat) : Ieee.double.word false r = r := rfl
theorem log2_bd {n : Nat} (h : 0 < n) : 2 ^ n.log2 ≤ n ∧ n < 2 ^ (n.log2 + 1) := ⟨Nat.log2_self_le (by omega), Nat.lt_log2_self⟩
theorem log2_is {n k : Nat} (h1 : 2 ^ k ≤ n) (h2 : n < 2 ^ (k + 1)) : n.log2 = k := by
  have h0 : 0 < n := Nat.lt_of_lt_of_le (Nat.pow_pos (by omega)) h1
  obtain ⟨a, b⟩ := log2_bd h0
  have c1 := (Nat.pow_lt_pow_iff_right (show 1 < 2 by omega)).1 (Nat.lt_of_le_of_lt h1 b)
  have c2 := (Nat.pow_lt_pow_iff_right (show 1 < 2 by omega)).1 (Nat.lt_of_le_of_lt a h2)
  omega
theorem log2_mul {m : Nat} (j : Nat) (h : 0 < m) : (m * 2 ^ j).log2 = m.log2 + j := by
  obtain ⟨a, b⟩ := log2_bd h
  refine log2_is ?_ ?_
  · rw [Nat.pow_add]; exact Nat.mul_le_mul_right _ a
  · rw [Nat.add_right_comm, Nat.pow_add]; exact Nat.mul_lt_mul_of_pos_right b (Nat.pow_pos (by omega))
theorem log2_le52 {m : Nat} (h : 0 < m) (h2 : m < 9007199254740992) : m.log2 ≤ 52 := by
  have := (log2_bd h).1
  have h3 : 2 ^ m.log2 < 2 ^ 53 := Nat.lt_of_le_of_lt this h2
  have := (Nat.pow_lt_pow_iff_right (show 1 < 2 by omega)).1 h3
  omega
theorem log2_52 {m : Nat} (h : 4503599627370496 ≤ m) (h2 : m < 9007199254740992) : m.log2 = 52 := log2_is h h2
theorem cut_exact (m j : Nat) (hm : 0 < m) : Ieee.Toward.even.cut false (m * 2 ^ j) j = m := by
  have hp : 0 < 2 ^ j := Nat.pow_pos (by omega)
  have hl := log2_mul j hm
  have hmin : min j ((m * 2 ^ j).log2 + 2) = j := by omega
  unfold Ieee.Toward.cut
  simp only [hmin, Nat.one_shiftLeft, Nat.mul_div_cancel _ hp, Nat.mul_mod_left]
  have h1 : (2 ^ j == 0) = false := by rw [beq_eq_false_iff_ne]; omega
  simp [h1]
/-- A number that is a float is written as it. -/
theorem nearest_exact {m j e : Nat} {place : Int} (hm : 0 < m) (hm2 : m < 9007199254740992) (he : place + (j : Int) + 1074 = (e : Int)) (hc : e = 0 ∨ 4503599627370496 ≤ m) :
    Ieee.double.nearest false (m * 2 ^ j) place = min (e * 4503599627370496 + m) 9218868437227405312 := by
  have hne : m * 2 ^ j ≠ 0 := Nat.pos_iff_ne_zero.1 (Nat.mul_pos hm (Nat.pow_pos (by omega)))
  have hl := log2_mul j hm
  have hb := log2_le52 hm hm2
  have hlast : max (place + ((m * 2 ^ j).log2 : Int) - ((52 : Nat) : Int)) (-1074) = place + (j : Int) := by
    rcases hc with h | h
    · omega
    · have := log2_52 h hm2; omega
  unfold Ieee.Format.nearest
  rw [if_neg hne]
  simp only [dbl_frac, dbl_least, dbl_binade, dbl_inf, hlast]
  rw [show (place - (place + (j : Int))).toNat = 0 by omega, show (place + (j : Int) - place).toNat = j by omega, Nat.shiftLeft_zero, cut_exact m j hm, show (place + (j : Int) - -1074).toNat = e by omega, word_pos]
/-- The bits of a natural below 2^53 as a float. -/
def fw (m : Nat) : Nat := if m = 0 then 0 else (m.log2 + 1022) * 4503599627370496 + m * 2 ^ (52 - m.log2)
theorem full_bd {m : Nat} (h : 0 < m) (h2 : m < 9007199254740992) : 4503599627370496 ≤ m * 2 ^ (52 - m.log2) ∧ m * 2 ^ (52 - m.log2) < 9007199254740992 := by
  obtain ⟨a, b⟩ := log2_bd h
  have hb := log2_le52 h h2
  have c1 : 2 ^ m.log2 * 2 ^ (52 - m.log2) ≤ m * 2 ^ (52 - m.log2) := Nat.mul_le_mul_right _ a
  have c2 : m * 2 ^ (52 - m.log2) < 2 ^ (m.log2 + 1) * 2 ^ (52 - m.log2) := Nat.mul_lt_mul_of_pos_right b (Nat.pow_pos (by omega))
  rw [← Nat.pow_add, show m.log2 + (52 - m.log2) = 52 by omega] at c1
  rw [← Nat.pow_add, show m.log2 + 1 + (52 - m.log2) = 53 by omega] at c2
  exact ⟨c1, c2⟩
theorem fw_pos {m : Nat} (h : 0 < m) : fw m = (m.log2 + 1022) * 4503599627370496 + m * 2 ^ (52 - m.log2) := if_neg (by omega)
theorem fw_bd {m : Nat} (h2 : m < 9007199254740992) : fw m < 4845873199050653696 := by
  rcases Nat.eq_zero_or_pos m with rfl | h
  · decide
  · have := full_bd h h2
    have := log2_le52 h h2
    rw [fw_pos h]
    omega
theorem fw_mag {m : Nat} (h2 : m < 9007199254740992) : mag (fw m) = fw m := Nat.mod_eq_of_lt (by have := fw_bd h2; omega)
theorem fw_V {m : Nat} (h2 : m < 9007199254740992) : V (fw m) = m * S1074 := by
  rcases Nat.eq_zero_or_pos m with rfl | h
  · show V 0 = _
    rw [Nat.zero_mul]; decide
  · obtain ⟨c, hc⟩ : ∃ c : Nat, c = 1074 := ⟨_, rfl⟩
    have hb := log2_le52 h h2
    obtain ⟨f1, f2⟩ := full_bd h h2
    rw [fw_pos h, V_at _ _ (Nat.le_of_lt f2) (Or.inr f1), S_eq c hc, Nat.mul_assoc, ← Nat.pow_add]
    congr 2
    omega
theorem nearest_up {m : Nat} (hm : 0 < m) (hm2 : m < 9007199254740992) : Ieee.double.nearest false m 0 = fw m := by
  have hb := log2_le52 hm hm2
  obtain ⟨f1, f2⟩ := full_bd hm hm2
  have hlast : max ((0 : Int) + (m.log2 : Int) - ((52 : Nat) : Int)) (-1074) = (m.log2 : Int) - 52 := by omega
  rw [fw_pos hm]
  unfold Ieee.Format.nearest
  rw [if_neg (by omega)]
  simp only [dbl_frac, dbl_least, dbl_binade, dbl_inf, hlast]
  have hcut := cut_exact (m * 2 ^ (52 - m.log2)) 0 (by omega)
  rw [Nat.pow_zero, Nat.mul_one] at hcut
  rw [show ((0 : Int) - ((m.log2 : Int) - 52)).toNat = 52 - m.log2 by omega, show ((m.log2 : Int) - 52 - 0).toNat = 0 by omega, Nat.shiftLeft_eq, hcut, show ((m.log2 : Int) - 52 - -1074).toNat = m.log2 + 1022 by omega, Nat.min_eq_left (by omega), word_pos]
/-- float64(m) of a natural below 2^53. -/
theorem float_nat {m : Nat} (hm2 : m < 9007199254740992) : floatOfInt .f64 (m : Int) = fw m := by
  rcases Nat.eq_zero_or_pos m with rfl | h
  · decide
  · show Ieee.double.write (.number (decide ((m : Int) < 0)) ((m : Int)).natAbs 0) = _
    rw [show decide ((m : Int) < 0) = false from decide_eq_false (by omega), Int.natAbs_natCast]
    exact nearest_up h hm2
theorem expF_lo (r : Nat) : -1074 ≤ expF r := by unfold expF; split <;> omega
theorem val_V {r : Nat} : manF r <<< (expF r - -1074).toNat = V r := by
  rw [Nat.shiftLeft_eq]
  unfold manF expF V
  split
  · rw [show ((-1074 : Int) - -1074).toNat = 0 by omega]; simp
  · congr 2
    omega
/-- Which of two floats that are finite and not below nought is the greater one. -/
theorem order_V {r s : Nat} (hr : r < 9218868437227405312) (hs : s < 9218868437227405312) : Ieee.double.order r s = some (compare (r : Int) (s : Int)) := by
  have hm : ∀ x, x < 9218868437227405312 → mag x = x := fun x h => Nat.mod_eq_of_lt (by omega)
  have hg : ∀ x, x < 9218868437227405312 → (x / 9223372036854775808 % 2 == 1) = false := fun x h => by rw [beq_eq_false_iff_ne]; omega
  unfold Ieee.Format.order
  rw [read_fin (by rw [hm r hr]; exact hr), hm r hr, read_fin (by rw [hm s hs]; exact hs), hm s hs, hg r hr, hg s hs]
  show some (compare (Ieee.signed false (manF r) (expF r - min (expF r) (expF s)).toNat) (Ieee.signed false (manF s) (expF s - min (expF r) (expF s)).toNat)) = _
  have h1 := expF_lo r
  have h2 := expF_lo s
  obtain ⟨c, hc⟩ : ∃ c : Nat, min (expF r) (expF s) + 1074 = (c : Int) := ⟨(min (expF r) (expF s) + 1074).toNat, by omega⟩
  have key : ∀ x : Nat, (expF x - -1074).toNat = (expF x - min (expF r) (expF s)).toNat + c → manF x * 2 ^ (expF x - min (expF r) (expF s)).toNat * 2 ^ c = V x := fun x hx => by
    rw [← val_V, Nat.shiftLeft_eq, hx, Nat.pow_add, Nat.mul_assoc]
  have kr := key r (by omega)
  have ks := key s (by omega)
  show some (compare ((manF r <<< _ : Nat) : Int) ((manF s <<< _ : Nat) : Int)) = _
  rw [Nat.shiftLeft_eq, Nat.shiftLeft_eq]
  generalize manF r * 2 ^ (expF r - min (expF r) (expF s)).toNat = x at *
  generalize manF s * 2 ^ (expF s - min (expF r) (expF s)).toNat = y at *
  have hp : 0 < 2 ^ c := Nat.pow_pos (by omega)
  congr 1
  rcases Nat.lt_trichotomy r s with h | h | h
  · rw [Int.compare_eq_lt.2 (show (r : Int) < (s : Int) by omega), Int.compare_eq_lt]
    have hv := V_lt h
    rw [← kr, ← ks] at hv
    have := Nat.lt_of_mul_lt_mul_right hv
    omega
  · subst h
    have : x = y := Nat.eq_of_mul_eq_mul_right hp (by rw [kr, ks])
    rw [this, Int.compare_eq_eq.2 rfl, Int.compare_eq_eq.2 rfl]
  · rw [Int.compare_eq_gt.2 (show (s : Int) < (r : Int) by omega), Int.compare_eq_gt]
    have hv := V_lt h
    rw [← kr, ← ks] at hv
    have := Nat.lt_of_mul_lt_mul_right hv
    omega
end Go.Proofs.Ytelhbkfhalpniaa

namespace Go.Proofs.Ytelhbkfhalpniaa
open Go.RowKit Go.Lib

theorem mul_one {m k : Nat} (h1 : 4503599627370496 ≤ m) (h2 : m < 9007199254740992) (hk0 : 1 ≤ k) (hk : k ≤ 2046) : floatBits .mul .f64 4607182418800017408 (k * 4503599627370496 + (m - 4503599627370496)) = some (k * 4503599627370496 + (m - 4503599627370496)) := by
  obtain ⟨y, hy⟩ : ∃ y, k * 4503599627370496 + (m - 4503599627370496) = y := ⟨_, rfl⟩
  rw [hy]
  have hmy : mag y = y := Nat.mod_eq_of_lt (by omega)
  have hman : manF y = m := by rw [manF, if_neg (by omega)]; omega
  have hexp : expF y = (k : Int) - 1075 := by rw [expF, if_neg (by omega)]; omega
  show (((Ieee.double.read 4607182418800017408).product (Ieee.double.read y)).map Ieee.double.write) = _
  rw [show Ieee.double.read 4607182418800017408 = .number false 4503599627370496 (-52) by decide, read_fin (by rw [hmy]; omega), hmy, hman, hexp, show (y / 9223372036854775808 % 2 == 1) = false by rw [beq_eq_false_iff_ne]; omega]
  show some (Ieee.double.nearest false (4503599627370496 * m) (-52 + ((k : Int) - 1075))) = _
  have hx := nearest_exact (m := m) (j := 52) (e := k - 1) (place := -52 + ((k : Int) - 1075)) (by omega) h2 (by omega) (Or.inr h1)
  rw [Nat.mul_comm 4503599627370496 m, show m * 4503599627370496 = m * 2 ^ 52 from rfl, hx]
  exact congrArg some (by omega)

end Go.Proofs.Ytelhbkfhalpniaa

namespace Go.Proofs.Ytelhbkfhalpniaa
open Go.RowKit Go.Lib

theorem decs_le {n k : Nat} (hk : 1 ≤ k) : (decs n).length ≤ k ↔ n < 10 ^ k := by
  unfold decs
  split
  · rename_i h
    subst h
    exact ⟨fun _ => Nat.pow_pos (by omega), fun _ => hk⟩
  · rw [List.length_map, List.length_reverse]
    exact dig_len_le (by decide) n k
end Go.Proofs.Ytelhbkfhalpniaa

namespace Go.Proofs.Ytelhbkfhalpniaa
open Go.RowKit Go.Lib

theorem big310 (c d : Nat) (hc : c = 310) (hd : d = 1025) : 2 ^ d ≤ 10 ^ c := by
  have h : 2 ^ 205 ≤ 10 ^ 62 := by decide
  have h2 := Nat.pow_le_pow_left h 5
  rwa [← Nat.pow_mul, ← Nat.pow_mul, show 205 * 5 = d by omega, show 62 * 5 = c by omega] at h2
theorem big325 (c d : Nat) (hc : c = 325) (hd : d = 1075) : 2 ^ d ≤ 10 ^ c := by
  have h : 2 ^ 215 ≤ 10 ^ 65 := by decide
  have h2 := Nat.pow_le_pow_left h 5
  rwa [← Nat.pow_mul, ← Nat.pow_mul, show 215 * 5 = d by omega, show 65 * 5 = c by omega] at h2
theorem V_inf (c : Nat) (hc : c = 2046) : V 9218868437227405312 = 4503599627370496 * 2 ^ c := by
  have h := V_at c 4503599627370496 (by omega) (Or.inr (by omega))
  rwa [show c * 4503599627370496 + 4503599627370496 = 9218868437227405312 by omega] at h
end Go.Proofs.Ytelhbkfhalpniaa

namespace Go.Proofs.Ytelhbkfhalpniaa
open Go.RowKit Go.Lib

theorem decs_step {m : Nat} (h : 10 ≤ m) : decs m = decs (m / 10) ++ [db (m % 10)] := by
  have h0 : m / 10 ≠ 0 := by omega
  have e : dig 10 m = m % 10 :: dig 10 (m / 10) := by
    refine dig_eq (by decide) ⟨lim_cons.2 ⟨Nat.mod_lt _ (by omega), (dig_norm (by decide) _).1⟩, ?_⟩ ?_
    · have := (dig_norm (B := 10) (by decide) (m / 10)).2
      have hn : dig 10 (m / 10) ≠ [] := fun e => h0 (dig_nil (by decide) e)
      unfold Top at *
      rw [List.getLast?_cons]
      rw [List.getLast?_eq_some_getLast hn] at this ⊢
      exact this
    · rw [vl_cons, dig_vl (by decide)]
      omega
  rw [decs, if_neg (by omega), e, decs, if_neg h0]
  simp
theorem decs_one {m : Nat} (h : m < 10) : decs m = [db (m % 10)] := by
  have : ∀ m : Nat, m < 10 → decs m = [db (m % 10)] := by decide
  exact this m h
/-- What stands ahead of the digits that are written already. -/
def ahead (m : Nat) : List UInt8 := if m < 10 then [] else decs (m / 10)
theorem ahead_step (m : Nat) : ahead m ++ [db (m % 10)] = decs m := by
  unfold ahead
  split
  · rw [decs_one (by assumption)]; rfl
  · rw [decs_step (m := m) (by omega)]
end Go.Proofs.Ytelhbkfhalpniaa

namespace Go.Proofs.Ytelhbkfhalpniaa
open Go.RowKit Go.Lib

theorem V_am {r : Nat} : V r * amD r = amN r * S1074 := by
  obtain ⟨c, hc⟩ : ∃ c : Nat, c = 1074 := ⟨_, rfl⟩
  rw [← val_V, Nat.shiftLeft_eq, amN, amD, S_eq c hc, Nat.mul_assoc, Nat.mul_assoc, ← Nat.pow_add, ← Nat.pow_add]
  have := expF_lo r
  rw [show (expF r - -1074).toNat + (-expF r).toNat = (expF r).toNat + c by omega]
theorem S_pos : 0 < S1074 := by
  obtain ⟨c, hc⟩ : ∃ c : Nat, c = 1074 := ⟨_, rfl⟩
  rw [S_eq c hc]
  exact Nat.pow_pos (by omega)
theorem pv_noughts (k : Nat) (l : List UInt8) : pv (List.replicate k 48 ++ l) = pv l := by
  rw [pv_append, pv_zeros, Nat.zero_mul, Nat.zero_add]
theorem pv_decs (n : Nat) : pv (decs n) = n := by
  induction n using Nat.strongRecOn with
  | _ n ih =>
    rw [← ahead_step, pv_snoc]
    unfold ahead
    split
    · rw [db_toNat (by omega)]
      simp [pv]
      omega
    · rw [ih _ (by omega), db_toNat (Nat.mod_lt _ (by omega))]
      omega
theorem dec_decs (n : Nat) : Dec (decs n) := by
  induction n using Nat.strongRecOn with
  | _ n ih =>
    rw [← ahead_step]
    intro c hc
    rcases List.mem_append.1 hc with h | h
    · unfold ahead at h
      split at h
      · exact absurd h (by simp)
      · exact ih _ (by omega) c h
    · rw [List.mem_singleton.1 h, db_toNat (Nat.mod_lt _ (by omega))]
      omega
theorem dec_noughts (k : Nat) : Dec (List.replicate k (48 : UInt8)) := fun c hc => by
  rw [(List.mem_replicate.1 hc).2]
  decide
/-- The number that is read, where the exact value is a natural below 2^53. -/
theorem near_fw {m a r : Nat} {D : Nat} (hm : m < 9007199254740992) (hD : 0 < D) (ha : a = m * D) (h : Near (2 * a * S1074) D r) : r = fw m := by
  have hs := Near.self (r := fw m) (by have := fw_bd hm; omega)
  rw [fw_V hm] at hs
  refine h.uniq hD (by omega) ?_ hs
  rw [ha]
  generalize S1074 = z
  ac_rfl
end Go.Proofs.Ytelhbkfhalpniaa

namespace Go.Proofs.Ytelhbkfhalpniaa
open Go.RowKit Go.Lib

/-- The sign's bit. -/
def sgn (b : Nat) : Nat := b / 9223372036854775808 % 2 * 9223372036854775808
theorem sgn_mag (b : Nat) (hb : b < 18446744073709551616) : sgn b + mag b = b := by unfold sgn mag; omega
theorem word_sign (s : Bool) (r : Nat) : Ieee.double.word s r = (if s = true then 9223372036854775808 else 0) + r := by
  cases s
  · exact (word_pos r).trans (by simp)
  · show Ieee.double.signWeight + r = _
    rw [dbl_sign]
    rfl
theorem nearest_sign (s : Bool) (m : Nat) (p : Int) : Ieee.double.nearest s m p = (if s = true then 9223372036854775808 else 0) + Ieee.double.nearest false m p := by
  unfold Ieee.Format.nearest
  split
  · rw [word_sign, word_sign]; simp
  · simp only [word_sign]
    cases s
    · simp only [Bool.false_eq_true, if_false, Nat.zero_add]
    · simp only [Bool.false_eq_true, if_false, if_true, Nat.zero_add]
      rfl
/-- Without what stands behind the point. -/
def truncR (r : Nat) : Nat := if 0 ≤ expF r then r else fw (manF r / 2 ^ (-expF r).toNat)
theorem cut_zero (s : Bool) (n j : Nat) : Ieee.Toward.zero.cut s n j = n / 2 ^ j := by
  unfold Ieee.Toward.cut
  simp only [Nat.one_shiftLeft, Bool.toNat_false, Nat.add_zero]
  rcases Nat.le_total j (n.log2 + 2) with h | h
  · rw [Nat.min_eq_left h]
  · rw [Nat.min_eq_right h]
    have h1 : n < 2 ^ (n.log2 + 2) := by
      rcases Nat.eq_zero_or_pos n with h0 | h0
      · subst h0; exact Nat.pow_pos (by omega)
      · have := (log2_bd h0).2
        have h2 : 2 ^ (n.log2 + 1) ≤ 2 ^ (n.log2 + 2) := Nat.pow_le_pow_right (by omega) (by omega)
        omega
    have h2 : 2 ^ (n.log2 + 2) ≤ 2 ^ j := Nat.pow_le_pow_right (by omega) h
    rw [Nat.div_eq_of_lt h1, Nat.div_eq_of_lt (by omega)]
theorem trunc_val {b : Nat} (_hb : b < 18446744073709551616) (h : mag b < 9218868437227405312) : FloatKind.f64.encode ((FloatKind.f64.decode b).integral .zero) = sgn b + truncR (mag b) := by
  have hs : (if (b / 9223372036854775808 % 2 == 1) = true then 9223372036854775808 else 0) = sgn b := by
    unfold sgn
    rcases (by omega : b / 9223372036854775808 % 2 = 0 ∨ b / 9223372036854775808 % 2 = 1) with e | e
    · rw [e]; decide
    · rw [e]; decide
  show Ieee.double.write ((Ieee.double.read b).integral .zero) = _
  rw [read_fin h]
  show Ieee.double.nearest (b / 9223372036854775808 % 2 == 1) (Ieee.Toward.zero.cut (b / 9223372036854775808 % 2 == 1) (manF (mag b) <<< (expF (mag b)).toNat) (-expF (mag b)).toNat) 0 = _
  rw [nearest_sign, hs, cut_zero, Nat.shiftLeft_eq]
  have hml := manF_lt (r := mag b)
  unfold truncR
  by_cases he : 0 ≤ expF (mag b)
  · rw [if_pos he, show (-expF (mag b)).toNat = 0 by omega, Nat.pow_zero, Nat.div_one]
    obtain ⟨e, hee⟩ : ∃ e : Nat, expF (mag b) = (e : Int) := ⟨(expF (mag b)).toNat, by omega⟩
    have hr : 4503599627370496 ≤ mag b := by
      rcases Nat.lt_or_ge (mag b) 4503599627370496 with h1 | h1
      · rw [expF, if_pos h1] at he; omega
      · exact h1
    have hm : manF (mag b) = 4503599627370496 + mag b % 4503599627370496 := by rw [manF, if_neg (by omega)]
    have hx : expF (mag b) = -1074 + ((mag b / 4503599627370496 - 1 : Nat) : Int) := by rw [expF, if_neg (by omega)]
    have hn := nearest_exact (m := manF (mag b)) (j := e) (e := e + 1074) (place := 0) (by omega) hml (by omega) (Or.inr (by omega))
    rw [hee, Int.toNat_natCast, hn]
    congr 1
    rw [Nat.min_eq_left (by omega)]
    omega
  · rw [if_neg he, show (expF (mag b)).toNat = 0 by omega, Nat.pow_zero, Nat.mul_one]
    have hq : manF (mag b) / 2 ^ (-expF (mag b)).toNat < 9007199254740992 := Nat.lt_of_le_of_lt (Nat.div_le_self _ _) hml
    congr 1
    rcases Nat.eq_zero_or_pos (manF (mag b) / 2 ^ (-expF (mag b)).toNat) with h0 | h0
    · rw [h0]; decide
    · exact nearest_up h0 hq
end Go.Proofs.Ytelhbkfhalpniaa

namespace Go.Proofs.Ytelhbkfhalpniaa

/-- The place of the first digit of a float, counted in the least one. -/
def Lg (r : Nat) : Nat := if r < 4503599627370496 then r.log2 else r / 4503599627370496 + 51
/-- Its 53 digits. -/
def Mt (r : Nat) : Nat := if r < 4503599627370496 then r * 2 ^ (52 - r.log2) else 4503599627370496 + r % 4503599627370496
theorem Mt_bd {r : Nat} (h : 0 < r) : 4503599627370496 ≤ Mt r ∧ Mt r < 9007199254740992 := by
  unfold Mt
  split
  · exact full_bd h (by omega)
  · omega
theorem two52 : (4503599627370496 : Nat) = 2 ^ 52 := by decide
theorem V_Mt {r : Nat} (h : 0 < r) : V r * 4503599627370496 = Mt r * 2 ^ Lg r := by
  unfold V Mt Lg
  by_cases h1 : r < 4503599627370496
  · have hb := log2_le52 h (by omega)
    rw [if_pos h1, if_pos h1, if_pos h1, Nat.mul_assoc, ← Nat.pow_add, show 52 - r.log2 + r.log2 = 52 by omega]
  · rw [if_neg h1, if_neg h1, if_neg h1, show r / 4503599627370496 + 51 = r / 4503599627370496 - 1 + 52 by omega, Nat.pow_add, Nat.mul_assoc]
theorem nearest_fit {D : Nat} {p : Int} (hD : 0 < D) (hD2 : D < 9007199254740992) (hp : -1074 ≤ p) (hp2 : p ≤ 971) :
    ∃ t, Ieee.double.nearest false D p = t ∧ t < 9218868437227405312 ∧ V t = D * 2 ^ (p + 1074).toNat := by
  have hb := log2_le52 hD hD2
  obtain ⟨f1, f2⟩ := full_bd hD hD2
  obtain ⟨s, hs1, hs2, hs3⟩ : ∃ s : Nat, max (p + (D.log2 : Int) - ((52 : Nat) : Int)) (-1074) = p - (s : Int) ∧ s ≤ 52 - D.log2 ∧ (p - (s : Int) = -1074 ∨ s = 52 - D.log2) :=
    ⟨(p - max (p + (D.log2 : Int) - 52) (-1074)).toNat, by omega, by omega, by omega⟩
  obtain ⟨e, he⟩ : ∃ e : Nat, p - (s : Int) + 1074 = (e : Int) := ⟨(p - (s : Int) + 1074).toNat, by omega⟩
  have hm1 : 0 < D * 2 ^ s := Nat.mul_pos hD (Nat.pow_pos (by omega))
  have hm2 : D * 2 ^ s < 9007199254740992 := Nat.lt_of_le_of_lt (Nat.mul_le_mul_left _ (Nat.pow_le_pow_right (by omega) hs2)) f2
  have hm3 : e = 0 ∨ 4503599627370496 ≤ D * 2 ^ s := by
    rcases hs3 with h | h
    · left; omega
    · right; rw [h]; exact f1
  have hcut := cut_exact (D * 2 ^ s) 0 hm1
  rw [Nat.pow_zero, Nat.mul_one] at hcut
  refine ⟨e * 4503599627370496 + D * 2 ^ s, ?_, by omega, ?_⟩
  · unfold Ieee.Format.nearest
    rw [if_neg (by omega)]
    simp only [dbl_frac, dbl_least, dbl_binade, dbl_inf, hs1]
    rw [show (p - (p - (s : Int))).toNat = s by omega, show (p - (s : Int) - p).toNat = 0 by omega, Nat.shiftLeft_eq, hcut, show (p - (s : Int) - -1074).toNat = e by omega, word_pos, Nat.min_eq_left (by omega)]
  · rw [V_at _ _ (Nat.le_of_lt hm2) hm3, Nat.mul_assoc, ← Nat.pow_add]
    congr 2
    omega
theorem expF_mono {z r : Nat} (h : z ≤ r) : expF z ≤ expF r := by unfold expF; split <;> split <;> omega
theorem V_man {r : Nat} : V r = manF r * 2 ^ (expF r + 1074).toNat := by
  rw [← val_V, Nat.shiftLeft_eq]
  rfl
theorem sign_no {r : Nat} (h : r < 9218868437227405312) : (r / 9223372036854775808 % 2 == 1) = false := by rw [beq_eq_false_iff_ne]; omega
theorem mag_no {r : Nat} (h : r < 9218868437227405312) : mag r = r := Nat.mod_eq_of_lt (by omega)
/-- The difference of two floats of which the greater is at most twice the other one is exact. -/
theorem sub_exact {r z : Nat} (hr : r < 9218868437227405312) (_hz : 0 < z) (h1 : z ≤ r) (h2 : V r ≤ 2 * V z) :
    ∃ t, floatBits .sub .f64 r z = some t ∧ t < 9218868437227405312 ∧ V t = V r - V z := by
  have hz2 : z < 9218868437227405312 := by omega
  have hE := expF_mono h1
  have hEz := expF_bd hz2
  obtain ⟨k, hk⟩ : ∃ k : Nat, expF r - expF z = (k : Int) := ⟨(expF r - expF z).toNat, by omega⟩
  have hVz := V_man (r := z)
  have hVr := V_man (r := r)
  rw [show (expF r + 1074).toNat = k + (expF z + 1074).toNat by omega, Nat.pow_add, ← Nat.mul_assoc] at hVr
  have hc : 0 < 2 ^ (expF z + 1074).toNat := Nat.pow_pos (by omega)
  have hle := V_le h1
  rw [hVz, hVr] at hle h2
  rw [← Nat.mul_assoc] at h2
  have g1 := Nat.le_of_mul_le_mul_right hle hc
  have g2 := Nat.le_of_mul_le_mul_right h2 hc
  obtain ⟨D, hD⟩ : ∃ D, manF r * 2 ^ k - manF z = D := ⟨_, rfl⟩
  have hn := manF_lt (r := z)
  have hVD : V r - V z = D * 2 ^ (expF z + 1074).toNat := by rw [hVr, hVz, ← Nat.sub_mul, hD]
  rw [hVD]
  show ∃ t, (((Ieee.double.read r).sum (Ieee.double.read z).opposite).map Ieee.double.write) = some t ∧ _
  rw [read_fin (by rw [mag_no hr]; exact hr), read_fin (by rw [mag_no hz2]; exact hz2), mag_no hr, mag_no hz2, sign_no hr, sign_no hz2]
  have htot : Ieee.signed false (manF r) (expF r - min (expF r) (expF z)).toNat + Ieee.signed true (manF z) (expF z - min (expF r) (expF z)).toNat = (D : Int) := by
    rw [show min (expF r) (expF z) = expF z by omega, show (expF z - expF z).toNat = 0 by omega, show (expF r - expF z).toNat = k by omega]
    show ((manF r <<< k : Nat) : Int) + -((manF z <<< 0 : Nat) : Int) = _
    rw [Nat.shiftLeft_eq, Nat.shiftLeft_zero]
    omega
  show ∃ t, some (Ieee.double.write (.number (if Ieee.signed false (manF r) (expF r - min (expF r) (expF z)).toNat + Ieee.signed true (manF z) (expF z - min (expF r) (expF z)).toNat = 0 then false && true else decide (Ieee.signed false (manF r) (expF r - min (expF r) (expF z)).toNat + Ieee.signed true (manF z) (expF z - min (expF r) (expF z)).toNat < 0)) (Ieee.signed false (manF r) (expF r - min (expF r) (expF z)).toNat + Ieee.signed true (manF z) (expF z - min (expF r) (expF z)).toNat).natAbs (min (expF r) (expF z)))) = some t ∧ _
  rw [htot, Int.natAbs_natCast, show min (expF r) (expF z) = expF z by omega]
  rcases Nat.eq_zero_or_pos D with h0 | h0
  · refine ⟨0, ?_, by omega, ?_⟩
    · rw [h0]
      rfl
    · rw [h0, Nat.zero_mul]
      decide
  · rw [if_neg (by omega), decide_eq_false (by omega)]
    obtain ⟨t, h3, h4, h5⟩ := nearest_fit (D := D) (p := expF z) h0 (by omega) hEz.1 hEz.2
    exact ⟨t, congrArg some h3, h4, h5⟩
/-- A float times a power of two. -/
def ldR (y k : Nat) : Nat := if 52 ≤ Lg y + k then (Lg y + k - 51) * 4503599627370496 + (Mt y - 4503599627370496) else y * 2 ^ k
theorem low_fit {y k : Nat} (h : 0 < y) (h2 : Lg y + k < 52) : y < 4503599627370496 ∧ y * 2 ^ k < 4503599627370496 ∧ Lg y = y.log2 := by
  have hy : y < 4503599627370496 := by
    rcases Nat.lt_or_ge y 4503599627370496 with h1 | h1
    · exact h1
    · rw [Lg, if_neg (by omega)] at h2; omega
  have hl : Lg y = y.log2 := by rw [Lg, if_pos hy]
  refine ⟨hy, ?_, hl⟩
  have hb := (log2_bd h).2
  rw [hl] at h2
  have h3 : y * 2 ^ k < 2 ^ (y.log2 + 1) * 2 ^ k := Nat.mul_lt_mul_of_pos_right hb (Nat.pow_pos (by omega))
  rw [← Nat.pow_add] at h3
  refine Nat.lt_of_lt_of_le h3 ?_
  rw [two52]
  exact Nat.pow_le_pow_right (by omega) (by omega)
theorem shift_one {j m : Nat} (h : 4503599627370496 ≤ m) : (j + 1) * 4503599627370496 + (m - 4503599627370496) = j * 4503599627370496 + m := by omega
theorem pow_52 {n : Nat} (h : 52 ≤ n) : 2 ^ (n - 52) * 4503599627370496 = 2 ^ n := by
  have e : 2 ^ n = 2 ^ (n - 52) * 2 ^ 52 := by rw [← Nat.pow_add]; congr 1; omega
  rw [e, ← two52]
theorem V_ldR {y k : Nat} (h : 0 < y) : V (ldR y k) = V y * 2 ^ k := by
  unfold ldR
  by_cases hk : 52 ≤ Lg y + k
  · rw [if_pos hk]
    obtain ⟨b1, b2⟩ := Mt_bd h
    have e : (Lg y + k - 51) * 4503599627370496 + (Mt y - 4503599627370496) = (Lg y + k - 52) * 4503599627370496 + Mt y := by
      clear h
      obtain ⟨j, hj⟩ : ∃ j, Lg y + k - 52 = j := ⟨_, rfl⟩
      rw [hj, show Lg y + k - 51 = j + 1 by omega]
      exact shift_one b1
    rw [e, V_at _ _ (Nat.le_of_lt b2) (Or.inr b1)]
    have hm := V_Mt h
    refine Nat.eq_of_mul_eq_mul_right (show 0 < 4503599627370496 by omega) ?_
    rw [Nat.mul_right_comm (V y), hm, Nat.mul_assoc (Mt y) _ (2 ^ k), ← Nat.pow_add, Nat.mul_assoc]
    exact congrArg (Mt y * ·) (pow_52 hk)
  · rw [if_neg hk]
    obtain ⟨h1, h2, -⟩ := low_fit (k := k) h (by omega)
    rw [V, if_pos h2, V, if_pos h1]
/-- How often a float is doubled till it is next below another one. -/
def modK (r y : Nat) : Nat := Lg r - (Lg y + if Mt r < Mt y then 1 else 0)
theorem mod_step {r y : Nat} (hy : 0 < y) (h : y ≤ r) : Lg y + (if Mt r < Mt y then 1 else 0) ≤ Lg r ∧ 0 < ldR y (modK r y) ∧ ldR y (modK r y) ≤ r ∧ V r ≤ 2 * V (ldR y (modK r y)) := by
  have hr : 0 < r := by omega
  obtain ⟨a1, a2⟩ := Mt_bd hy
  obtain ⟨b1, b2⟩ := Mt_bd hr
  have e1 := V_Mt hy
  have e2 := V_Mt hr
  have hV := V_le h
  have hle : Lg y + (if Mt r < Mt y then 1 else 0) ≤ Lg r := by
    rcases Nat.lt_or_ge (Lg r) (Lg y + (if Mt r < Mt y then 1 else 0)) with hc | hc
    · exfalso
      have h3 : Mt r * 2 ^ Lg r < Mt y * 2 ^ Lg y := by
        split at hc
        · refine Nat.lt_of_lt_of_le (Nat.mul_lt_mul_of_pos_right ‹_› (Nat.pow_pos (by omega))) ?_
          exact Nat.mul_le_mul_left _ (Nat.pow_le_pow_right (by omega) (by omega))
        · have h4 : 2 ^ (Lg r + 1) ≤ 2 ^ Lg y := Nat.pow_le_pow_right (by omega) (by omega)
          rw [Nat.pow_succ] at h4
          have h5 : Mt y * (2 ^ Lg r * 2) ≤ Mt y * 2 ^ Lg y := Nat.mul_le_mul_left _ h4
          have h6 : Mt r * 2 ^ Lg r < Mt y * 2 * 2 ^ Lg r := Nat.mul_lt_mul_of_pos_right (by omega) (Nat.pow_pos (by omega))
          rw [Nat.mul_assoc, Nat.mul_comm 2] at h6
          exact Nat.lt_of_lt_of_le h6 h5
      rw [← e1, ← e2] at h3
      have := Nat.lt_of_mul_lt_mul_right h3
      omega
    · exact hc
  have hVk := V_ldR (y := y) (k := modK r y) hy
  have hsum : Mt y * 2 ^ Lg y * 2 ^ modK r y = Mt y * 2 ^ (Lg r - (if Mt r < Mt y then 1 else 0)) := by
    rw [Nat.mul_assoc, ← Nat.pow_add]
    congr 2
    unfold modK
    omega
  have hV2 : V (ldR y (modK r y)) * 4503599627370496 = Mt y * 2 ^ (Lg r - (if Mt r < Mt y then 1 else 0)) := by
    rw [hVk, Nat.mul_right_comm, e1, hsum]
  have hboth : V (ldR y (modK r y)) ≤ V r ∧ V r ≤ 2 * V (ldR y (modK r y)) := by
    constructor
    · refine Nat.le_of_mul_le_mul_right (c := 4503599627370496) ?_ (by omega)
      rw [hV2, e2]
      split
      · rename_i hlt
        rw [if_pos hlt] at hle
        have e3 : 2 ^ Lg r = 2 ^ (Lg r - 1) * 2 := by rw [← Nat.pow_succ]; congr 1; omega
        rw [e3, Nat.mul_comm (2 ^ (Lg r - 1)), ← Nat.mul_assoc]
        exact Nat.mul_le_mul_right _ (by omega)
      · exact Nat.mul_le_mul_right _ (by omega)
    · refine Nat.le_of_mul_le_mul_right (c := 4503599627370496) ?_ (by omega)
      rw [Nat.mul_assoc, hV2, e2]
      split
      · rename_i hlt
        rw [if_pos hlt] at hle
        have e3 : 2 ^ Lg r = 2 ^ (Lg r - 1) * 2 := by rw [← Nat.pow_succ]; congr 1; omega
        have g : Mt r * 2 ^ (Lg r - 1) ≤ Mt y * 2 ^ (Lg r - 1) := Nat.mul_le_mul_right _ (by omega)
        rw [e3, ← Nat.mul_assoc, Nat.mul_comm 2]
        exact Nat.mul_le_mul_right _ g
      · rw [Nat.sub_zero, ← Nat.mul_assoc]
        exact Nat.mul_le_mul_right _ (by omega)
  refine ⟨hle, ?_, ?_, hboth.2⟩
  · rcases Nat.eq_zero_or_pos (ldR y (modK r y)) with h0 | h0
    · exfalso
      have h1 := hboth.2
      rw [h0] at h1
      have h2 : V 0 = 0 := by decide
      have h3 := V_lt hr
      omega
    · exact h0
  · rcases Nat.lt_or_ge r (ldR y (modK r y)) with h1 | h1
    · have := V_lt h1; omega
    · exact h1
/-- One step takes the float times a power of two away: what is left of the division stays. -/
theorem mod_keep {r y t : Nat} (hy : 0 < y) (h : y ≤ r) (ht : V t = V r - V (ldR y (modK r y))) : t < r ∧ V t % V y = V r % V y := by
  obtain ⟨h1, h2, h3, h4⟩ := mod_step hy h
  have hV := V_le h3
  have hk := V_ldR (y := y) (k := modK r y) hy
  have h0 := V_lt h2
  constructor
  · rcases Nat.lt_or_ge t r with h5 | h5
    · exact h5
    · have := V_le h5
      omega
  · have e : V r = V t + V y * 2 ^ modK r y := by omega
    rw [e, Nat.add_mul_mod_self_left]
end Go.Proofs.Ytelhbkfhalpniaa

namespace Go.Proofs.Ytelhbkfhalpniaa
open Go.RowKit Go.Lib

/-- What a digit of base sixteen counts; 16: it is none. -/
def hexV (c : Nat) : Nat := if 48 ≤ c ∧ c ≤ 57 then c - 48 else if 97 ≤ c ∧ c ≤ 102 then c - 87 else if 65 ≤ c ∧ c ≤ 70 then c - 55 else 16
def hexR (c : Nat) : Nat := if hexV c = 16 then 0 else hexV c
end Go.Proofs.Ytelhbkfhalpniaa

namespace Go.Proofs.Ytelhbkfhalpniaa
open Go.RowKit Go.Lib

/-- A float with its sign turned, if so told. -/
def turned (b : Bool) (r : Nat) : Nat := if b then Op.negFloat .f64 r else r
theorem pv_trim (l : List UInt8) : pv (l.dropWhile (· == 48)) = pv l := by
  induction l with
  | nil => rfl
  | cons a t ih =>
    rw [List.dropWhile_cons]
    split
    · rename_i h
      rw [ih, pv_cons, show a = 48 from eq_of_beq h]
      simp
    · rfl
theorem dec_trim {l : List UInt8} (h : Dec l) : Dec (l.dropWhile (· == 48)) := fun c hc => h c ((List.dropWhile_suffix (· == 48)).subset hc)
end Go.Proofs.Ytelhbkfhalpniaa

namespace Go.Proofs.Ytelhbkfhalpniaa
open Go.RowKit Go.Lib

theorem ord0_neg {r : Nat} (h0 : 0 < r) (h : r < 9218868437227405312) : FloatKind.f64.format.order (9223372036854775808 + r) 0 = some .lt := by
  have hm : mag (9223372036854775808 + r) = r := by unfold mag; omega
  show Ieee.double.order (9223372036854775808 + r) 0 = some .lt
  unfold Ieee.Format.order
  rw [read_fin (by rw [hm]; exact h), hm, show Ieee.double.read 0 = .number false 0 (-1074) by decide, show ((9223372036854775808 + r) / 9223372036854775808 % 2 == 1) = true by rw [beq_iff_eq]; omega]
  have he : -1074 ≤ expF r := (expF_lo r)
  have hp : 0 < manF r := by unfold manF; split <;> omega
  show some (compare _ _) = _
  rw [show min (expF r) (-1074) = -1074 by omega]
  have h1 : Ieee.signed false 0 ((-1074 : Int) - -1074).toNat = 0 := by decide
  have h2 : Ieee.signed true (manF r) (expF r - -1074).toNat < 0 := by
    show -((manF r <<< _ : Nat) : Int) < 0
    rw [Nat.shiftLeft_eq]
    have := Nat.mul_pos hp (Nat.pow_pos (n := (expF r - -1074).toNat) (show 0 < 2 by omega))
    omega
  rw [h1]
  exact congrArg some (Int.compare_eq_lt.2 h2)
theorem Lg_le {r : Nat} (h : r < 9218868437227405312) : Lg r ≤ 2097 := by
  unfold Lg
  split
  · rcases Nat.eq_zero_or_pos r with h0 | h0
    · subst h0; decide
    · have := log2_le52 h0 (by omega); omega
  · omega
/-- One round of the division's loop. -/
structure ModStep (r y K Z t : Nat) : Prop where
  kk : Lg y + K + (if Mt r < Mt y then 1 else 0) = Lg r
  top : Lg y + K ≤ 2097
  z : ldR y K = Z
  sub : floatBits .sub .f64 r Z = some t
  t1 : t < 9218868437227405312
  lt : t < r
  keep : V t % V y = V r % V y
theorem mod_one {r y : Nat} (hy : 0 < y) (h : y ≤ r) (hr : r < 9218868437227405312) : ∃ K Z t, ModStep r y K Z t := by
  obtain ⟨h1, h2, h3, h4⟩ := mod_step hy h
  obtain ⟨t, g1, g2, g3⟩ := sub_exact hr h2 h3 h4
  obtain ⟨g4, g5⟩ := mod_keep hy h g3
  have hl := Lg_le hr
  refine ⟨modK r y, ldR y (modK r y), t, ⟨?_, ?_, rfl, g1, g2, g4, g5⟩⟩
  · unfold modK; omega
  · unfold modK; omega
theorem ord0_mz : FloatKind.f64.format.order 9223372036854775808 0 = some .eq := by decide
theorem ordmz_pos {y : Nat} (h0 : 0 < y) (h : y ≤ 9218868437227405312) : FloatKind.f64.format.order 9223372036854775808 y = some .lt := by
  show Ieee.double.order 9223372036854775808 y = some .lt
  unfold Ieee.Format.order
  rw [show Ieee.double.read 9223372036854775808 = .number true 0 (-1074) by decide]
  rcases (by omega : y < 9218868437227405312 ∨ y = 9218868437227405312) with h1 | h1
  · rw [read_fin (by rw [mag_no h1]; exact h1), mag_no h1, sign_no h1]
    show some (compare _ _) = _
    have he : -1074 ≤ expF y := (expF_lo y)
    have hp : 0 < manF y := by unfold manF; split <;> omega
    rw [show min (-1074) (expF y) = -1074 by omega]
    have h1 : Ieee.signed true 0 ((-1074 : Int) - -1074).toNat = 0 := by decide
    have h2 : 0 < Ieee.signed false (manF y) (expF y - -1074).toNat := by
      show (0 : Int) < ((manF y <<< _ : Nat) : Int)
      rw [Nat.shiftLeft_eq]
      have := Nat.mul_pos hp (Nat.pow_pos (n := (expF y - -1074).toNat) (show 0 < 2 by omega))
      omega
    rw [h1]
    exact congrArg some (Int.compare_eq_lt.2 h2)
  · subst h1; decide
end Go.Proofs.Ytelhbkfhalpniaa

namespace Go.Proofs.Ytelhbkfhalpniaa
open Go.RowKit Go.Lib

/-- What stands ahead of a float's point. -/
def whQ (r : Nat) : Nat := amN r / amD r
def isWh (r : Nat) : Bool := decide (amN r % amD r = 0)
theorem whQ_V {r : Nat} (h : isWh r = true) : V r = whQ r * S1074 := by
  have h1 := of_decide_eq_true h
  have h2 := V_am (r := r)
  have h3 : amN r = whQ r * amD r := by
    have := Nat.div_add_mod (amN r) (amD r)
    rw [h1, Nat.add_zero, Nat.mul_comm] at this
    exact this.symm
  rw [h3, Nat.mul_right_comm] at h2
  exact Nat.eq_of_mul_eq_mul_right (amD_pos r) h2
theorem whQ_le (r : Nat) : whQ r * S1074 ≤ V r := by
  refine Nat.le_of_mul_le_mul_right (c := amD r) ?_ (amD_pos r)
  rw [V_am, Nat.mul_right_comm]
  exact Nat.mul_le_mul_right _ (Nat.div_mul_le_self _ _)
theorem trunc_wh {r : Nat} (_h : r < 9218868437227405312) : (truncR r = r) ↔ isWh r = true := by
  unfold truncR
  by_cases he : 0 ≤ expF r
  · rw [if_pos he]
    have : amD r = 1 := by unfold amD; rw [show (-expF r).toNat = 0 by omega, Nat.pow_zero]
    refine ⟨fun _ => ?_, fun _ => rfl⟩
    unfold isWh
    rw [this, Nat.mod_one]
    rfl
  · rw [if_neg he]
    have ha : amN r = manF r := by unfold amN; rw [show (expF r).toNat = 0 by omega, Nat.pow_zero, Nat.mul_one]
    have hq : manF r / 2 ^ (-expF r).toNat = whQ r := by unfold whQ; rw [ha]; rfl
    have hlt : whQ r < 9007199254740992 := by rw [← hq]; exact Nat.lt_of_le_of_lt (Nat.div_le_self _ _) manF_lt
    rw [hq]
    constructor
    · intro h1
      have h2 := fw_V hlt
      rw [h1] at h2
      have h3 := V_am (r := r)
      rw [h2, Nat.mul_right_comm] at h3
      have h4 := Nat.eq_of_mul_eq_mul_right S_pos h3
      unfold isWh
      rw [← h4, Nat.mul_mod_left]
      rfl
    · intro h1
      refine V_inj ?_
      rw [fw_V hlt, whQ_V h1]
theorem truncR_lt {r : Nat} (h : r < 9218868437227405312) : truncR r < 9218868437227405312 := by
  unfold truncR
  split
  · exact h
  · have := fw_bd (m := manF r / 2 ^ (-expF r).toNat) (Nat.lt_of_le_of_lt (Nat.div_le_self _ _) manF_lt)
    omega
/-- The whole number that a float is. -/
def whZ (b : Nat) : Int := if sgn b = 0 then (whQ (mag b) : Int) else -(whQ (mag b) : Int)
theorem toInt_wh {b : Nat} (h : mag b < 9218868437227405312) : (FloatKind.f64.decode b).toInt .zero = some (whZ b) := by
  show (Ieee.double.read b).toInt .zero = _
  rw [read_fin h]
  show some (Ieee.signed (b / 9223372036854775808 % 2 == 1) (Ieee.Toward.zero.cut (b / 9223372036854775808 % 2 == 1) (manF (mag b) <<< (expF (mag b)).toNat) (-expF (mag b)).toNat) 0) = _
  rw [cut_zero, Nat.shiftLeft_eq]
  show some (Ieee.signed _ (whQ (mag b)) 0) = _
  unfold whZ sgn Ieee.signed
  rcases (by omega : b / 9223372036854775808 % 2 = 0 ∨ b / 9223372036854775808 % 2 = 1) with e | e
  · rw [e]
    simp
  · rw [e]
    simp
theorem whZ_bd {b : Nat} (Q : Nat) (h : whQ (mag b) < Q) : -(Q : Int) < whZ b ∧ whZ b < (Q : Int) := by
  unfold whZ
  split <;> omega
theorem int_of_wh {b : Nat} (h : mag b < 9218868437227405312) (hq : whQ (mag b) < 9223372036854775807) : floatToIntVal .f64 b .i64 = some (whZ b) := by
  have := whZ_bd _ hq
  unfold floatToIntVal
  rw [toInt_wh h]
  show (if IntKind.i64.min ≤ whZ b ∧ whZ b ≤ IntKind.i64.max then some (whZ b) else none) = _
  rw [if_pos]
  show -9223372036854775808 ≤ whZ b ∧ whZ b ≤ 9223372036854775807
  omega
end Go.Proofs.Ytelhbkfhalpniaa

namespace Go.Proofs.Ytelhbkfhalpniaa
open Go.RowKit Go.Lib

theorem uint_of_wh {r : Nat} (h : r < 9218868437227405312) (hq : whQ r < 9223372036854775807) : floatToIntVal .f64 r .u64 = some (whQ r : Int) := by
  have h1 := toInt_wh (b := r) (by rw [mag_no h]; exact h)
  have hs : sgn r = 0 := by unfold sgn; omega
  rw [whZ, if_pos hs, mag_no h] at h1
  unfold floatToIntVal
  rw [h1]
  show (if 0 ≤ (whQ r : Int) ∧ (whQ r : Int) ≤ 18446744073709551615 then some (whQ r : Int) else none) = _
  rw [if_pos (by omega)]
end Go.Proofs.Ytelhbkfhalpniaa
