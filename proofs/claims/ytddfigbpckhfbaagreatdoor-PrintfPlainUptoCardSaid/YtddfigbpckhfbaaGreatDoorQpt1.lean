/- Several texts in one (Plain: numbers of digits of any base, the lowest digit first; Plain: one step of each loop over limbs; Plain: the guess of a limb of the quotient, and a round of the long division; Words for memory: a row of numbers within a block that may be written; a slice that is read; Words for memory: a row of the call's own, of numbers; Contracts of layer 2: trim, fresh, mulAdd; Contracts of layer 2: mulAdd's loop, takeFrom, divLimb; Contracts of layer 2: fresh, mulAdd; Contracts of layer 2: divLimb, shiftUp, shiftDown; Contracts of layer 2: comparison; Contracts of layer 2: Cmp, Valid, From, fit, Bits). -/
import Derived.KernelRfl
import Derived.WalkSmall
import Derived.WalkKit
import Derived.ProofKit
import Derived.Below
import Derived.Lib.Hide
import Derived.Laws.OwnMore
import Derived.Lib.SmallJoins
import Derived.Test.YtddfigbpckhfbaaGreatDoorProg
import Derived.Laws.MakeOwn
import Derived.Maps.AppendAt
import Derived.Laws.AppendOwnNone
import Derived.RangeFuncBox
import Derived.Laws.BitsAllLaws
import Derived.Deep.QuietTactic
import Derived.BigQuiet
import Derived.Deep.RegionWith
import Derived.Test.YtddfigbpckhfbaaGreatDoorShelf
namespace Go.Proofs.YtddfigbpckhfbaaGreatDoor

/-- The number that digits write. -/
def vl (B : Nat) : List Nat → Nat
  | [] => 0
  | x :: l => x + B * vl B l
def Lim (B : Nat) (l : List Nat) : Prop := ∀ x ∈ l, x < B
/-- No nought at the top. -/
def Top (l : List Nat) : Prop := l.getLast? ≠ some 0

theorem vl_nil (B : Nat) : vl B [] = 0 := rfl
theorem vl_cons (B x : Nat) (l : List Nat) : vl B (x :: l) = x + B * vl B l := rfl
theorem vl_append (B : Nat) (l m : List Nat) : vl B (l ++ m) = vl B l + B ^ l.length * vl B m := by
  induction l with
  | nil => simp [vl]
  | cons x l ih =>
    rw [List.cons_append, vl_cons, ih, vl_cons, List.length_cons, Nat.pow_succ, Nat.mul_add, Nat.add_assoc, Nat.mul_comm (B ^ l.length) B, Nat.mul_assoc]
theorem vl_one (B x : Nat) : vl B [x] = x := by simp [vl]
theorem vl_snoc (B : Nat) (l : List Nat) (x : Nat) : vl B (l ++ [x]) = vl B l + B ^ l.length * x := by rw [vl_append, vl_one]
theorem vl_zeros (B n : Nat) : vl B (List.replicate n 0) = 0 := by
  induction n with
  | zero => rfl
  | succ n ih => rw [List.replicate_succ, vl_cons, ih]; rfl
theorem lim_nil (B : Nat) : Lim B [] := fun _ h => by cases h
theorem lim_append {B : Nat} {l m : List Nat} : Lim B (l ++ m) ↔ Lim B l ∧ Lim B m := by
  unfold Lim
  constructor
  · exact fun h => ⟨fun x hx => h x (List.mem_append_left _ hx), fun x hx => h x (List.mem_append_right _ hx)⟩
  · rintro ⟨h1, h2⟩ x hx
    rcases List.mem_append.1 hx with h | h
    · exact h1 x h
    · exact h2 x h
theorem lim_cons {B x : Nat} {l : List Nat} : Lim B (x :: l) ↔ x < B ∧ Lim B l := by
  unfold Lim
  simp
theorem lim_one {B x : Nat} : Lim B [x] ↔ x < B := by unfold Lim; simp
theorem lim_take {B : Nat} {l : List Nat} (h : Lim B l) (k : Nat) : Lim B (l.take k) := fun x hx => h x (List.mem_of_mem_take hx)
theorem lim_drop {B : Nat} {l : List Nat} (h : Lim B l) (k : Nat) : Lim B (l.drop k) := fun x hx => h x (List.mem_of_mem_drop hx)
theorem lim_get {B : Nat} {l : List Nat} (h : Lim B l) (k : Nat) (hk : k < l.length) : l[k] < B := h _ (List.getElem_mem hk)
theorem lim_zeros {B : Nat} (hB : 0 < B) (n : Nat) : Lim B (List.replicate n 0) := fun x hx => by rw [(List.mem_replicate.1 hx).2]; exact hB
theorem vl_lt {B : Nat} {l : List Nat} (h : Lim B l) : vl B l < B ^ l.length := by
  induction l with
  | nil => simp [vl]
  | cons x l ih =>
    obtain ⟨h1, h2⟩ := lim_cons.1 h
    have := ih h2
    rw [vl_cons, List.length_cons, Nat.pow_succ, Nat.mul_comm (B ^ l.length) B]
    have h3 : B * (vl B l + 1) ≤ B * B ^ l.length := Nat.mul_le_mul_left B this
    rw [Nat.mul_add] at h3
    omega
theorem vl_take_drop (B : Nat) (l : List Nat) (k : Nat) (hk : k ≤ l.length) : vl B l = vl B (l.take k) + B ^ k * vl B (l.drop k) := by
  have := vl_append B (l.take k) (l.drop k)
  rw [List.take_append_drop, List.length_take, Nat.min_eq_left hk] at this
  exact this
theorem take_succ_get {α : Type} (l : List α) (k : Nat) (hk : k < l.length) : l.take (k + 1) = l.take k ++ [l[k]] := by
  rw [List.take_succ_eq_append_getElem hk]
theorem drop_get {α : Type} (l : List α) (k : Nat) (hk : k < l.length) : l.drop k = l[k] :: l.drop (k + 1) := (List.drop_eq_getElem_cons hk)
theorem vl_take_succ (B : Nat) (l : List Nat) (k : Nat) (hk : k < l.length) : vl B (l.take (k + 1)) = vl B (l.take k) + B ^ k * l[k] := by
  rw [take_succ_get l k hk, vl_snoc, List.length_take, Nat.min_eq_left (by omega)]

theorem top_nil : Top [] := by simp [Top]
theorem top_snoc {l : List Nat} {x : Nat} : Top (l ++ [x]) ↔ x ≠ 0 := by simp [Top]
theorem snoc_of_ne {l : List Nat} (h : l ≠ []) : ∃ m x, l = m ++ [x] := ⟨l.dropLast, l.getLast h, (List.dropLast_concat_getLast h).symm⟩
theorem vl_top {B : Nat} {l : List Nat} (ht : Top l) (h : l ≠ []) : B ^ (l.length - 1) ≤ vl B l := by
  obtain ⟨m, x, rfl⟩ := snoc_of_ne h
  have hx := top_snoc.1 ht
  rw [vl_snoc, List.length_append, List.length_singleton, Nat.add_sub_cancel]
  have : B ^ m.length * 1 ≤ B ^ m.length * x := Nat.mul_le_mul_left _ (by omega)
  omega
/-- Digits that write a number as it is written. -/
def Norm (B : Nat) (l : List Nat) : Prop := Lim B l ∧ Top l
theorem norm_len_lt {B : Nat} (hB : 0 < B) {l m : List Nat} (hl : Lim B l) (hm : Top m) (h : l.length < m.length) : vl B l < vl B m := by
  have h1 := vl_lt hl
  have h2 := vl_top (B := B) hm (by intro e; rw [e] at h; simp at h)
  have h3 : B ^ l.length ≤ B ^ (m.length - 1) := Nat.pow_le_pow_right hB (by omega)
  omega
theorem lim_unique {B : Nat} : ∀ {l m : List Nat}, Lim B l → Lim B m → l.length = m.length → vl B l = vl B m → l = m
  | [], [], _, _, _, _ => rfl
  | [], _ :: _, _, _, h, _ => by simp at h
  | _ :: _, [], _, _, h, _ => by simp at h
  | x :: l, y :: m, hl, hm, h, he => by
    obtain ⟨a1, a2⟩ := lim_cons.1 hl
    obtain ⟨b1, b2⟩ := lim_cons.1 hm
    rw [vl_cons, vl_cons] at he
    have e1 : x = y := by
      have := congrArg (· % B) he
      simpa [Nat.add_mul_mod_self_left, Nat.mod_eq_of_lt a1, Nat.mod_eq_of_lt b1] using this
    subst e1
    have e2 : vl B l = vl B m := Nat.eq_of_mul_eq_mul_left (show 0 < B by omega) (by omega)
    rw [lim_unique a2 b2 (by simpa using h) e2]
theorem norm_unique {B : Nat} (hB : 0 < B) {l m : List Nat} (hl : Norm B l) (hm : Norm B m) (he : vl B l = vl B m) : l = m := by
  rcases Nat.lt_trichotomy l.length m.length with h | h | h
  · have := norm_len_lt hB hl.1 hm.2 h; omega
  · exact lim_unique hl.1 hm.1 h he
  · have := norm_len_lt hB hm.1 hl.2 h; omega
/-- Without noughts at the top. -/
def trimL : List Nat → List Nat
  | [] => []
  | x :: l => if trimL l = [] then (if x = 0 then [] else [x]) else x :: trimL l
theorem trimL_top : ∀ l, Top (trimL l)
  | [] => top_nil
  | x :: l => by
    unfold trimL
    split
    · split
      · exact top_nil
      · rename_i h; exact top_snoc (l := []).2 h
    · rename_i h
      have := trimL_top l
      obtain ⟨m, y, e⟩ := snoc_of_ne h
      rw [e] at this ⊢
      exact (top_snoc (l := x :: m)).2 (top_snoc.1 this)
theorem trimL_vl (B : Nat) : ∀ l, vl B (trimL l) = vl B l
  | [] => rfl
  | x :: l => by
    have ih := trimL_vl B l
    unfold trimL
    split
    · rename_i h
      rw [h, vl_nil] at ih
      rw [vl_cons, ← ih]
      split
      · rename_i h2; rw [h2]; rfl
      · simp [vl]
    · rw [vl_cons, vl_cons, ih]
theorem trimL_lim {B : Nat} : ∀ {l : List Nat}, Lim B l → Lim B (trimL l)
  | [], _ => lim_nil B
  | x :: l, h => by
    obtain ⟨h1, h2⟩ := lim_cons.1 h
    unfold trimL
    split
    · split
      · exact lim_nil B
      · exact lim_one.2 h1
    · exact lim_cons.2 ⟨h1, trimL_lim h2⟩
/-- The digits of a number: n of them, and noughts at the top taken away. -/
def digs (B : Nat) : Nat → Nat → List Nat
  | 0, _ => []
  | k + 1, n => n % B :: digs B k (n / B)
theorem digs_lim {B : Nat} (hB : 0 < B) : ∀ k n, Lim B (digs B k n)
  | 0, _ => lim_nil B
  | k + 1, _ => lim_cons.2 ⟨Nat.mod_lt _ hB, digs_lim hB k _⟩
theorem digs_vl {B : Nat} : ∀ k n, n < B ^ k → vl B (digs B k n) = n
  | 0, _, h => by simp at h; rw [h]; rfl
  | k + 1, n, h => by
    rw [digs, vl_cons, digs_vl k _ (Nat.div_lt_of_lt_mul (by rw [Nat.pow_succ, Nat.mul_comm] at h; exact h))]
    exact Nat.mod_add_div n B
theorem lt_pow_self' {B : Nat} (hB : 2 ≤ B) (n : Nat) : n < B ^ n := by
  exact Nat.lt_pow_self (by omega)
def dig (B n : Nat) : List Nat := trimL (digs B n n)
theorem dig_vl {B : Nat} (hB : 2 ≤ B) (n : Nat) : vl B (dig B n) = n := by rw [dig, trimL_vl, digs_vl _ _ (lt_pow_self' hB n)]
theorem dig_norm {B : Nat} (hB : 2 ≤ B) (n : Nat) : Norm B (dig B n) := ⟨trimL_lim (digs_lim (by omega) _ _), trimL_top _⟩
theorem dig_eq {B : Nat} (hB : 2 ≤ B) {l : List Nat} {n : Nat} (h : Norm B l) (hv : vl B l = n) : dig B n = l :=
  norm_unique (by omega) (dig_norm hB n) h (by rw [dig_vl hB, hv])
theorem dig_zero (B : Nat) : dig B 0 = [] := rfl
theorem dig_nil {B n : Nat} (hB : 2 ≤ B) (h : dig B n = []) : n = 0 := by rw [← dig_vl hB n, h]; rfl
/-- How the loop that takes noughts away ends. -/
theorem trim_take {B : Nat} (hB : 2 ≤ B) {l : List Nat} {n : Nat} (hl : Lim B l) (hn : n ≤ l.length) (h0 : ∀ j (_ : n ≤ j) (hj : j < l.length), l[j] = 0) (ht : n = 0 ∨ ∃ h : n - 1 < l.length, l[n - 1] ≠ 0) : dig B (vl B l) = l.take n ∧ (dig B (vl B l)).length = n := by
  have hd : l.drop n = List.replicate (l.length - n) 0 := by
    apply List.ext_getElem
    · simp
    · intro i h1 h2
      rw [List.getElem_drop, List.getElem_replicate]
      exact h0 _ (by omega) (by simp at h1; omega)
  have hv : vl B (l.take n) = vl B l := by
    rw [vl_take_drop B l n hn, hd, vl_zeros]; simp
  have e : dig B (vl B l) = l.take n := by
    refine dig_eq hB ⟨lim_take hl n, ?_⟩ hv
    rcases ht with rfl | ⟨h, ht⟩
    · exact top_nil
    · by_cases hz : n = 0
      · subst hz; exact top_nil
      · have := take_succ_get l (n - 1) h
        rw [show n - 1 + 1 = n by omega] at this
        rw [this]
        exact top_snoc.2 ht
  refine ⟨e, ?_⟩
  rw [e, List.length_take]; omega
/-- Comparison from the top: same above, less at one place. -/
theorem vl_cmp_at {B : Nat} {l m : List Nat} {k : Nat} (hl : Lim B l) (he : l.length = m.length) (hk : k < l.length) (ha : l.drop (k + 1) = m.drop (k + 1)) (hx : l[k] < m[k]'(by omega)) : vl B l < vl B m := by
  rw [vl_take_drop B l k (by omega), vl_take_drop B m k (by omega), drop_get l k hk, drop_get m k (by omega), vl_cons, vl_cons, ha]
  have h1 := vl_lt (lim_take hl k)
  rw [List.length_take, Nat.min_eq_left (by omega)] at h1
  generalize vl B (m.drop (k + 1)) = t
  generalize l[k] = x at hx ⊢
  generalize (m[k]'(by omega)) = y at hx ⊢
  have h2 : B ^ k * (x + B * t + 1) ≤ B ^ k * (y + B * t) := Nat.mul_le_mul_left _ (by omega)
  rw [Nat.mul_add _ _ 1] at h2
  omega
/-- Which lists are numbers: as long as the number is small. -/
theorem dig_len_le {B : Nat} (hB : 2 ≤ B) (n k : Nat) : (dig B n).length ≤ k ↔ n < B ^ k := by
  constructor
  · intro h
    have h1 := vl_lt (dig_norm hB n).1
    rw [dig_vl hB] at h1
    exact Nat.lt_of_lt_of_le h1 (Nat.pow_le_pow_right (by omega) h)
  · intro h
    rcases Nat.lt_or_ge k (dig B n).length with h1 | h1
    · have h2 := vl_top (B := B) (dig_norm hB n).2 (by intro e; rw [e] at h1; simp at h1)
      rw [dig_vl hB] at h2
      have h3 : B ^ k ≤ B ^ ((dig B n).length - 1) := Nat.pow_le_pow_right (by omega) (by omega)
      omega
    · exact h1
end Go.Proofs.YtddfigbpckhfbaaGreatDoor

namespace Go.Proofs.YtddfigbpckhfbaaGreatDoor

theorem take_set_succ {l : List Nat} {k y : Nat} (hk : k < l.length) : (l.set k y).take (k + 1) = l.take k ++ [y] := by
  rw [take_succ_get _ k (by simpa using hk), List.getElem_set_self, List.take_set_of_le (Nat.le_refl _)]
theorem drop_set_same {l : List Nat} {k y : Nat} (hk : k < l.length) : (l.set k y).drop k = y :: l.drop (k + 1) := by
  rw [drop_get _ k (by simpa using hk), List.getElem_set_self, List.drop_set_of_lt (by omega)]
theorem drop_set_succ {l : List Nat} {k y : Nat} : (l.set k y).drop (k + 1) = l.drop (k + 1) := List.drop_set_of_lt (by omega)
theorem take_set_same {l : List Nat} {k y : Nat} : (l.set k y).take k = l.take k := List.take_set_of_le (Nat.le_refl _)
theorem lim_set {B : Nat} {l : List Nat} {k y : Nat} (h : Lim B l) (hy : y < B) : Lim B (l.set k y) := fun x hx => by
  rcases List.mem_or_eq_of_mem_set hx with h1 | h1
  · exact h x h1
  · omega
theorem vl_set (B : Nat) : ∀ (l : List Nat) (k y : Nat) (hk : k < l.length), vl B (l.set k y) + B ^ k * l[k] = vl B l + B ^ k * y
  | x :: l, 0, y, _ => by simp [vl]; omega
  | x :: l, k + 1, y, hk => by
    have ih := vl_set B l k y (by simpa using hk)
    have := congrArg (B * ·) ih
    simp only [Nat.mul_add] at this
    simp only [List.set_cons_succ, vl_cons, List.getElem_cons_succ, Nat.pow_succ, Nat.mul_comm (B ^ k) B, Nat.mul_assoc]
    omega
/-- The digit at a place, 0 behind the end. -/
theorem vl_take_get (B : Nat) (l : List Nat) (k : Nat) : vl B (l.take (k + 1)) = vl B (l.take k) + B ^ k * l.getD k 0 := by
  by_cases hk : k < l.length
  · rw [vl_take_succ B l k hk, List.getD_eq_getElem?_getD, List.getElem?_eq_getElem hk]; rfl
  · rw [List.take_of_length_le (by omega), List.take_of_length_le (by omega), List.getD_eq_getElem?_getD, List.getElem?_eq_none (by omega)]; simp
theorem vl_take_all {B : Nat} {l : List Nat} {k : Nat} (h : l.length ≤ k) : vl B (l.take k) = vl B l := by rw [List.take_of_length_le h]
theorem getD_of {l : List Nat} {k : Nat} (hk : k < l.length) : l.getD k 0 = l[k] := by rw [List.getD_eq_getElem?_getD, List.getElem?_eq_getElem hk]; rfl
theorem getD_no {l : List Nat} {k : Nat} (hk : ¬ k < l.length) : l.getD k 0 = 0 := by rw [List.getD_eq_getElem?_getD, List.getElem?_eq_none (by omega)]; rfl
theorem getD_lt {B : Nat} {l : List Nat} (h : Lim B l) (hB : 0 < B) (k : Nat) : l.getD k 0 < B := by
  by_cases hk : k < l.length
  · rw [getD_of hk]; exact lim_get h k hk
  · rw [getD_no hk]; exact hB

/-- One digit: what is put down and what is carried. -/
theorem digit_step {B P z : Nat} : P * z = P * (z % B) + P * B * (z / B) := by
  have := Nat.mod_add_div z B
  have h2 := congrArg (P * ·) this
  simp only [Nat.mul_add, ← Nat.mul_assoc] at h2
  exact h2.symm

/-- The state of a loop that goes up over xs and has put cur in its place: below k done. -/
structure Up (B : Nat) (xs cur : List Nat) (k : Nat) : Prop where
  len : cur.length = xs.length
  lim : Lim B cur
  rest : cur.drop k = xs.drop k
  le : k ≤ xs.length
theorem up_start {B : Nat} {xs : List Nat} (h : Lim B xs) : Up B xs xs 0 := ⟨rfl, h, rfl, Nat.zero_le _⟩
theorem up_get {B : Nat} {xs cur : List Nat} {k : Nat} (h : Up B xs cur k) (hk : k < xs.length) : cur[k]'(by rw [h.len]; exact hk) = xs[k] := by
  have h3 := h.rest
  rw [drop_get cur k (by rw [h.len]; exact hk), drop_get xs k hk] at h3
  exact (List.cons.inj h3).1
theorem up_step {B : Nat} {xs cur : List Nat} {k y : Nat} (h : Up B xs cur k) (hk : k < xs.length) (hy : y < B) : Up B xs (cur.set k y) (k + 1) := by
  refine ⟨by rw [List.length_set, h.len], lim_set h.lim hy, ?_, hk⟩
  have h3 := h.rest
  rw [drop_get cur k (by rw [h.len]; exact hk), drop_get xs k hk] at h3
  rw [drop_set_succ, (List.cons.inj h3).2]
theorem up_vl {B : Nat} {xs cur : List Nat} {k y : Nat} (h : Up B xs cur k) (hk : k < xs.length) : vl B ((cur.set k y).take (k + 1)) = vl B (cur.take k) + B ^ k * y := by
  have hc := h.len
  rw [take_set_succ (by omega), vl_snoc, List.length_take, Nat.min_eq_left (by omega)]

/-- addTo: the carry c ahead of place k. -/
def AddR (B : Nat) (xs bs cur : List Nat) (k c : Nat) : Prop := Up B xs cur k ∧ vl B (cur.take k) + B ^ k * c = vl B (xs.take k) + vl B (bs.take k) ∧ c ≤ 1
theorem addR_start {B : Nat} {xs bs : List Nat} (h : Lim B xs) : AddR B xs bs xs 0 0 := ⟨up_start h, by simp [vl], by omega⟩
theorem addR_step {B : Nat} (hB : 2 ≤ B) {xs bs cur : List Nat} {k c : Nat} (h : AddR B xs bs cur k c) (hx : Lim B xs) (hb : Lim B bs) (hk : k < xs.length) (z : Nat) (hz : z = c + xs[k] + bs.getD k 0) : AddR B xs bs (cur.set k (z % B)) (k + 1) (z / B) := by
  obtain ⟨h1, h2, h3⟩ := h
  have b1 := lim_get hx k hk
  have b2 := getD_lt hb (by omega) k
  refine ⟨up_step h1 hk (Nat.mod_lt _ (by omega)), ?_, ?_⟩
  · rw [up_vl h1 hk, vl_take_succ B xs k hk, vl_take_get B bs k, Nat.pow_succ]
    have hd := digit_step (B := B) (P := B ^ k) (z := z)
    have e1 := congrArg (B ^ k * ·) hz
    simp only [Nat.mul_add] at hd e1 h2 ⊢
    omega
  · have : z < B * 2 := by omega
    have := Nat.div_lt_of_lt_mul this
    omega

/-- takeFrom: what is carried of the product, and what was borrowed. -/
def TakeR (B t : Nat) (xs bs cur : List Nat) (k m r : Nat) : Prop := Up B xs cur k ∧ vl B (cur.take k) + t * vl B (bs.take k) = vl B (xs.take k) + B ^ k * (m + r) ∧ r ≤ 1 ∧ (m = 0 ∨ m < t) ∧ (bs.length < k → t ≤ B → m = 0)
theorem takeR_start {B t : Nat} {xs bs : List Nat} (h : Lim B xs) : TakeR B t xs bs xs 0 0 0 := ⟨up_start h, by simp [vl], by omega, .inl rfl, fun _ _ => rfl⟩
theorem takeR_step {B t : Nat} (hB : 2 ≤ B) {xs bs cur : List Nat} {k m r : Nat} (h : TakeR B t xs bs cur k m r) (hb : Lim B bs) (hk : k < xs.length) (z y r' : Nat) (hz : z = m + t * bs.getD k 0)
    (hy : y + z % B + r = xs[k] + B * r') (hy2 : y < B) (hr : r' ≤ 1) : TakeR B t xs bs (cur.set k y) (k + 1) (z / B) r' := by
  obtain ⟨h1, h2, h3, h4, _⟩ := h
  have b2 := getD_lt hb (by omega) k
  refine ⟨up_step h1 hk hy2, ?_, hr, ?_, fun hl ht => ?_⟩
  · rw [up_vl h1 hk, vl_take_succ B xs k hk, vl_take_get B bs k, Nat.pow_succ]
    have hd := digit_step (B := B) (P := B ^ k) (z := z)
    have e1 := congrArg (B ^ k * ·) hz
    have e2 := congrArg (B ^ k * ·) hy
    simp only [Nat.mul_add, ← Nat.mul_assoc] at hd e1 e2 h2 ⊢
    rw [Nat.mul_comm t (B ^ k)]
    omega
  · rcases Nat.eq_zero_or_pos t with ht | ht
    · left
      subst ht
      obtain rfl : m = 0 := by omega
      rw [hz]; simp
    · right
      apply Nat.div_lt_of_lt_mul
      have : t * bs.getD k 0 ≤ t * (B - 1) := Nat.mul_le_mul_left _ (by omega)
      rw [Nat.mul_sub, Nat.mul_one, Nat.mul_comm t B] at this
      have : t ≤ B * t := Nat.le_mul_of_pos_left t (by omega)
      omega
  · rw [hz, getD_no (by omega), Nat.mul_zero, Nat.add_zero]
    exact Nat.div_eq_of_lt (by omega)

/-- mulAdd. -/
def MulR (B t more : Nat) (xs cur : List Nat) (k c : Nat) : Prop := Up B xs cur k ∧ vl B (cur.take k) + B ^ k * c = vl B (xs.take k) * t + more ∧ c < B
theorem mulR_start {B t more : Nat} {xs : List Nat} (h : Lim B xs) (hm : more < B) : MulR B t more xs xs 0 more := ⟨up_start h, by simp [vl], hm⟩
theorem mulR_step {B t more : Nat} {xs cur : List Nat} {k c : Nat} (h : MulR B t more xs cur k c) (ht : t < B) (hx : Lim B xs) (hk : k < xs.length) (z : Nat) (hz : z = c + xs[k] * t) : MulR B t more xs (cur.set k (z % B)) (k + 1) (z / B) := by
  obtain ⟨h1, h2, h3⟩ := h
  have b1 := lim_get hx k hk
  have hzb : z < B * B := by
    have h5 : (xs[k] + 1) * (t + 1) ≤ B * B := Nat.mul_le_mul b1 ht
    simp only [Nat.add_mul, Nat.mul_add, Nat.mul_one, Nat.one_mul] at h5
    have h6 : xs[k] * t + xs[k] + t + 1 ≤ B * B := by omega
    rcases Nat.eq_zero_or_pos (xs[k] * t) with h7 | h7
    · have : B ≤ B * B := Nat.le_mul_of_pos_left B (by omega)
      omega
    · have h8 : (B - 1) * (B - 1) + B ≤ B * B := by
        obtain ⟨b, rfl⟩ : ∃ b, B = b + 1 := ⟨B - 1, by omega⟩
        simp only [Nat.add_sub_cancel, Nat.add_mul, Nat.mul_add, Nat.mul_one, Nat.one_mul]
        omega
      have h9 : xs[k] * t ≤ (B - 1) * (B - 1) := Nat.mul_le_mul (by omega) (by omega)
      omega
  refine ⟨up_step h1 hk (Nat.mod_lt _ (by omega)), ?_, Nat.div_lt_of_lt_mul hzb⟩
  rw [up_vl h1 hk, vl_take_succ B xs k hk, Nat.pow_succ]
  have hd := digit_step (B := B) (P := B ^ k) (z := z)
  have e1 := congrArg (B ^ k * ·) hz
  simp only [Nat.mul_add, ← Nat.mul_assoc] at hd e1 h2 ⊢
  rw [Nat.add_mul]
  omega

/-- The state of a loop that goes down: from i on done. -/
structure Down (B : Nat) (xs cur : List Nat) (i : Nat) : Prop where
  len : cur.length = xs.length
  lim : Lim B cur
  rest : cur.take i = xs.take i
  le : i ≤ xs.length
theorem down_start {B : Nat} {xs : List Nat} (h : Lim B xs) : Down B xs xs xs.length := ⟨rfl, h, rfl, Nat.le_refl _⟩
theorem down_get {B : Nat} {xs cur : List Nat} {i : Nat} (h : Down B xs cur (i + 1)) : cur[i]'(by have := h.len; have := h.le; omega) = xs[i]'h.le := by
  have h3 := h.rest
  rw [take_succ_get cur i (by have := h.len; have := h.le; omega), take_succ_get xs i h.le] at h3
  exact List.singleton_inj.1 (List.append_inj' h3 rfl).2
theorem down_step {B : Nat} {xs cur : List Nat} {i y : Nat} (h : Down B xs cur (i + 1)) (hy : y < B) : Down B xs (cur.set i y) i := by
  refine ⟨by rw [List.length_set, h.len], lim_set h.lim hy, ?_, by have := h.le; omega⟩
  have h3 := congrArg (List.take i) h.rest
  rw [List.take_take, List.take_take, Nat.min_eq_left (by omega)] at h3
  rw [take_set_same, h3]
theorem down_vl {B : Nat} {xs cur : List Nat} {i y : Nat} (h : Down B xs cur (i + 1)) : vl B ((cur.set i y).drop i) = y + B * vl B (cur.drop (i + 1)) := by
  rw [drop_set_same (by have := h.len; have := h.le; omega), vl_cons]
/-- divLimb: what is left ahead of place i. -/
def DivR (B d : Nat) (xs cur : List Nat) (i left : Nat) : Prop := Down B xs cur i ∧ vl B (xs.drop i) = d * vl B (cur.drop i) + left ∧ left < d
theorem divR_start {B d : Nat} {xs : List Nat} (h : Lim B xs) (hd : 0 < d) : DivR B d xs xs xs.length 0 := ⟨down_start h, by simp [vl], hd⟩
theorem divR_step {B d : Nat} {xs cur : List Nat} {i left : Nat} (h : DivR B d xs cur (i + 1) left) (hx : Lim B xs) (z : Nat) (hz : z = left * B + xs[i]'h.1.le) : DivR B d xs (cur.set i (z / d)) i (z % d) ∧ z / d < B := by
  obtain ⟨h1, h2, h3⟩ := h
  have hi := h1.le
  have b1 := lim_get hx i hi
  have hq : z / d < B := by
    apply Nat.div_lt_of_lt_mul
    have : (left + 1) * B ≤ d * B := Nat.mul_le_mul_right _ h3
    rw [Nat.add_mul, Nat.one_mul] at this
    omega
  refine ⟨⟨down_step h1 hq, ?_, Nat.mod_lt _ (by omega)⟩, hq⟩
  rw [down_vl h1, drop_get xs i hi, vl_cons, h2]
  have := Nat.div_add_mod z d
  simp only [Nat.mul_add, ← Nat.mul_assoc, Nat.mul_comm B d, Nat.mul_comm left B] at *
  omega
/-- shiftDown by D (a power of two that divides B): the word's lowest digit is the one above. -/
def ShdR (B D : Nat) (xs cur : List Nat) (i v : Nat) : Prop := Down B xs cur i ∧ vl B (cur.drop i) = vl B (xs.drop i) / D ∧ v = vl B (xs.drop i) % B
theorem shdR_start {B D : Nat} {xs : List Nat} (h : Lim B xs) : ShdR B D xs xs xs.length 0 := ⟨down_start h, by simp [vl], by simp [vl]⟩
theorem shd_num {B D q x V : Nat} (hD : 0 < D) (hB : B = D * q) (hx : x < B) : (x + B * V) / D = ((V % B * B + x) / D) % B + B * (V / D) := by
  subst hB
  have e1 : V % (D * q) % D = V % D := Nat.mod_mul_right_mod V D q
  have e2 := Nat.div_add_mod V D
  have e3 := Nat.div_add_mod (V % (D * q)) D
  rw [e1] at e3
  have hr : V % D < D := Nat.mod_lt _ hD
  generalize V / D = a at *
  generalize V % (D * q) / D = b at *
  generalize V % (D * q) = c at *
  generalize V % D = r at *
  rw [← e2, ← e3]
  have f1 : x + D * q * (D * a + r) = (x + D * q * r) + D * (D * q * a) := by
    simp only [Nat.mul_add, Nat.mul_comm, Nat.mul_left_comm]; omega
  have f2 : (D * b + r) * (D * q) + x = (x + D * q * r) + D * (D * q * b) := by
    simp only [Nat.mul_add, Nat.mul_comm, Nat.mul_left_comm]; omega
  rw [f1, f2, Nat.add_mul_div_left _ _ hD, Nat.add_mul_div_left _ _ hD, Nat.add_mul_mod_self_left]
  congr 1
  symm
  apply Nat.mod_eq_of_lt
  apply Nat.div_lt_of_lt_mul
  have : D * q * (r + 1) ≤ D * q * D := Nat.mul_le_mul_left _ hr
  rw [Nat.mul_add, Nat.mul_one] at this
  rw [Nat.mul_comm D (D * q)]
  omega
theorem shdR_step {B D q : Nat} (hD : 0 < D) (hB : B = D * q) {xs cur : List Nat} {i v : Nat} (h : ShdR B D xs cur (i + 1) v) (hx : Lim B xs) (y : Nat) (hy : y = ((v * B + xs[i]'h.1.le) / D) % B) : ShdR B D xs (cur.set i y) i (xs[i]'h.1.le) := by
  obtain ⟨h1, h2, rfl⟩ := h
  have hi := h1.le
  have b1 := lim_get hx i hi
  refine ⟨down_step h1 (by rw [hy]; exact Nat.mod_lt _ (by omega)), ?_, ?_⟩
  · rw [down_vl h1, drop_get xs i hi, vl_cons, shd_num hD hB b1, h2, hy]
  · rw [drop_get xs i hi, vl_cons, Nat.add_mul_mod_self_left, Nat.mod_eq_of_lt b1]
/-- shiftUp by D, the limbs of a into cur. -/
def ShuR (B D : Nat) (al cur : List Nat) (i c : Nat) : Prop := vl B (cur.take i) + B ^ i * c = vl B (al.take i) * D ∧ c < D ∧ Lim B cur
theorem shuR_start {B D : Nat} {al cur : List Nat} (h : Lim B cur) (hD : 0 < D) : ShuR B D al cur 0 0 := ⟨by simp [vl], hD, h⟩
theorem shuR_step {B D : Nat} {al cur : List Nat} {i c : Nat} (h : ShuR B D al cur i c) (ha : Lim B al) (hi : i < al.length) (hc : i < cur.length) (z : Nat) (hz : z = al[i] * D + c) : ShuR B D al (cur.set i (z % B)) (i + 1) (z / B) := by
  obtain ⟨h1, h2, h3⟩ := h
  have b1 := lim_get ha i hi
  refine ⟨?_, ?_, lim_set h3 (Nat.mod_lt _ (by omega))⟩
  · rw [take_set_succ hc, vl_snoc, List.length_take, Nat.min_eq_left (by omega), vl_take_succ B al i hi, Nat.pow_succ, Nat.add_mul]
    have hd := digit_step (B := B) (P := B ^ i) (z := z)
    have e1 := congrArg (B ^ i * ·) hz
    simp only [Nat.mul_add, ← Nat.mul_assoc] at hd e1 h1 ⊢
    omega
  · apply Nat.div_lt_of_lt_mul
    have : (al[i] + 1) * D ≤ B * D := Nat.mul_le_mul_right _ b1
    rw [Nat.add_mul, Nat.one_mul] at this
    omega
end Go.Proofs.YtddfigbpckhfbaaGreatDoor

namespace Go.Proofs.YtddfigbpckhfbaaGreatDoor

theorem le_div' {D q N : Nat} (h : q * D ≤ N) (hD : 0 < D) : q ≤ N / D := (Nat.le_div_iff_mul_le hD).2 h
theorem div_lt' {D q N : Nat} (h : N < q * D) (hD : 0 < D) : N / D < q := (Nat.div_lt_iff_lt_mul hD).2 h
theorem div_mul_le' (N D : Nat) : N / D * D ≤ N := Nat.div_mul_le_self N D
theorem lt_div_succ (N D : Nat) (hD : 0 < D) : N < (N / D + 1) * D := by
  have := Nat.div_add_mod N D
  have h2 := Nat.mod_lt N hD
  rw [Nat.add_mul, Nat.one_mul, Nat.mul_comm]
  omega

/-- All that is known of the numbers that are guessed by: the divisor's two top limbs, the dividend's three. -/
structure GuessOk (B P Dl v1 v0 Nl u2 u1 u0 : Nat) : Prop where
  hP : 0 < P
  hDl : Dl < P
  hNl : Nl < P
  hv0 : v0 < B
  hv1 : v1 < B
  hu0 : u0 < B
  htop : B ≤ 2 * v1
  hB2 : 2 ≤ B
  hless : Nl + P * (u0 + B * (u1 + B * u2)) < B * (Dl + P * (v0 + B * v1))
section
variable {B P Dl v1 v0 Nl u2 u1 u0 : Nat} (h : GuessOk B P Dl v1 v0 Nl u2 u1 u0)
include h
theorem guess_W : u1 + B * u2 < B * v1 + B := by
  have h1 : P * (B * (u1 + B * u2)) < P * (B * (v0 + B * v1 + 1)) := by
    have a := h.hless
    have b : B * Dl + B ≤ B * P := by rw [← Nat.mul_succ]; exact Nat.mul_le_mul_left _ h.hDl
    have c : P * (B * (v0 + B * v1 + 1)) = B * (P * (v0 + B * v1)) + B * P := by
      rw [Nat.mul_left_comm, Nat.mul_add, Nat.mul_one, Nat.mul_add]
    rw [Nat.mul_add P u0, Nat.mul_add B Dl] at a
    rw [c]
    omega
  have h2 := Nat.lt_of_mul_lt_mul_left (Nat.lt_of_mul_lt_mul_left h1)
  have := h.hv0
  omega
theorem guess_q : (Nl + P * (u0 + B * (u1 + B * u2))) / (Dl + P * (v0 + B * v1)) < B := by
  apply div_lt' h.hless
  have h1 := h.hP
  have h2 := h.htop
  have h3 := h.hB2
  have : 0 < P * (v0 + B * v1) := Nat.mul_pos h1 (by have : 0 < B * v1 := Nat.mul_pos (by omega) (by omega); omega)
  omega
theorem guess_D : B * P ≤ Dl + P * (v0 + B * v1) := by
  have h2 := h.htop
  have h3 := h.hB2
  have : B * 1 ≤ B * v1 := Nat.mul_le_mul_left _ (by omega)
  have : P * B ≤ P * (v0 + B * v1) := Nat.mul_le_mul_left _ (by omega)
  rw [Nat.mul_comm B P]
  omega
theorem guess_Dpos : 0 < Dl + P * (v0 + B * v1) := by
  have := guess_D h
  have : 0 < B * P := Nat.mul_pos (by have := h.hB2; omega) h.hP
  omega
theorem guess_start : (Nl + P * (u0 + B * (u1 + B * u2))) / (Dl + P * (v0 + B * v1)) ≤ (u1 + B * u2) / v1 := by
  have hv : 0 < v1 := by have := h.htop; have := h.hB2; omega
  have hq := div_mul_le' (Nl + P * (u0 + B * (u1 + B * u2))) (Dl + P * (v0 + B * v1))
  generalize (Nl + P * (u0 + B * (u1 + B * u2))) / (Dl + P * (v0 + B * v1)) = q at *
  apply le_div' _ hv
  have h1 : P * (B * (q * v1)) < P * (B * (u1 + B * u2 + 1)) := by
    have e1 : P * (B * (q * v1)) ≤ q * (Dl + P * (v0 + B * v1)) := by
      have : P * (B * (q * v1)) = q * (P * (B * v1)) := by simp only [Nat.mul_left_comm, Nat.mul_comm]
      rw [this]
      exact Nat.mul_le_mul_left _ (by rw [Nat.mul_add]; omega)
    have e2 : Nl + P * (u0 + B * (u1 + B * u2)) < P * (B * (u1 + B * u2 + 1)) := by
      have a := h.hNl
      have : P * (u0 + B * (u1 + B * u2) + 1) ≤ P * (B * (u1 + B * u2 + 1)) := Nat.mul_le_mul_left _ (by rw [Nat.mul_add B _ 1]; have := h.hu0; omega)
      rw [Nat.mul_add P _ 1] at this
      omega
    omega
  have := Nat.lt_of_mul_lt_mul_left (Nat.lt_of_mul_lt_mul_left h1)
  omega
omit h in
theorem guess_prod {t left : Nat} (hW : t * v1 + left = u1 + B * u2) : t * (v0 + B * v1) + (u0 + left * B) = u0 + B * (u1 + B * u2) + t * v0 := by
  rw [← hW]
  simp only [Nat.mul_add, Nat.mul_comm, Nat.mul_left_comm]
  omega
theorem guess_down {t left : Nat} (hW : t * v1 + left = u1 + B * u2) (hc : B ≤ t ∨ left * B + u0 < t * v0) : (Nl + P * (u0 + B * (u1 + B * u2))) / (Dl + P * (v0 + B * v1)) < t := by
  rcases hc with hc | hc
  · have := guess_q h; omega
  · have hp := guess_prod (v0 := v0) (u0 := u0) hW
    apply div_lt' _ (guess_Dpos h)
    have e1 : P * (u0 + B * (u1 + B * u2) + 1) ≤ P * (t * (v0 + B * v1)) := Nat.mul_le_mul_left _ (by omega)
    have e2 : t * (Dl + P * (v0 + B * v1)) = t * Dl + P * (t * (v0 + B * v1)) := by rw [Nat.mul_add, Nat.mul_left_comm]
    rw [e2]
    rw [Nat.mul_add P _ 1] at e1
    have := h.hNl
    omega
theorem guess_end {t left : Nat} (hW : t * v1 + left = u1 + B * u2) (ht : t < B) (hc : t * v0 ≤ left * B + u0) : t ≤ (Nl + P * (u0 + B * (u1 + B * u2))) / (Dl + P * (v0 + B * v1)) + 1 := by
  have hp := guess_prod (v0 := v0) (u0 := u0) hW
  have hD := guess_D h
  have hlt := lt_div_succ (Nl + P * (u0 + B * (u1 + B * u2))) (Dl + P * (v0 + B * v1)) (guess_Dpos h)
  have e2 : t * (Dl + P * (v0 + B * v1)) = t * Dl + P * (t * (v0 + B * v1)) := by rw [Nat.mul_add, Nat.mul_left_comm]
  have e3 : P * (t * (v0 + B * v1)) ≤ P * (u0 + B * (u1 + B * u2)) := Nat.mul_le_mul_left _ (by omega)
  have e4 : t * Dl ≤ B * P := Nat.mul_le_mul (by omega) (by have := h.hDl; omega)
  generalize hq : (Nl + P * (u0 + B * (u1 + B * u2))) / (Dl + P * (v0 + B * v1)) = q at *
  generalize Dl + P * (v0 + B * v1) = D at *
  have e5 : t * D ≤ Nl + P * (u0 + B * (u1 + B * u2)) + D := by omega
  rcases Nat.lt_or_ge (q + 1) t with h1 | h1
  · have h2 : (q + 2) * D ≤ t * D := Nat.mul_le_mul_right _ h1
    rw [Nat.add_mul] at h2 hlt
    omega
  · exact h1
/-- The sum of what is left has a limb more: it is the end. -/
theorem guess_break {t left : Nat} (hW : t * v1 + left = u1 + B * u2) (hl : B ≤ left) : t < B ∧ t * v0 ≤ left * B + u0 := by
  have h1 := guess_W h
  have ht : t < B := by
    have : t * v1 < B * v1 := by omega
    exact Nat.lt_of_mul_lt_mul_right this
  refine ⟨ht, ?_⟩
  have a : t * v0 ≤ B * B := Nat.mul_le_mul (by omega) (by have := h.hv0; omega)
  have b : B * B ≤ left * B := Nat.mul_le_mul_right _ hl
  omega
theorem guess_max {t left : Nat} (hW : t * v1 + left = u1 + B * u2) : t < B + 2 := by
  have h1 := guess_W h
  have h2 := h.htop
  have : t * v1 < (B + 2) * v1 := by rw [Nat.add_mul]; omega
  exact Nat.lt_of_mul_lt_mul_right this
end

/-- What is left of the dividend in cur, the quotient's limbs from i on in qs. -/
structure Long (B D A : Nat) (cur qs : List Nat) (i : Nat) : Prop where
  lim : Lim B cur
  qlim : Lim B qs
  less : vl B (cur.drop i) < D
  eq : A = vl B cur + B ^ i * (D * vl B (qs.drop i))
section
variable {B D A : Nat} {cur qs : List Nat} {i n : Nat}
theorem zeros_above (h : vl B (cur.drop i) < D) (hD : D < B ^ n) (hi : i + n ≤ cur.length) : vl B (cur.drop (i + n)) = 0 := by
  have h1 := vl_take_drop B (cur.drop i) n (by rw [List.length_drop]; omega)
  rw [List.drop_drop] at h1
  rcases Nat.eq_zero_or_pos (vl B (cur.drop (i + n))) with h0 | h0
  · exact h0
  · have : B ^ n * 1 ≤ B ^ n * vl B (cur.drop (i + n)) := Nat.mul_le_mul_left _ h0
    omega
/-- The part that a round divides. -/
theorem long_part (h : Long B D A cur qs (i + 1)) (hD : D < B ^ n) (hi : i + 1 + n ≤ cur.length) : vl B ((cur.drop i).take (n + 1)) = vl B (cur.drop i) ∧ vl B (cur.drop i) < B * D := by
  have hz := zeros_above h.less hD hi
  have h1 := vl_take_drop B (cur.drop i) (n + 1) (by rw [List.length_drop]; omega)
  rw [List.drop_drop, show i + (n + 1) = i + 1 + n by omega, hz] at h1
  refine ⟨by rw [h1]; simp, ?_⟩
  rw [drop_get cur i (by omega), vl_cons]
  have h2 := lim_get h.lim i (by omega)
  have h3 := h.less
  have : B * (vl B (cur.drop (i + 1)) + 1) ≤ B * D := Nat.mul_le_mul_left _ h3
  rw [Nat.mul_add] at this
  omega
theorem long_step (h : Long B D A cur qs (i + 1)) (hD : D < B ^ n) (hD0 : 0 < D) (hi : i + 1 + n ≤ cur.length) (hq : i < qs.length) {part : List Nat} (hp : part.length = n + 1) (hpl : Lim B part)
    (hv : vl B part = vl B (cur.drop i) % D) : Long B D A (cur.take i ++ part ++ cur.drop (i + 1 + n)) (qs.set i (vl B (cur.drop i) / D)) i ∧ vl B (cur.drop i) / D < B := by
  have hz := zeros_above h.less hD hi
  obtain ⟨_, hpB⟩ := long_part h hD hi
  have hqB : vl B (cur.drop i) / D < B := div_lt' hpB hD0
  have hlt : (cur.take i).length = i := by rw [List.length_take]; omega
  refine ⟨⟨?_, lim_set h.qlim hqB, ?_, ?_⟩, hqB⟩
  · exact lim_append.2 ⟨lim_append.2 ⟨lim_take h.lim _, hpl⟩, lim_drop h.lim _⟩
  · rw [List.append_assoc, List.drop_append_of_le_length (by omega), List.drop_of_length_le (by omega), List.nil_append, vl_append, hz, hv]
    simpa using Nat.mod_lt _ hD0
  · rw [h.eq, drop_set_same hq, vl_cons, vl_append, hz, vl_append, hlt, hv, vl_take_drop B cur i (by omega), Nat.pow_succ]
    have e := congrArg (B ^ i * ·) (Nat.mod_add_div (vl B (cur.drop i)) D)
    simp only [Nat.mul_add, ← Nat.mul_assoc, Nat.mul_zero, Nat.add_zero] at e ⊢
    rw [Nat.mul_right_comm (B ^ i) B D]
    omega
end
/-- What takeFrom, and addTo behind it, leave of the part. -/
theorem take_no {N D t x : Nat} (h : x + t * D = N) (ht : N / D ≤ t) (ht2 : t ≤ N / D + 1) (hD : 0 < D) : x = N % D ∧ t = N / D := by
  have h1 := Nat.div_add_mod N D
  have h2 := Nat.mod_lt N hD
  rcases Nat.lt_or_ge (N / D) t with h3 | h3
  · have : t = N / D + 1 := by omega
    subst this
    rw [Nat.add_mul, Nat.one_mul, Nat.mul_comm] at h
    omega
  · have : t = N / D := by omega
    subst this
    rw [Nat.mul_comm] at h
    exact ⟨by omega, rfl⟩
theorem take_yes {M N D t x y c : Nat} (h : x + t * D = N + M) (h2 : y + M * c = x + D) (hx : x < M) (hy : y < M) (hc : c ≤ 1) (ht : N / D ≤ t) (ht2 : t ≤ N / D + 1) (hD : 0 < D) : y = N % D ∧ t - 1 = N / D ∧ 0 < t := by
  have h1 := Nat.div_add_mod N D
  have h3 := Nat.mod_lt N hD
  generalize N / D = q at *
  generalize N % D = r at *
  have ht3 : t = q + 1 := by
    rcases Nat.lt_or_ge q t with h4 | h4
    · omega
    · have : t = q := by omega
      subst this
      rw [Nat.mul_comm] at h
      omega
  subst ht3
  rw [Nat.add_mul, Nat.one_mul, Nat.mul_comm] at h
  have hc1 : c = 1 := by
    rcases Nat.eq_zero_or_pos c with h4 | h4
    · subst h4; rw [Nat.mul_zero] at h2; omega
    · omega
  subst hc1
  rw [Nat.mul_one] at h2
  exact ⟨by omega, by omega, by omega⟩
/-- The rest of the scaled division is the scaled rest. -/
theorem unscale {a b S r q : Nat} (hS : 0 < S) (h : a * S = r + b * S * q) (hr : r < b * S) : r / S = a % b ∧ q = a / b := by
  have hb : 0 < b := by
    rcases Nat.eq_zero_or_pos b with h0 | h0
    · subst h0; simp at hr
    · exact h0
  have e : r = S * (a - b * q) := by
    rw [Nat.mul_sub, Nat.mul_comm S a, h, ← Nat.mul_assoc, Nat.mul_comm S b]; omega
  have e2 : r / S = a - b * q := by rw [e, Nat.mul_div_cancel_left _ hS]
  have hlt : a - b * q < b := by
    rw [e, Nat.mul_comm b S] at hr
    exact Nat.lt_of_mul_lt_mul_left hr
  have hle : b * q ≤ a := by
    have : S * (b * q) ≤ S * a := by
      rw [Nat.mul_comm S a, h, ← Nat.mul_assoc, Nat.mul_comm S b]; omega
    exact Nat.le_of_mul_le_mul_left this hS
  have hq : a / b = q := Nat.div_eq_of_lt_le (by rw [Nat.mul_comm]; exact hle) (by rw [Nat.add_mul, Nat.one_mul, Nat.mul_comm q]; omega)
  refine ⟨?_, hq.symm⟩
  have := Nat.div_add_mod a b
  rw [hq] at this
  omega
end Go.Proofs.YtddfigbpckhfbaaGreatDoor

namespace Go.Proofs.YtddfigbpckhfbaaGreatDoor
open Go.RowKit

/-- Numbers as cells. -/
def nums (κ : IntKind) (xs : List Nat) : List Value := xs.map fun x : Nat => Value.int κ (x : Int)
theorem nums_len (κ : IntKind) (xs : List Nat) : (nums κ xs).length = xs.length := List.length_map _
theorem nums_set (κ : IntKind) (xs : List Nat) (k y : Nat) : (nums κ xs).set k (.int κ (y : Nat)) = nums κ (xs.set k y) := by
  unfold nums; rw [List.map_set]
theorem nums_append (κ : IntKind) (xs ys : List Nat) : nums κ (xs ++ ys) = nums κ xs ++ nums κ ys := List.map_append
/-- Block g is L, then the numbers xs, then R, and may be written. -/
def At (κ : IntKind) (w : World) (g : Nat) (t : TypeId) (L : List Value) (xs : List Nat) (R : List Value) : Prop :=
  ∃ cs : Array Value, w.heap[g]? = some (.cells cs t (0, 0)) ∧ cs.toList = L ++ nums κ xs ++ R
section
variable {κ : IntKind} {w w' : World} {g o : Nat} {t : TypeId} {L R : List Value} {xs : List Nat}
theorem At.lt (h : At κ w g t L xs R) : g < w.heap.size := by
  obtain ⟨cs, h1, _⟩ := h
  exact (Array.getElem?_eq_some_iff.1 h1).1
theorem At.cell (h : At κ w g t L xs R) (ho : L.length = o) (k : Nat) (hk : k < xs.length) : w.cell? ⟨g, o + k, none⟩ = some (.int κ (xs[k] : Nat)) := by
  obtain ⟨cs, h1, h2⟩ := h
  rw [cell_of_row w g _ cs t (0, 0) h1, ← Array.getElem?_toList, h2, List.append_assoc, List.getElem?_append_right (by omega), ← ho, Nat.add_sub_cancel_left, List.getElem?_append_left (by rw [nums_len]; exact hk), nums, List.getElem?_map, List.getElem?_eq_getElem hk]
  rfl
theorem At.frozen (h : At κ w g t L xs R) (j : Nat) : w.frozen? ⟨g, j, none⟩ = false := by
  obtain ⟨cs, h1, _⟩ := h
  exact frozen_of_row w g j cs t h1
theorem At.set (h : At κ w g t L xs R) (ho : L.length = o) (k y : Nat) (hk : k < xs.length) : At κ (w.setCell ⟨g, o + k, none⟩ (.int κ (y : Nat))) g t L (xs.set k y) R := by
  obtain ⟨cs, h1, h2⟩ := h
  refine ⟨cs.setIfInBounds (o + k) (.int κ (y : Nat)), heap_setCell_same w g (o + k) cs t _ h1, ?_⟩
  rw [Array.toList_setIfInBounds, h2, List.append_assoc, List.set_append, if_neg (by omega), List.set_append, if_pos (by rw [nums_len]; omega), show o + k - L.length = k by omega, nums_set, List.append_assoc]
theorem At.set_ (h : At κ w g t L xs R) (ho : L.length = o) (k : Nat) (hk : k < xs.length) (z : Int) (y : Nat) (hz : z = (y : Int)) : At κ (w.setCell ⟨g, o + k, none⟩ (.int κ z)) g t L (xs.set k y) R := by
  subst hz
  exact h.set ho k y hk
theorem At.drew (h : At κ w g t L xs R) : At κ w.drew g t L xs R := h
theorem At.drewN (h : At κ w g t L xs R) (n : Nat) : At κ (w.drewN n) g t L xs R := h
theorem At.far (h : At κ w g t L xs R) {g' j : Nat} (hne : g ≠ g') (u : Value) : At κ (w.setCell ⟨g', j, none⟩ u) g t L xs R := by
  obtain ⟨cs, h1, h2⟩ := h
  exact ⟨cs, (heap_setCell_other w ⟨g', j, none⟩ g u (fun e => hne (by simpa using e))).trans h1, h2⟩
theorem At.alloc (h : At κ w g t L xs R) (o : Obj) : At κ (w.alloc o) g t L xs R := by
  obtain ⟨cs, h1, h2⟩ := h
  exact ⟨cs, (Below.heap_alloc w o g (Array.getElem?_eq_some_iff.1 h1).1).trans h1, h2⟩
theorem At.kept (h : At κ w g t L xs R) {row : Option Nat} (hg : w.grownBy w' row) (hne : some g ≠ row) : At κ w' g t L xs R := by
  obtain ⟨cs, h1, h2⟩ := h
  exact ⟨cs, (hg.block g (Array.getElem?_eq_some_iff.1 h1).1 hne).trans h1, h2⟩
theorem At.below (h : At κ w g t L xs R) {B : Nat} (hb : Below B w w') (hg : g < B) : At κ w' g t L xs R := by
  obtain ⟨cs, h1, h2⟩ := h
  exact ⟨cs, (hb.block g hg).trans h1, h2⟩
/-- Another cut of the same block. -/
theorem At.recut (h : At κ w g t L xs R) {L' R' : List Value} {ys : List Nat} (e : L ++ nums κ xs ++ R = L' ++ nums κ ys ++ R') : At κ w g t L' ys R' := by
  obtain ⟨cs, h1, h2⟩ := h
  exact ⟨cs, h1, h2.trans e⟩
end
theorem vint {κ : IntKind} {a b : Int} (h : a = b) : Value.int κ a = Value.int κ b := by rw [h]
theorem grown_refl (w : World) (row : Option Nat) : w.grownBy w row := ⟨rfl, rfl, rfl, Nat.le_refl _, fun _ _ _ => rfl⟩
theorem grown_trans {a b c : World} {row : Option Nat} (h : a.grownBy b row) (k : b.grownBy c row) : a.grownBy c row :=
  ⟨k.os.trans h.os, k.tape.trans h.tape, k.output.trans h.output, Nat.le_trans h.size k.size, fun i hi hne => (k.block i (Nat.lt_of_lt_of_le hi h.size) hne).trans (h.block i hi hne)⟩
theorem grown_set {a w : World} {g j : Nat} (h : a.grownBy w (some g)) (u : Value) : a.grownBy (w.setCell ⟨g, j, none⟩ u) (some g) :=
  grown_trans h ⟨rfl, rfl, rfl, by simp [World.setCell], fun k _ hk => heap_setCell_other w ⟨g, j, none⟩ k u (fun e => hk (by simp [e]))⟩
theorem grown_below {a b c : World} {g B : Nat} (h : Below B a b) (hg : b.grownBy c (some g)) (hB : B ≤ b.heap.size) (h2 : B ≤ g) : Below B a c :=
  h.grown hg hB (fun _ e => by cases e; exact h2)
theorem below_drewN' {B : Nat} {a w : World} (h : Below B a w) (n : Nat) : Below B a (w.drewN n) := ⟨h.os, h.tape, h.output, h.size, h.block⟩
/-- A slice that is read. -/
def Rd (κ : IntKind) (w : World) (A : Option Addr) (xs : List Nat) : Prop :=
  ∀ j (_ : j < xs.length), ∃ g o, A = some ⟨g, o, none⟩ ∧ w.cell? ⟨g, o + j, none⟩ = some (.int κ (xs[j] : Nat))
/-- It does not lie in block g. -/
def Off (A : Option Addr) (g : Nat) : Prop := ∀ a, A = some a → a.block ≠ g
section
variable {κ : IntKind} {w w' : World} {A : Option Addr} {xs : List Nat}
theorem Rd.nil : Rd κ w A [] := fun _ h => by simp at h
theorem Rd.at_ (h : Rd κ w A xs) (hx : xs ≠ []) : ∃ g o, A = some ⟨g, o, none⟩ ∧ ∀ j (_ : j < xs.length), w.cell? ⟨g, o + j, none⟩ = some (.int κ (xs[j] : Nat)) := by
  obtain ⟨g, o, rfl, _⟩ := h 0 (List.length_pos_iff.2 hx)
  refine ⟨g, o, rfl, fun j hj => ?_⟩
  obtain ⟨g', o', e, hc⟩ := h j hj
  cases e
  exact hc
theorem Rd.of {g o : Nat} (h : ∀ j (_ : j < xs.length), w.cell? ⟨g, o + j, none⟩ = some (.int κ (xs[j] : Nat))) : Rd κ w (some ⟨g, o, none⟩) xs := fun j hj => ⟨g, o, rfl, h j hj⟩
theorem Rd.kept (h : Rd κ w A xs) {g : Nat} (hg : w.grownBy w' (some g)) (hne : Off A g) : Rd κ w' A xs := fun j hj => by
  obtain ⟨g', o, e, hc⟩ := h j hj
  exact ⟨g', o, e, hg.cell hc (by intro e2; cases e2; exact hne _ e rfl)⟩
theorem Rd.below (h : Rd κ w A xs) (hb : Below w.heap.size w w') : Rd κ w' A xs := fun j hj => by
  obtain ⟨g', o, e, hc⟩ := h j hj
  exact ⟨g', o, e, (hb.cell (World.block_lt_of_cell? w _ hc)).trans hc⟩
theorem Rd.take (h : Rd κ w A xs) (n : Nat) : Rd κ w A (xs.take n) := fun j hj => by
  have hj2 : j < xs.length := by rw [List.length_take] at hj; omega
  obtain ⟨g, o, e, hc⟩ := h j hj2
  exact ⟨g, o, e, by rw [hc, List.getElem_take]⟩
theorem At.rd {g : Nat} {t : TypeId} {L R : List Value} (h : At κ w g t L xs R) : Rd κ w (some ⟨g, L.length, none⟩) xs := Rd.of fun j hj => h.cell rfl j hj
/-- What lies in old memory is not in a new block. -/
theorem Rd.off (h : Rd κ w A xs) (hx : xs ≠ []) {g : Nat} (hg : w.heap.size ≤ g) : Off A g := by
  obtain ⟨g', o, rfl, hc⟩ := h.at_ hx
  intro a e
  cases e
  have := World.block_lt_of_cell? w _ (hc 0 (List.length_pos_iff.2 hx))
  show g' ≠ g
  exact fun e => by subst e; exact absurd this (by simpa using hg)
end
/-- A row of the call's own, of numbers. -/
def Own (κ : IntKind) (w : World) (B : Nat) (t : TypeId) (v : Value) (xs : List Nat) : Prop := w.ownsRow B t 1 v xs.length (nums κ xs)
end Go.Proofs.YtddfigbpckhfbaaGreatDoor

namespace Go.Proofs.YtddfigbpckhfbaaGreatDoor
open Go.RowKit

/-- The unit of a limb. -/
abbrev B32 : Nat := 4294967296
theorem lim32 {l : List Nat} (h : Lim B32 l) (k : Nat) (hk : k < l.length) : ∃ x, l[k] = x ∧ x < 4294967296 := ⟨_, rfl, lim_get h k hk⟩
theorem top_of_ge {B : Nat} {l : List Nat} (hl : Lim B l) (h : l = [] ∨ B ^ (l.length - 1) ≤ vl B l) : Top l := by
  rcases h with rfl | h
  · exact top_nil
  · by_cases e : l = []
    · subst e; exact top_nil
    · obtain ⟨m, x, rfl⟩ := snoc_of_ne e
      refine top_snoc.2 fun hx => ?_
      subst hx
      rw [vl_snoc, List.length_append, List.length_singleton, Nat.add_sub_cancel, Nat.mul_zero, Nat.add_zero] at h
      have := vl_lt (lim_append.1 hl).1
      omega
theorem info_u32 : (Tryz.prog.info? 206).map (fun i => (i.zero, i.size, i.bytes)) = some (some (.int .u32 0), 1, 4) := by kernel_rfl
section
variable {κ : IntKind} {w w' : World} {B g n cap : Nat} {t : TypeId} {v : Value} {A : Option Addr} {xs : List Nat}
theorem Own.nil (w : World) (B : Nat) (t : TypeId) : Own κ w B t (.slice none 0 0) [] := World.ownsRow_nil _ _ _ _
theorem Own.form (h : Own κ w B t v xs) (hx : 0 < xs.length) : ∃ g cap, v = .slice (some ⟨g, 0, none⟩) xs.length cap ∧ B ≤ g ∧ xs.length ≤ cap ∧ cap ≤ maxLen := by
  rcases h.2 with ⟨_, h0⟩ | ⟨g, cap, cur, rfl, hb, _, h1, h2, _⟩
  · omega
  · exact ⟨g, cap, rfl, hb, h1, h2⟩
theorem Own.forms (h : Own κ w B t v xs) : (v = .slice none 0 0 ∧ xs = []) ∨ ∃ g cap, v = .slice (some ⟨g, 0, none⟩) xs.length cap ∧ B ≤ g ∧ xs.length ≤ cap ∧ cap ≤ maxLen := by
  rcases h.2 with ⟨h1, h0⟩ | ⟨g, cap, cur, rfl, hb, _, h1, h2, _⟩
  · exact .inl ⟨h1, List.eq_nil_of_length_eq_zero h0⟩
  · exact .inr ⟨g, cap, rfl, hb, h1, h2⟩
/-- As a slice: the address is a variable. -/
theorem Own.slice (h : Own κ w B t v xs) : ∃ A cap, v = .slice A xs.length cap ∧ xs.length ≤ cap ∧ cap ≤ maxLen := by
  rcases h.forms with ⟨rfl, rfl⟩ | ⟨g, cap, rfl, _, h1, h2⟩
  · exact ⟨none, 0, rfl, Nat.le_refl _, Nat.zero_le _⟩
  · exact ⟨_, cap, rfl, h1, h2⟩
theorem Own.cell (h : Own κ w B t (.slice (some ⟨g, 0, none⟩) n cap) xs) (k : Nat) (hk : k < xs.length) : w.cell? ⟨g, k, none⟩ = some (.int κ (xs[k] : Nat)) := by
  have hn : n = xs.length := by
    rcases h.form (by omega) with ⟨_, _, e, _⟩
    cases e; rfl
  subst hn
  rw [World.ownsRow.cellAt h k (by omega), nums, List.getElem?_map, List.getElem?_eq_getElem hk]
  rfl
theorem Own.frozen (h : Own κ w B t (.slice (some ⟨g, 0, none⟩) xs.length cap) xs) (k : Nat) : w.frozen? ⟨g, k, none⟩ = false := World.ownsRow.frozenAt h k
theorem Own.set (h : Own κ w B t (.slice (some ⟨g, 0, none⟩) n cap) xs) (hn : n = xs.length) (k y : Nat) : Own κ (w.setCell ⟨g, k, none⟩ (.int κ (y : Nat))) B t (.slice (some ⟨g, 0, none⟩) n cap) (xs.set k y) := by
  subst hn
  have := (World.ownsRow.stored h k (.int κ (y : Nat))).1
  rw [nums_set] at this
  unfold Own
  rw [List.length_set]
  exact this
theorem Own.rd (h : Own κ w B t (.slice A n cap) xs) : Rd κ w A xs := fun j hj => by
  obtain ⟨g, c, e, _⟩ := h.form (by omega)
  cases e
  exact ⟨g, 0, rfl, by rw [Nat.zero_add]; exact h.cell j hj⟩
theorem Own.len (h : Own κ w B t (.slice A n cap) xs) : n = xs.length := by
  rcases h.forms with ⟨e, rfl⟩ | ⟨g, c, e, _⟩
  · cases e; rfl
  · cases e; rfl
theorem Own.addr (h : Own κ w B t (.slice A n cap) xs) (hx : 0 < xs.length) : ∃ g, A = some ⟨g, 0, none⟩ ∧ B ≤ g := by
  obtain ⟨g, c, e, hb, _⟩ := h.form hx
  cases e
  exact ⟨g, rfl, hb⟩
theorem Own.row (h : Own κ w B t v xs) {n : Nat} (hn : xs.length = n) : w.ownsRow B t 1 v n (nums κ xs) := by subst hn; exact h
theorem Own.kept (h : Own κ w B t v xs) {row : Option Nat} (hg : w.grownBy w' row) (hne : v.ownBlock = none ∨ v.ownBlock ≠ row) : Own κ w' B t v xs := World.ownsRow.kept h hg hne
theorem Own.drew (h : Own κ w B t v xs) : Own κ w.drew B t v xs := h
theorem Own.alloc (h : Own κ w B t v xs) (o : Obj) : Own κ (w.alloc o) B t v xs := World.ownsRow.alloc h o
theorem Own.mono (h : Own κ w B t v xs) {B' : Nat} (hb : B' ≤ B) : Own κ w B' t v xs := ⟨h.1, h.2.imp_right fun ⟨g, cap, cur, e, hB, rest⟩ => ⟨g, cap, cur, e, Nat.le_trans hb hB, rest⟩⟩
theorem Own.below (h : Own κ w B t v xs) (hb : Below w.heap.size w w') : Own κ w' B t v xs := by
  refine ⟨h.1, ?_⟩
  rcases h.2 with h0 | ⟨g, cap, cur, rfl, hB, hg, rest⟩
  · exact .inl h0
  · exact .inr ⟨g, cap, cur, rfl, hB, (hb.block g (Array.getElem?_eq_some_iff.1 hg).1).trans hg, rest⟩
theorem Own.lt (h : Own κ w B t (.slice (some ⟨g, 0, none⟩) n cap) xs) : B ≤ g ∧ g < w.heap.size := World.ownsRow.lt h g rfl
theorem Own.take (h : Own κ w B t (.slice A n cap) xs) (m : Nat) (hm : m ≤ xs.length) : Own κ w B t (.slice A m cap) (xs.take m) := by
  have hl : (xs.take m).length = m := by rw [List.length_take]; omega
  unfold Own
  rw [hl]
  rcases h.2 with ⟨e, h0⟩ | ⟨g, c, cur, e, hB, hg, h1, h2, h3, h4⟩
  · cases e
    obtain rfl : m = 0 := by omega
    exact World.ownsRow_nil _ _ _ _
  · cases e
    refine ⟨by rw [nums_len, hl]; omega, .inr ⟨g, cap, cur, rfl, hB, hg, by omega, h2, h3, ?_⟩⟩
    have := congrArg (List.take m) h4
    rw [List.take_take, Nat.mul_one, Nat.min_eq_left (by omega)] at this
    rw [Nat.mul_one, this, nums, nums, List.map_take]
theorem Own.snoc {k : Nat} {x : Nat} (h : w.ownsRow B t 1 v (k + 1) (nums κ xs ++ [.int κ (x : Nat)])) (hk : k = xs.length) : Own κ w B t v (xs ++ [x]) := by
  subst hk
  unfold Own
  rw [List.length_append, nums_append]
  exact h
theorem Own.append {k m : Nat} {ys : List Nat} (h : w.ownsRow B t 1 v (k + m) (nums κ xs ++ nums κ ys)) (hk : k = xs.length) (hm : m = ys.length) : Own κ w B t v (xs ++ ys) := by
  subst hk
  subst hm
  unfold Own
  rw [List.length_append, nums_append]
  exact h
theorem Own.off (h : Own κ w B t v xs) {r : Nat} (hv : v.ownBlock ≠ some r) (hA : v = .slice A n cap) : Off A r := by
  subst hA
  intro a e
  subst e
  exact fun e2 => hv (by simp [Value.ownBlock, e2])
/-- A row that was there, and one that was made later. -/
theorem own_apart {κ' : IntKind} {B' : Nat} {t' : TypeId} {v' : Value} {ys : List Nat} (h1 : Own κ w B t v xs) (hB : w.heap.size ≤ B') (h2 : Own κ' w' B' t' v' ys) : v.ownBlock = none ∨ v.ownBlock ≠ v'.ownBlock := by
  cases hv : v.ownBlock with
  | none => exact .inl rfl
  | some g =>
    refine .inr fun e => ?_
    have a := World.ownsRow.lt h1 g hv
    have b := World.ownsRow.lt h2 g e.symm
    omega
/-- A block whose beginning is read is a row of the call's own. -/
theorem own_of_at {R : List Value} (h : At κ w g t [] xs R) (hB : B ≤ g) (hc : cap = xs.length + R.length) (hm : cap ≤ maxLen) : Own κ w B t (.slice (some ⟨g, 0, none⟩) xs.length cap) xs := by
  obtain ⟨cs, h1, h2⟩ := h
  have hl : cs.size = cap := by rw [← Array.length_toList, h2]; simp [nums_len, hc]
  refine ⟨by rw [nums_len]; omega, .inr ⟨g, cap, cs, rfl, hB, h1, by omega, hm, by omega, ?_⟩⟩
  rw [h2, List.nil_append, Nat.mul_one, List.take_append_of_le_length (by rw [nums_len]; exact Nat.le_refl _), List.take_of_length_le (by rw [nums_len]; exact Nat.le_refl _)]
theorem at_of_own (h : Own κ w B t (.slice (some ⟨g, 0, none⟩) n cap) xs) : ∃ R, At κ w g t [] xs R ∧ cap = xs.length + R.length := by
  rcases h.2 with ⟨e, _⟩ | ⟨g', cap', cur, e, _, hg, h1, _, h3, h4⟩
  · cases e
  · cases e
    refine ⟨cur.toList.drop xs.length, ⟨cur, hg, ?_⟩, ?_⟩
    · rw [List.nil_append]
      rw [Nat.mul_one] at h4
      conv => lhs; rw [← List.take_append_drop xs.length cur.toList, h4]
    · have : cur.toList.length = cur.size := Array.length_toList
      rw [List.length_drop]; omega
/-- The cells of a slice that is read, as the law of append wants them. -/
theorem Rd.news {g o : Nat} (h : Rd κ w (some ⟨g, o, none⟩) xs) : ∀ j u, (nums κ xs)[j]? = some u → w.cell? ((⟨g, o, none⟩ : Addr).add j) = some u := by
  intro j u hu
  by_cases hj : j < xs.length
  · obtain ⟨g', o', e, hc⟩ := h j hj
    cases e
    rw [nums, List.getElem?_map, List.getElem?_eq_getElem hj] at hu
    rw [Addr.add_lit, hc]
    exact hu
  · rw [List.getElem?_eq_none (by rw [nums_len]; omega)] at hu
    cases hu
theorem nums_one (κ : IntKind) (xs : List Nat) : ∀ u ∈ nums κ xs, u.oneCell' = true := by
  intro u hu
  obtain ⟨x, _, rfl⟩ := List.mem_map.1 hu
  rfl
end
end Go.Proofs.YtddfigbpckhfbaaGreatDoor

namespace Go.Proofs.YtddfigbpckhfbaaGreatDoor
open Go.RowKit Go.Lib

set_option maxRecDepth 100000 in
set_option maxHeartbeats 1000000 in
theorem trim_any (A : Option Addr) (cap : Nat) (xs : List Nat) (w : World) (hx : Lim B32 xs) (_hxn : xs.length ≤ 100000) (hcap : xs.length ≤ cap) (hcm : cap ≤ maxLen) (hr : Rd .u32 w A xs) :
    Calls Tryz.prog 200 #[.slice A xs.length cap] w fun e w' => (∃ m : Nat, m ≤ xs.length ∧ dig B32 (vl B32 xs) = xs.take m ∧ e = .returned (.slice A m cap)) ∧ w = w' := by
  unfold maxLen at hcm
  go_enter Tryz.func200, Tryz.ntmps200
  go_wp2
  go_loop [3] (fun i => ∃ k : Nat, k ≤ xs.length ∧ i = .int .i64 k ∧ ∀ j (_ : k ≤ j) (hj : j < xs.length), xs[j] = 0) (fun i => (RowKit.intOf i).toNat)
  case atStart => exact ⟨xs.length, Nat.le_refl _, rfl, fun j _ _ => by omega⟩
  case round =>
    obtain ⟨k, hk, rfl, h0⟩ := hrel
    have H0 := Lib.hid h0; clear h0
    by_cases hz : k = 0
    · subst hz
      go_wp2
      go_ret
      exact ⟨⟨0, Nat.zero_le _, (trim_take (by decide) hx (Nat.zero_le _) H0.out (.inl rfl)).1, rfl⟩, rfl⟩
    · obtain ⟨g, o, rfl, hc⟩ := hr (k - 1) (by omega)
      obtain ⟨x, hxe, hxk⟩ := lim32 hx (k - 1) (by omega)
      rw [hxe] at hc
      have HX := Lib.hid hxe; clear hxe
      by_cases hx0 : x = 0
      · subst hx0
        go_wp2
        go_round
        case rel => exact ⟨k - 1, by omega, by go_num, fun j h1 h2 => by
          by_cases e : j = k - 1
          · subst e; exact HX.out
          · exact H0.out j (by omega) h2⟩
        case measure => simp [RowKit.intOf]; omega
      · go_wp2
        go_ret
        exact ⟨⟨k, hk, (trim_take (by decide) hx hk H0.out (.inr ⟨by omega, by rw [HX.out]; exact hx0⟩)).1, rfl⟩, rfl⟩
end Go.Proofs.YtddfigbpckhfbaaGreatDoor

namespace Go.Proofs.YtddfigbpckhfbaaGreatDoor
open Go.RowKit Go.Lib

/-- A product of two limbs, and what is carried, fits. -/
theorem prod_fits {x t c : Nat} (hx : x < 4294967296) (ht : t < 4294967296) (hc : c < 4294967296) : (x : Int) * (t : Int) + (c : Int) ≤ 18446744073709551615 ∧ 0 ≤ (x : Int) * (t : Int) ∧ ((x : Int) * (t : Int) = ((x * t : Nat) : Int)) := by
  have h : x * t ≤ 4294967295 * 4294967295 := Nat.mul_le_mul (by omega) (by omega)
  refine ⟨?_, ?_, by simp⟩
  · rw [← Int.natCast_mul]; omega
  · rw [← Int.natCast_mul]; omega

/-- A difference that wraps round. -/
theorem sub2_lt {a b r : Int} (h1 : 0 ≤ a ∧ a < 4294967296) (h3 : 0 ≤ b ∧ b < 4294967296) (hr : 0 ≤ r ∧ r ≤ 1) (h : a < b + r) : IntKind.u64.wrap (IntKind.u64.wrap (a - b) - r) = a - b - r + 18446744073709551616 := by
  rw [IntKind.wrap_u64, IntKind.wrap_u64]; omega
theorem sub2_hi {a b r : Int} (h1 : 0 ≤ a ∧ a < 4294967296) (h3 : 0 ≤ b ∧ b < 4294967296) (hr : 0 ≤ r ∧ r ≤ 1) (h : a < b + r) : IntKind.u64.wrap (IntKind.u64.wrap (a - b) - r) / 9223372036854775808 = 1 := by
  rw [sub2_lt h1 h3 hr h]; omega
theorem sub2_lo {a b r : Int} (h1 : 0 ≤ a ∧ a < 4294967296) (h3 : 0 ≤ b ∧ b < 4294967296) (hr : 0 ≤ r ∧ r ≤ 1) (h : a < b + r) : IntKind.u64.wrap (IntKind.u64.wrap (a - b) - r) % 4294967296 = a + 4294967296 - b - r := by
  rw [sub2_lt h1 h3 hr h]; omega

set_option maxRecDepth 100000 in
set_option maxHeartbeats 1000000 in
theorem takeFrom_any (g o cap cb tm : Nat) (A : Option Addr) (t : TypeId) (L R : List Value) (xs bs : List Nat) (w : World) (hA : At .u32 w g t L xs R) (ho : L.length = o) (hx : Lim B32 xs) (hb : Lim B32 bs) (hxn : xs.length ≤ 100000) (_hbn : bs.length ≤ xs.length)
    (htm : tm < 4294967296) (hr : Rd .u32 w A bs) (hoff : bs ≠ [] → Off A g) :
    Calls Tryz.prog 263 #[.slice (some ⟨g, o, none⟩) xs.length cap, .slice A bs.length cb, .int .u32 tm] w fun e w' => (∃ cur m r, At .u32 w' g t L cur R ∧ TakeR B32 tm xs bs cur xs.length m r ∧ e = .returned (.bool (decide (r = 1)))) ∧ w.grownBy w' (some g) := by
  go_enter Tryz.func263, Tryz.ntmps263
  go_wp2
  go_loopw [7, 8, 13] (fun c q i wr => ∃ (k m r : Nat) (cur : List Nat), k ≤ xs.length ∧ i = .int .i64 k ∧ c = .int .u64 m ∧ q = .int .u64 r ∧ At .u32 wr g t L cur R ∧ TakeR B32 tm xs bs cur k m r ∧ w.grownBy wr (some g)) (fun _ _ i _ => xs.length - (RowKit.intOf i).toNat)
  case atStart => exact ⟨0, 0, 0, xs, Nat.zero_le _, rfl, rfl, rfl, hA, takeR_start hx, grown_refl _ _⟩
  case round =>
    obtain ⟨k, m, r, cur, hk, rfl, rfl, rfl, hAt, hR, hG⟩ := hrel
    have hr1 : r ≤ 1 := hR.2.2.1
    have hm1 : m < 4294967296 := by have := hR.2.2.2.1; omega
    by_cases hlt : k < xs.length
    · have hcl := hAt.cell ho k (by rw [hR.1.len]; exact hlt)
      have hfz := hAt.frozen (o + k)
      rw [up_get hR.1 hlt] at hcl
      obtain ⟨x, hxe, hxk⟩ := lim32 hx k hlt
      rw [hxe] at hcl
      have HX := Lib.hid hxe; clear hxe
      by_cases hb2 : k < bs.length
      · obtain ⟨gb, ob, rfl, hcb⟩ := hr.kept hG (hoff (List.ne_nil_of_length_pos (by omega))) k hb2
        obtain ⟨y, hye, hyk⟩ := lim32 hb k hb2
        rw [hye] at hcb
        have HY := Lib.hid hye; clear hye
        obtain ⟨f1, f2, f3⟩ := prod_fits htm hyk hm1
        have HZ := Lib.hid f3; clear f3
        by_cases hge : ((m : Int) + (tm : Int) * (y : Int)) % 4294967296 + (r : Int) ≤ (x : Int)
        · go_wp2
          go_roundw
          case rel => exact ⟨k + 1, (m + tm * y) / 4294967296, 0, cur.set k (x - (m + tm * y) % 4294967296 - r), hlt, by go_num, vint (by omega), vint (by omega), hAt.set_ ho k (by rw [hR.1.len]; exact hlt) _ _ (by omega),
            takeR_step (B := 4294967296) (by decide) hR hb hlt _ _ 0 (by rw [getD_of hb2, HY.out]) (by rw [HX.out]; omega) (by omega) (by omega), grown_set hG _⟩
          case measure => simp [RowKit.intOf]; omega
        · go_wp2
          go_roundw
          case rel => exact ⟨k + 1, (m + tm * y) / 4294967296, 1, cur.set k (x + 4294967296 - (m + tm * y) % 4294967296 - r), hlt, by go_num, vint (by omega), vint (sub2_hi (by omega) (by omega) (by omega) (by omega)), hAt.set_ ho k (by rw [hR.1.len]; exact hlt) _ _ ((sub2_lo (by omega) (by omega) (by omega) (by omega)).trans (by omega)),
            takeR_step (B := 4294967296) (by decide) hR hb hlt _ _ 1 (by rw [getD_of hb2, HY.out]) (by rw [HX.out]; omega) (by omega) (by omega), grown_set hG _⟩
          case measure => simp [RowKit.intOf]; omega
      · by_cases hge : (m : Int) + (r : Int) ≤ (x : Int)
        · go_wp2
          go_roundw
          case rel => exact ⟨k + 1, m / 4294967296, 0, cur.set k (x - m - r), hlt, by go_num, vint (by omega), vint (by omega), hAt.set_ ho k (by rw [hR.1.len]; exact hlt) _ _ (by omega),
            takeR_step (B := 4294967296) (by decide) hR hb hlt m _ 0 (by rw [getD_no hb2]; rfl) (by rw [HX.out]; omega) (by omega) (by omega), grown_set hG _⟩
          case measure => simp [RowKit.intOf]; omega
        · go_wp2
          go_roundw
          case rel => exact ⟨k + 1, m / 4294967296, 1, cur.set k (x + 4294967296 - m - r), hlt, by go_num, vint (by omega), vint (sub2_hi (by omega) (by omega) (by omega) (by omega)), hAt.set_ ho k (by rw [hR.1.len]; exact hlt) _ _ ((sub2_lo (by omega) (by omega) (by omega) (by omega)).trans (by omega)),
            takeR_step (B := 4294967296) (by decide) hR hb hlt m _ 1 (by rw [getD_no hb2]; rfl) (by rw [HX.out]; omega) (by omega) (by omega), grown_set hG _⟩
          case measure => simp [RowKit.intOf]; omega
    · obtain rfl : k = xs.length := by omega
      by_cases h1 : r = 1
      · subst h1
        go_wp2
        go_ret
        exact ⟨⟨cur, m, 1, hAt, hR, rfl⟩, hG⟩
      · obtain rfl : r = 0 := by omega
        go_wp2
        go_ret
        exact ⟨⟨cur, m, 0, hAt, hR, rfl⟩, hG⟩
end Go.Proofs.YtddfigbpckhfbaaGreatDoor

namespace Go.Proofs.YtddfigbpckhfbaaGreatDoor
open Go.RowKit Go.Lib

/-- The end of a contract that makes a row of its own. -/
def Makes (κ : IntKind) (t : TypeId) (w : World) (xs : List Nat) (e : Ending) (w' : World) : Prop := ∃ v, e = .returned v ∧ Own κ w' w.heap.size t v xs ∧ Below w.heap.size w w'

set_option maxRecDepth 100000 in
set_option maxHeartbeats 1000000 in
theorem fresh_any (A : Option Addr) (cap : Nat) (xs : List Nat) (w : World) (hxn : xs.length ≤ 100000) (hr : Rd .u32 w A xs) (hA : A = none → cap = 0) :
    Calls Tryz.prog 238 #[.slice A xs.length cap] w (Makes .u32 206 w xs) := by
  obtain ⟨i0, hi, hz0, hz1, hz2⟩ := info_parts info_u32
  have hn0 : w.ownsRow w.heap.size 206 1 (.slice none 0 0) 0 [] := World.ownsRow_nil _ _ _ _
  rcases A with _ | ⟨g, o, p⟩
  · obtain rfl := hA rfl
    have hx : xs = [] := by
      by_cases h : xs = []
      · exact h
      · obtain ⟨_, _, e, _⟩ := hr.at_ h
        cases e
    subst hx
    go_enter Tryz.func238, Tryz.ntmps238
    go_wp2_with (at_builtin; refine wpList_append_own_none rfl _ _ 189 rfl w.heap.size 206 i0 1 Tryz.underlying189 hi _ 0 [] rfl hn0 rfl ?_)
    go_ret
    exact ⟨_, rfl, Own.nil _ _ _, Below.refl _ _⟩
  · have hp : xs ≠ [] → p = none := fun h => by
      obtain ⟨_, _, e, _⟩ := hr.at_ h
      cases e; rfl
    have hc : ∀ j u, (nums .u32 xs)[j]? = some u → w.cell? ((⟨g, o, p⟩ : Addr).add j) = some u := by
      by_cases hx : xs = []
      · subst hx; intro j u hu; simp [nums] at hu
      · obtain rfl := hp hx
        exact hr.news
    go_enter Tryz.func238, Tryz.ntmps238
    go_wp2_with (at_builtin; refine wpList_append_own _ rfl _ _ 189 rfl w.heap.size 206 i0 (.int .u32 0) 1 4 Tryz.underlying189 hi hz0 hz1 hz2 rfl (by decide) _ _ _ rfl hn0 ⟨g, o, p⟩ xs.length cap (nums .u32 xs) rfl ?c1 hc (nums_one _ _) ?c3 ?c4 ?c5 ?_)
    case c1 => rw [nums_len]; omega
    case c3 => unfold maxLen; omega
    case c4 => omega
    case c5 => exact Nat.le_refl _
    intro v w1 hown hgrow _
    try simp only [Nat.zero_add, List.nil_append] at hown
    have HO := Lib.hid hown; clear hown
    have hB : Below w.heap.size w w1 := (Below.refl _ _).grown hgrow (Nat.le_refl _) (fun k e => by cases e)
    clear hgrow hc hp
    go_wp2
    go_ret
    exact ⟨v, rfl, HO.out, hB⟩

/-- mulAdd's numbers. -/
theorem mul_norm {xs ys : List Nat} {tm more : Nat} (hx : Norm B32 xs) (ht : 0 < tm) (hl : Lim B32 ys) (hv : vl B32 ys = vl B32 xs * tm + more) (hlen : ys.length = xs.length ∨ Top ys) : dig B32 (vl B32 xs * tm + more) = ys := by
  refine dig_eq (by decide) ⟨hl, ?_⟩ hv
  rcases hlen with h | h
  · refine top_of_ge hl ?_
    by_cases e : xs = []
    · left; subst e; exact List.eq_nil_of_length_eq_zero h
    · right
      have h1 := vl_top (B := B32) hx.2 e
      have h2 : vl B32 xs * 1 ≤ vl B32 xs * tm := Nat.mul_le_mul_left _ ht
      rw [h, hv]
      omega
  · exact h

set_option maxRecDepth 100000 in
set_option maxHeartbeats 1000000 in
theorem mulAdd_any (A : Option Addr) (cap tm more B : Nat) (xs : List Nat) (w : World) (hx : Norm B32 xs) (hxn : xs.length ≤ 100000) (ht0 : 0 < tm) (htm : tm < 4294967296) (hmo : more < 4294967296) (hB : B ≤ w.heap.size)
    (hO : Own .u32 w B 206 (.slice A xs.length cap) xs) :
    Calls Tryz.prog 199 #[.slice A xs.length cap, .int .u32 tm, .int .u32 more] w fun e w' => ∃ v, e = .returned v ∧ Own .u32 w' B 206 v (dig B32 (vl B32 xs * tm + more)) ∧ Below B w w' := by
  obtain ⟨i0, hi, hz0, hz1, hz2⟩ := info_parts info_u32
  go_enter Tryz.func199, Tryz.ntmps199
  go_wp2
  go_loopw [7, 13] (fun c i wr => ∃ (k z : Nat) (cur : List Nat), k ≤ xs.length ∧ i = .int .i64 k ∧ c = .int .u64 z ∧ Own .u32 wr B 206 (.slice A xs.length cap) cur ∧ MulR B32 tm more xs cur k z ∧ Below B w wr) (fun _ i _ => xs.length - (RowKit.intOf i).toNat)
  case atStart => exact ⟨0, more, xs, Nat.zero_le _, rfl, rfl, hO, mulR_start hx.1 hmo, Below.refl _ _⟩
  case round =>
    obtain ⟨k, z, cur, hk, rfl, rfl, hOw, hR, hBe⟩ := hrel
    have hz : z < 4294967296 := hR.2.2
    have hlen := hR.1.len
    by_cases hlt : k < xs.length
    · obtain ⟨g, rfl, hBg⟩ := hOw.addr (by omega)
      have hcl := hOw.cell k (by omega)
      have hfz : wr.frozen? ⟨g, k, none⟩ = false := World.ownsRow.frozenAt (hOw.row hlen) k
      rw [up_get hR.1 hlt] at hcl
      obtain ⟨x, hxe, hxk⟩ := lim32 hx.1 k hlt
      rw [hxe] at hcl
      have HX := Lib.hid hxe; clear hxe
      obtain ⟨f1, f2, f3⟩ := prod_fits hxk htm hz
      clear f3
      have HL := Lib.hid hlen; clear hlen
      go_wp2
      go_roundw
      case rel =>
        have hs := hOw.set HL.out.symm k ((z + x * tm) % 4294967296)
        exact ⟨k + 1, (z + x * tm) / 4294967296, cur.set k ((z + x * tm) % 4294967296), hlt, by go_num, vint (by omega), by rw [show ((z : Int) + (x : Int) * (tm : Int)) % 4294967296 = (((z + x * tm) % 4294967296 : Nat) : Int) by omega]; exact hs,
          mulR_step (B := 4294967296) hR htm hx.1 hlt _ (by rw [HX.out]), hBe.setCell hBg _⟩
      case measure => simp [RowKit.intOf]; omega
    · obtain rfl : k = xs.length := by omega
      have hv := hR.2.1
      rw [vl_take_all (by omega), vl_take_all (Nat.le_refl _)] at hv
      by_cases hz0' : z = 0
      · subst hz0'
        have HE := Lib.hid (mul_norm hx ht0 hR.1.lim (by rw [← hv]; simp) (.inl hlen))
        clear hv
        go_wp2
        go_ret
        exact ⟨_, rfl, by rw [HE.out]; exact hOw, hBe⟩
      · have HE := Lib.hid (mul_norm (ys := cur ++ [z]) hx ht0 (lim_append.2 ⟨hR.1.lim, lim_one.2 hz⟩) (by rw [← hv, vl_snoc, hlen]) (.inr (top_snoc.2 hz0')))
        have HL := Lib.hid hlen
        have hown : wr.ownsRow B 206 1 (.slice A xs.length cap) xs.length (nums .u32 cur) := hOw.row hlen
        have hsz := hBe.size
        clear hv hlen
        go_wp2_with (at_builtin; refine wpList_append_own _ rfl _ _ 189 rfl B 206 i0 (.int .u32 0) 1 4 Tryz.underlying189 hi hz0 hz1 hz2 rfl (by decide) _ _ _ rfl (hown.alloc _) ⟨wr.heap.size, 0, none⟩ 1 1 [.int .u32 z] rfl rfl (cell_one_new _ _ _) ?c2 ?c3 ?c4 ?c5 ?_)
        case c2 => simp [Value.oneCell']
        case c3 => unfold maxLen; omega
        case c4 => omega
        case c5 => first | omega | (simp; omega)
        intro v' w1 hown' hgrow _
        have hB1 : Below B w w1 := (hBe.alloc (by omega) _).grown hgrow (by simp; omega) (fun r e => (hown.lt r e).1)
        have HO := Lib.hid (Own.snoc hown' HL.out.symm); clear hown'
        clear hown hgrow
        go_wp2
        go_ret
        exact ⟨v', rfl, by rw [HE.out]; exact HO.out, hB1⟩
end Go.Proofs.YtddfigbpckhfbaaGreatDoor

namespace Go.Proofs.YtddfigbpckhfbaaGreatDoor
open Go.RowKit Go.Lib

theorem or_low {k a b : Nat} (h : b < 2 ^ k) : a * 2 ^ k ||| b = a * 2 ^ k + b := by
  rw [← Nat.shiftLeft_eq, Nat.shiftLeft_add_eq_or_of_lt h]
/-- A word put together of two limbs. -/
theorem or_add {z x : Nat} (hz : z < 4294967296) (hx : x < 4294967296) : bits .or .u64 ((z : Int) * 4294967296) (x : Int) = (z : Int) * 4294967296 + (x : Int) := by
  have h := u64_or_nat (z * 4294967296) x (by omega) (by omega)
  rw [show z * 4294967296 ||| x = z * 4294967296 + x from or_low (k := 32) hx] at h
  rw [Int.natCast_mul, Int.natCast_add, Int.natCast_mul] at h
  exact h

set_option maxRecDepth 100000 in
set_option maxHeartbeats 1000000 in
theorem divLimb_any (g o cap d : Nat) (t : TypeId) (L R : List Value) (xs : List Nat) (w : World) (hA : At .u32 w g t L xs R) (ho : L.length = o) (hx : Lim B32 xs) (hxn : xs.length ≤ 100000) (hd0 : 0 < d) (hd : d < 4294967296) :
    Calls Tryz.prog 239 #[.slice (some ⟨g, o, none⟩) xs.length cap, .int .u32 d] w fun e w' => (∃ (left : Nat) (cur : List Nat), At .u32 w' g t L cur R ∧ DivR B32 d xs cur 0 left ∧ e = .returned (.int .u32 left)) ∧ w.grownBy w' (some g) := by
  go_enter Tryz.func239, Tryz.ntmps239
  go_wp2
  go_loopw [5, 6] (fun c i wr => ∃ (k z : Nat) (cur : List Nat), k ≤ xs.length ∧ i = .int .i64 ((k : Int) - 1) ∧ c = .int .u64 z ∧ At .u32 wr g t L cur R ∧ DivR B32 d xs cur k z ∧ w.grownBy wr (some g)) (fun _ i _ => (RowKit.intOf i + 1).toNat)
  case atStart => exact ⟨xs.length, 0, xs, Nat.le_refl _, rfl, rfl, hA, divR_start hx hd0, grown_refl _ _⟩
  case round =>
    obtain ⟨k, z, cur, hk, rfl, rfl, hAt, hR, hG⟩ := hrel
    have hz : z < d := hR.2.2
    rcases k with _ | k
    · have hz2 : (z : Int) % 4294967296 = (z : Int) := by omega
      go_wp2
      go_ret
      exact ⟨⟨z, cur, hAt, hR, rfl⟩, hG⟩
    · have hlt : k < xs.length := hk
      have hcl := hAt.cell ho k (by rw [hR.1.len]; exact hlt)
      have hfz := hAt.frozen (o + k)
      rw [down_get hR.1] at hcl
      obtain ⟨x, hxe, hxk⟩ := lim32 hx k hlt
      rw [hxe] at hcl
      have hst := divR_step (B := 4294967296) hR hx (z * 4294967296 + x) (by rw [hxe])
      have HS := Lib.hid hst.1
      have hq1 : ((z : Int) * 4294967296 + (x : Int)) / (d : Int) < 4294967296 := by
        have h := Int.ofNat_lt.2 hst.2
        rw [Int.natCast_ediv, Int.natCast_add, Int.natCast_mul] at h
        exact h
      have hq0 : 0 ≤ ((z : Int) * 4294967296 + (x : Int)) / (d : Int) := Int.ediv_nonneg (by omega) (by omega)
      have hor := or_add (z := z) (x := x) (by omega) hxk
      clear hxe hst
      rw [show ((k + 1 : Nat) : Int) - 1 = (k : Int) by omega]
      go_wp2
      go_roundw
      case rel => exact ⟨k, _, _, by omega, rfl, vint (by simp), hAt.set_ ho k (by rw [hR.1.len]; exact hlt) _ _ (by simp), HS.out, grown_set hG _⟩
      case measure => simp [RowKit.intOf]

/-- A limb shifted, and what was carried. -/
theorem or_shift {c x k P : Nat} (hP : 2 ^ k = P) (hc : c < P) (hx : x < 4294967296) (hk : k < 32) : bits .or .u64 (c : Int) ((x : Int) * (P : Int)) = (x : Int) * (P : Int) + (c : Int) ∧ (x : Int) * (P : Int) + (c : Int) ≤ 18446744073709551615 ∧ 0 ≤ (x : Int) * (P : Int) ∧ (2 : Int) ^ k = (P : Int) := by
  subst hP
  have h2 : 2 ^ k ≤ 2 ^ 31 := Nat.pow_le_pow_right (by omega) (by omega)
  have h3 : (x + 1) * 2 ^ k ≤ 4294967296 * 2 ^ k := Nat.mul_le_mul_right _ hx
  rw [Nat.add_mul] at h3
  have h4 : 4294967296 * 2 ^ k ≤ 4294967296 * 2 ^ 31 := Nat.mul_le_mul_left _ h2
  have h := u64_or_nat c (x * 2 ^ k) (by omega) (by omega)
  rw [Nat.or_comm, or_low hc] at h
  rw [Int.natCast_mul, Int.natCast_add, Int.natCast_mul] at h
  refine ⟨h, ?_, ?_, ?_⟩
  · rw [← Int.natCast_mul]; omega
  · rw [← Int.natCast_mul]; omega
  · rw [Int.natCast_pow]; rfl

/-- What is carried out of the last limb is put behind it, if there is a place. -/
def putTop (n m c : Nat) (cur : List Nat) : List Nat := if n < m then cur.set n c else cur
/-- How shiftUp ends. -/
def ShuEnd (g : Nat) (t : TypeId) (L R : List Value) (out ls : List Nat) (P : Nat) (w' : World) : Prop :=
  ∃ cur c, ShuR B32 P ls cur ls.length c ∧ cur.length = out.length ∧ cur.drop ls.length = out.drop ls.length ∧ At .u32 w' g t L (putTop ls.length out.length c cur) R

set_option maxRecDepth 100000 in
set_option maxHeartbeats 1000000 in
theorem shiftUp_any (g o cap ca k : Nat) (A : Option Addr) (t : TypeId) (L R : List Value) (out ls : List Nat) (w : World) (hA : At .u32 w g t L out R) (ho : L.length = o) (hx : Lim B32 out) (ha : Lim B32 ls) (hn : out.length ≤ 100000) (hl : ls.length ≤ out.length) (hk : k < 32)
    (hr : Rd .u32 w A ls) (hoff : ls ≠ [] → Off A g) :
    Calls Tryz.prog 237 #[.slice (some ⟨g, o, none⟩) out.length cap, .slice A ls.length ca, .int .i64 k] w fun e w' => e = .returned (.tuple #[]) ∧ ShuEnd g t L R out ls (2 ^ k) w' ∧ w.grownBy w' (some g) := by
  obtain ⟨P, hP⟩ : ∃ P, 2 ^ k = P := ⟨_, rfl⟩
  have hP0 : 0 < P := by rw [← hP]; exact Nat.pow_pos (by omega)
  have hP2 : P ≤ 2147483648 := by rw [← hP]; exact (Nat.pow_le_pow_right (by omega) (show k ≤ 31 by omega) : 2 ^ k ≤ 2 ^ 31)
  rw [hP]
  have HP := Lib.hid hP; clear hP
  go_enter Tryz.func237, Tryz.ntmps237
  go_wp2
  go_loopw [6, 11] (fun c i wr => ∃ (j z : Nat) (cur : List Nat), j ≤ ls.length ∧ i = .int .i64 j ∧ c = .int .u64 z ∧ At .u32 wr g t L cur R ∧ ShuR B32 P ls cur j z ∧ cur.length = out.length ∧ cur.drop j = out.drop j ∧ w.grownBy wr (some g)) (fun _ i _ => ls.length - (RowKit.intOf i).toNat)
  case atStart => exact ⟨0, 0, out, Nat.zero_le _, rfl, rfl, hA, shuR_start hx hP0, rfl, rfl, grown_refl _ _⟩
  case round =>
    obtain ⟨j, z, cur, hj, rfl, rfl, hAt, hR, hlen, hdr, hG⟩ := hrel
    have hz : z < P := hR.2.1
    have HL := Lib.hid hlen; clear hlen
    have HD := Lib.hid hdr; clear hdr
    by_cases hlt : j < ls.length
    · have hlo : j < out.length := by omega
      have hfz := hAt.frozen (o + j)
      obtain ⟨u, hu⟩ : ∃ u, wr.cell? ⟨g, o + j, none⟩ = some u := ⟨_, hAt.cell ho j (by rw [HL.out]; omega)⟩
      obtain ⟨gb, ob, rfl, hcb⟩ := hr.kept hG (hoff (List.ne_nil_of_length_pos (by omega))) j hlt
      obtain ⟨x, hxe, hxk⟩ := lim32 ha j hlt
      rw [hxe] at hcb
      have HS := Lib.hid (shuR_step (B := 4294967296) hR ha hlt (by rw [HL.out]; omega) (x * P + z) (by rw [hxe]))
      obtain ⟨hor, hb1, hb2, hpw⟩ := or_shift HP.out hz hxk hk
      clear hxe
      go_wp2
      clear hor hpw
      go_roundw
      case rel => exact ⟨j + 1, _, _, hlt, by go_num, vint (by simp), hAt.set_ ho j (by rw [HL.out]; omega) _ _ (by simp), HS.out, by rw [List.length_set, HL.out], by
          have h := congrArg (List.drop 1) HD.out
          rw [List.drop_drop, List.drop_drop] at h
          rw [drop_set_succ]
          exact h, grown_set hG _⟩
      case measure => simp [RowKit.intOf]; omega
    · obtain rfl : j = ls.length := by omega
      have hz2 : (z : Int) % 4294967296 = (z : Int) := by omega
      by_cases hlo : ls.length < out.length
      · have hfz := hAt.frozen (o + ls.length)
        obtain ⟨u, hu⟩ : ∃ u, wr.cell? ⟨g, o + ls.length, none⟩ = some u := ⟨_, hAt.cell ho ls.length (by rw [HL.out]; omega)⟩
        go_wp2
        go_end0
        exact ⟨rfl, ⟨cur, z, hR, HL.out, HD.out, by rw [putTop, if_pos hlo]; exact hAt.set ho _ _ (by rw [HL.out]; omega)⟩, grown_set hG _⟩
      · go_wp2
        go_end0
        exact ⟨rfl, ⟨cur, z, hR, HL.out, HD.out, by rw [putTop, if_neg hlo]; exact hAt⟩, hG⟩

set_option maxRecDepth 100000 in
set_option maxHeartbeats 1000000 in
theorem shiftDown_any (g o cap k : Nat) (t : TypeId) (L R : List Value) (xs : List Nat) (w : World) (hA : At .u32 w g t L xs R) (ho : L.length = o) (hx : Lim B32 xs) (hxn : xs.length ≤ 100000) (hk : k < 32) :
    Calls Tryz.prog 264 #[.slice (some ⟨g, o, none⟩) xs.length cap, .int .i64 k] w fun e w' => e = .returned (.tuple #[]) ∧ (∃ cur v, At .u32 w' g t L cur R ∧ ShdR B32 (2 ^ k) xs cur 0 v) ∧ w.grownBy w' (some g) := by
  obtain ⟨P, hP⟩ : ∃ P, 2 ^ k = P := ⟨_, rfl⟩
  have hP0 : 0 < P := by rw [← hP]; exact Nat.pow_pos (by omega)
  have hPd : 4294967296 = P * 2 ^ (32 - k) := by rw [← hP, ← Nat.pow_add, show k + (32 - k) = 32 by omega]
  have hpw : (2 : Int) ^ k = (P : Int) := by rw [← hP, Int.natCast_pow]; rfl
  rw [hP]
  clear hP
  have HP := Lib.hid hPd; clear hPd
  go_enter Tryz.func264, Tryz.ntmps264
  go_wp2
  go_loopw [4, 5] (fun c i wr => ∃ (j z : Nat) (cur : List Nat), j ≤ xs.length ∧ i = .int .i64 ((j : Int) - 1) ∧ c = .int .u64 z ∧ z < 18446744073709551616 ∧ At .u32 wr g t L cur R ∧ ShdR B32 P xs cur j (z % 4294967296) ∧ w.grownBy wr (some g)) (fun _ i _ => (RowKit.intOf i + 1).toNat)
  case atStart => exact ⟨xs.length, 0, xs, Nat.le_refl _, rfl, rfl, by omega, hA, shdR_start hx, grown_refl _ _⟩
  case round =>
    obtain ⟨j, z, cur, hj, rfl, rfl, hz, hAt, hR, hG⟩ := hrel
    rcases j with _ | j
    · clear hz
      go_wp2
      go_end0
      exact ⟨rfl, ⟨cur, _, hAt, hR⟩, hG⟩
    · have hlt : j < xs.length := hj
      have hcl := hAt.cell ho j (by rw [hR.1.len]; exact hlt)
      have hfz := hAt.frozen (o + j)
      rw [down_get hR.1] at hcl
      obtain ⟨x, hxe, hxk⟩ := lim32 hx j hlt
      rw [hxe] at hcl
      obtain ⟨zl, hzl⟩ : ∃ zl, z % 4294967296 = zl := ⟨_, rfl⟩
      have hzl2 : zl < 4294967296 := by omega
      rw [hzl] at hR
      have HS := Lib.hid (shdR_step (B := 4294967296) hP0 HP.out hR hx _ rfl)
      rw [hxe] at HS
      have hor : bits .or .u64 (IntKind.u64.wrap ((z : Int) * 4294967296)) (x : Int) = (zl : Int) * 4294967296 + (x : Int) := by
        rw [IntKind.wrap_u64, show ((z : Int) * 4294967296) % 18446744073709551616 = (zl : Int) * 4294967296 by omega]
        exact or_add hzl2 hxk
      clear hxe hz hzl
      rw [show ((j + 1 : Nat) : Int) - 1 = (j : Int) by omega]
      go_wp2
      clear hor hpw
      go_roundw
      case rel => exact ⟨j, zl * 4294967296 + x, _, by omega, rfl, vint (by simp), by omega, hAt.set_ ho j (by rw [hR.1.len]; exact hlt) _ ((zl * 4294967296 + x) / P % 4294967296) (by simp), by rw [show (zl * 4294967296 + x) % 4294967296 = x by omega]; exact HS.out, grown_set hG _⟩
      case measure => simp [RowKit.intOf]
end Go.Proofs.YtddfigbpckhfbaaGreatDoor

namespace Go.Proofs.YtddfigbpckhfbaaGreatDoor
open Go.RowKit Go.Lib

/-- A quiet call behind draws: its own draws are added. -/
theorem quiet_more {P : Program} {f : FuncId} {args : Array Value} {w : World} {a n : Nat} {v : Value} (h : Calls P f args (w.drewN (a + n)) fun e w' => e = .returned v ∧ w' = w.drewN (a + n)) :
    Calls P f args (w.drewN (a + n)) fun e w' => e = .returned v ∧ ∃ m, w' = w.drewN (a + m) := h.mono fun _ _ hh => ⟨hh.1, n, hh.2⟩

def cmpZ (a b : Nat) : Int := if a < b then -1 else if b < a then 1 else 0
theorem cmpZ_lt {a b : Nat} (h : a < b) : cmpZ a b = -1 := by rw [cmpZ, if_pos h]
theorem cmpZ_gt {a b : Nat} (h : b < a) : cmpZ a b = 1 := by rw [cmpZ, if_neg (by omega), if_pos h]
theorem cmpZ_eq {a b : Nat} (h : a = b) : cmpZ a b = 0 := by rw [cmpZ, if_neg (by omega), if_neg (by omega)]

theorem isNaN_u32 (x : Nat) (w : World) : Calls Tryz.prog 266 #[.int .u32 x] w fun e w' => e = .returned (.bool false) ∧ w' = w := by
  have h : ((x : Int) != (x : Int)) = false := by simp
  go_enter Tryz.func266, Tryz.ntmps266
  go_wp2
  go_ret
  exact ⟨rfl, rfl⟩
theorem isNaN_int (x : Int) (w : World) : Calls Tryz.prog 265 #[.int .i64 x] w fun e w' => e = .returned (.bool false) ∧ w' = w := by
  have h : (x != x) = false := by simp
  go_enter Tryz.func265, Tryz.ntmps265
  go_wp2
  go_ret
  exact ⟨rfl, rfl⟩
set_option maxHeartbeats 1000000 in
theorem compare_u32 (x y : Nat) (w : World) : Calls Tryz.prog 242 #[.int .u32 x, .int .u32 y] w fun e w' => e = .returned (.int .i64 (cmpZ x y)) ∧ w' = w := by
  rcases Nat.lt_trichotomy x y with h | h | h
  · rw [cmpZ_lt h]
    go_enter Tryz.func242, Tryz.ntmps242
    go_wp2_with (go_at_call 266; refine (isNaN_u32 _ _).mono ?_; rintro e w' ⟨rfl, rfl⟩)
    go_ret
    exact ⟨rfl, rfl⟩
  · rw [cmpZ_eq h]
    subst h
    go_enter Tryz.func242, Tryz.ntmps242
    go_wp2_with (go_at_call 266; refine (isNaN_u32 _ _).mono ?_; rintro e w' ⟨rfl, rfl⟩)
    go_ret
    exact ⟨rfl, rfl⟩
  · rw [cmpZ_gt h]
    have h2 : ¬ x < y := by omega
    go_enter Tryz.func242, Tryz.ntmps242
    go_wp2_with (go_at_call 266; refine (isNaN_u32 _ _).mono ?_; rintro e w' ⟨rfl, rfl⟩)
    go_ret
    exact ⟨rfl, rfl⟩
set_option maxHeartbeats 1000000 in
theorem compare_int (x y : Nat) (w : World) : Calls Tryz.prog 241 #[.int .i64 x, .int .i64 y] w fun e w' => e = .returned (.int .i64 (cmpZ x y)) ∧ w' = w := by
  rcases Nat.lt_trichotomy x y with h | h | h
  · rw [cmpZ_lt h]
    go_enter Tryz.func241, Tryz.ntmps241
    go_wp2_with (go_at_call 265; refine (isNaN_int _ _).mono ?_; rintro e w' ⟨rfl, rfl⟩)
    go_ret
    exact ⟨rfl, rfl⟩
  · rw [cmpZ_eq h]
    subst h
    go_enter Tryz.func241, Tryz.ntmps241
    go_wp2_with (go_at_call 265; refine (isNaN_int _ _).mono ?_; rintro e w' ⟨rfl, rfl⟩)
    go_ret
    exact ⟨rfl, rfl⟩
  · rw [cmpZ_gt h]
    have h2 : ¬ x < y := by omega
    go_enter Tryz.func241, Tryz.ntmps241
    go_wp2_with (go_at_call 265; refine (isNaN_int _ _).mono ?_; rintro e w' ⟨rfl, rfl⟩)
    go_ret
    exact ⟨rfl, rfl⟩
end Go.Proofs.YtddfigbpckhfbaaGreatDoor

namespace Go.Proofs.YtddfigbpckhfbaaGreatDoor
open Go.RowKit Go.Lib

set_option maxRecDepth 100000 in
set_option maxHeartbeats 1000000 in
theorem cmp_any (A A' : Option Addr) (ca cb : Nat) (xs ys : List Nat) (w : World) (hx : Norm B32 xs) (hy : Norm B32 ys) (hxn : xs.length ≤ 100000) (_hyn : ys.length ≤ 100000) (hra : Rd .u32 w A xs) (hrb : Rd .u32 w A' ys) :
    Calls Tryz.prog 206 #[.slice A xs.length ca, .slice A' ys.length cb] w fun e w' => e = .returned (.int .i64 (cmpZ (vl B32 xs) (vl B32 ys))) ∧ ∃ n, w' = w.drewN n := by
  by_cases hne : xs.length = ys.length
  · have hnb : ((xs.length : Int) != (ys.length : Int)) = false := by simp [hne]
    have HN := Lib.hid hne; clear hne
    go_enter Tryz.func206, Tryz.ntmps206
    go_wp2
    go_loopw [5] (fun i wr => ∃ k n : Nat, k ≤ xs.length ∧ i = .int .i64 ((k : Int) - 1) ∧ xs.drop k = ys.drop k ∧ wr = w.drewN n) (fun i _ => (RowKit.intOf i + 1).toNat)
    case atStart => exact ⟨xs.length, 0, Nat.le_refl _, rfl, by rw [List.drop_length, HN.out, List.drop_length], rfl⟩
    case round =>
      obtain ⟨k, n, hk, rfl, hd, rfl⟩ := hrel
      have HD := Lib.hid hd; clear hd
      rcases k with _ | k
      · have he : cmpZ (vl B32 xs) (vl B32 ys) = 0 := by
          have := HD.out
          simp at this
          rw [this]; exact cmpZ_eq rfl
        have HE := Lib.hid he; clear he
        go_wp2
        go_ret
        exact ⟨by rw [HE.out]; rfl, n, rfl⟩
      · have hlx : k < xs.length := hk
        have hly : k < ys.length := by have := HN.out; omega
        obtain ⟨g, o, rfl, hc⟩ := hra k hlx
        obtain ⟨g', o', rfl, hc'⟩ := hrb k hly
        obtain ⟨x, hxe, hxk⟩ := lim32 hx.1 k hlx
        obtain ⟨y, hye, hyk⟩ := lim32 hy.1 k hly
        rw [hxe] at hc
        rw [hye] at hc'
        by_cases hxy : x = y
        · have hd2 : xs.drop k = ys.drop k := by rw [drop_get xs k hlx, drop_get ys k hly, HD.out, hxe, hye, hxy]
          have HD2 := Lib.hid hd2
          subst hxy
          have hq : ((x : Int) != (x : Int)) = false := by simp
          clear hd2 hxe hye
          rw [show ((k + 1 : Nat) : Int) - 1 = (k : Int) by omega]
          go_wp2
          go_quiet (fail)
          go_wp2
          go_roundw
          case rel => exact ⟨k, _, by omega, rfl, HD2.out, rfl⟩
          case measure => simp [RowKit.intOf]
        · have hq : ((x : Int) != (y : Int)) = true := by simp; omega
          have he : cmpZ (vl B32 xs) (vl B32 ys) = cmpZ x y := by
            rcases Nat.lt_or_gt_of_ne hxy with h | h
            · rw [cmpZ_lt h, cmpZ_lt (vl_cmp_at hx.1 HN.out hlx HD.out (by rw [hxe, hye]; exact h))]
            · rw [cmpZ_gt h, cmpZ_gt (vl_cmp_at hy.1 HN.out.symm hly HD.out.symm (by rw [hxe, hye]; exact h))]
          have HE := Lib.hid he
          clear hxe hye he
          rw [show ((k + 1 : Nat) : Int) - 1 = (k : Int) by omega]
          go_wp2
          go_quiet (fail)
          go_wp2
          go_quiet ((go_at_call 242; exact quiet_more (compare_u32 _ _ _)))
          go_wp2
          go_ret
          exact ⟨by rw [HE.out]; rfl, _, by rw [World.drewN_drewN, World.drewN_drewN]⟩
  · have he : cmpZ (vl B32 xs) (vl B32 ys) = cmpZ xs.length ys.length := by
      rcases Nat.lt_or_gt_of_ne hne with h | h
      · rw [cmpZ_lt h, cmpZ_lt (norm_len_lt (by decide) hx.1 hy.2 h)]
      · rw [cmpZ_gt h, cmpZ_gt (norm_len_lt (by decide) hy.1 hx.2 h)]
    rw [he]
    have hnb : ((xs.length : Int) != (ys.length : Int)) = true := by simp; omega
    clear he hne
    go_enter Tryz.func206, Tryz.ntmps206
    go_wp2_with (go_at_call 241; refine (compare_int _ _ _).mono ?_; rintro e w' ⟨rfl, rfl⟩)
    go_ret
    exact ⟨rfl, 0, rfl⟩

/-- Which lists are naturals. -/
noncomputable def vld (xs : List Nat) : Bool := @decide (xs.length ≤ 256 ∧ Top xs) (Classical.propDecidable _)
theorem vld_iff {xs : List Nat} : vld xs = true ↔ xs.length ≤ 256 ∧ Top xs := by
  unfold vld
  exact @decide_eq_true_iff _ (Classical.propDecidable _)
theorem vld_no {xs : List Nat} : vld xs = false ↔ ¬ (xs.length ≤ 256 ∧ Top xs) := by
  unfold vld
  exact @decide_eq_false_iff_not _ (Classical.propDecidable _)
theorem top_get {xs : List Nat} (h : 0 < xs.length) : Top xs ↔ xs[xs.length - 1] ≠ 0 := by
  unfold Top
  rw [List.getLast?_eq_getElem?, List.getElem?_eq_getElem (by omega)]
  simp
set_option maxRecDepth 100000 in
set_option maxHeartbeats 1000000 in
theorem valid_any (A : Option Addr) (ca : Nat) (xs : List Nat) (w : World) (hxn : xs.length ≤ 100000) (hx : Lim B32 xs) (hr : Rd .u32 w A xs) :
    Calls Tryz.prog 234 #[.slice A xs.length ca] w fun e w' => e = .returned (.bool (vld xs)) ∧ w = w' := by
  by_cases h0 : xs.length = 0
  · have hv : vld xs = true := by
      have : xs = [] := List.eq_nil_of_length_eq_zero h0
      subst this
      exact vld_iff.2 ⟨Nat.zero_le _, top_nil⟩
    rw [hv]
    have hb : ((xs.length : Int) == 0) = true := by simp [h0]
    have H0 := Lib.hid h0; clear h0
    go_enter Tryz.func234, Tryz.ntmps234
    go_wp2
    go_ret
    exact ⟨rfl, rfl⟩
  · have hb : ((xs.length : Int) == 0) = false := by simp; intro e; subst e; exact h0 rfl
    by_cases h1 : xs.length ≤ 256
    · obtain ⟨g, o, rfl, hc⟩ := hr (xs.length - 1) (by omega)
      obtain ⟨x, hxe, hxk⟩ := lim32 hx (xs.length - 1) (by omega)
      rw [hxe] at hc
      have hv : vld xs = (x != 0) := by
        have ht := top_get (xs := xs) (by omega)
        rw [hxe] at ht
        by_cases hx0 : x = 0
        · rw [vld_no.2 (fun h => absurd hx0 (ht.1 h.2))]; simp [hx0]
        · rw [vld_iff.2 ⟨h1, ht.2 hx0⟩]; simp [hx0]
      rw [hv]
      clear hxe hv
      by_cases hx0 : x = 0
      · subst hx0
        go_enter Tryz.func234, Tryz.ntmps234
        go_wp2
        go_ret
        exact ⟨rfl, rfl⟩
      · have e1 : (x != 0) = true := by simp [hx0]
        have e2 : ((x : Int) != 0) = true := by simp; omega
        rw [e1]
        go_enter Tryz.func234, Tryz.ntmps234
        go_wp2
        go_ret
        exact ⟨rfl, rfl⟩
    · rw [vld_no.2 (fun h => h1 h.1)]
      go_enter Tryz.func234, Tryz.ntmps234
      go_wp2
      go_ret
      exact ⟨rfl, rfl⟩

set_option maxRecDepth 100000 in
set_option maxHeartbeats 1000000 in
/-- trim, of a row of the call's own. -/
theorem trim_own (v : Value) (B : Nat) (xs : List Nat) (w : World) (hx : Lim B32 xs) (hxn : xs.length ≤ 100000) (hO : Own .u32 w B 206 v xs) :
    Calls Tryz.prog 200 #[v] w fun e w' => (∃ v', e = .returned v' ∧ Own .u32 w B 206 v' (dig B32 (vl B32 xs)) ∧ v'.ownBlock = v.ownBlock) ∧ w = w' := by
  obtain ⟨A, cap, rfl, h1, h2⟩ := hO.slice
  refine (trim_any A cap xs w hx hxn h1 h2 hO.rd).mono ?_
  rintro e w' ⟨⟨m, hm, hd, rfl⟩, rfl⟩
  exact ⟨⟨_, rfl, by rw [hd]; exact hO.take m hm, by cases A <;> rfl⟩, rfl⟩

/-- A natural that is answered, or the error. -/
def natRes (n : Nat) : List Nat × Int := if (dig B32 n).length ≤ 256 then (dig B32 n, 0) else ([], 3)
/-- A row of the call's own and an error's number. -/
def RowErr (B : Nat) (w : World) (x : List Nat × Int) (e : Ending) (w' : World) : Prop := ∃ v, e = .returned (.tuple #[v, .int .i64 x.2]) ∧ Own .u32 w' B 206 v x.1 ∧ Below B w w'
set_option maxRecDepth 100000 in
set_option maxHeartbeats 1000000 in
theorem fit_own (v : Value) (B : Nat) (xs : List Nat) (w : World) (hx : Lim B32 xs) (hxn : xs.length ≤ 100000) (hO : Own .u32 w B 206 v xs) :
    Calls Tryz.prog 235 #[v] w (RowErr B w (natRes (vl B32 xs))) := by
  have CT := Lib.hid (trim_own v B xs w hx hxn hO)
  by_cases h : (dig B32 (vl B32 xs)).length ≤ 256
  · have HR := Lib.hid (show natRes (vl B32 xs) = (dig B32 (vl B32 xs), 0) by rw [natRes, if_pos h])
    go_enter Tryz.func235, Tryz.ntmps235
    go_wp2_with fail
    refine CT.out.mono ?_
    rintro e w' ⟨⟨v', rfl, hO', _⟩, rfl⟩
    obtain ⟨A, cap, rfl, _⟩ := hO'.slice
    have HO := Lib.hid hO'; clear hO'
    go_wp2
    go_ret2
    exact ⟨_, by rw [HR.out]; rfl, by rw [HR.out]; exact HO.out, Below.refl _ _⟩
  · have HR := Lib.hid (show natRes (vl B32 xs) = ([], 3) by rw [natRes, if_neg h])
    go_enter Tryz.func235, Tryz.ntmps235
    go_wp2_with fail
    refine CT.out.mono ?_
    rintro e w' ⟨⟨v', rfl, hO', _⟩, rfl⟩
    obtain ⟨A, cap, rfl, _⟩ := hO'.slice
    clear hO'
    go_wp2
    go_ret2
    exact ⟨_, by rw [HR.out]; rfl, by rw [HR.out]; exact Own.nil _ _ _, Below.refl _ _⟩

theorem own_pair (w : World) (a b : Nat) (t : TypeId) : Own .u32 (w.alloc (.cells #[.int .u32 (a : Nat), .int .u32 (b : Nat)] t)) w.heap.size t (.slice (some ⟨w.heap.size, 0, none⟩) 2 2) [a, b] :=
  World.ownsRow_lit (e := t) (size := 1) w #[.int .u32 (a : Nat), .int .u32 (b : Nat)] 2 (Nat.le_refl _) (by decide) rfl
set_option maxRecDepth 100000 in
set_option maxHeartbeats 1000000 in
theorem from_any (lo hi : Nat) (w : World) (hlo : lo < 4294967296) (hhi : hi < 4294967296) :
    Calls Tryz.prog 156 #[.int .u64 ((lo : Int) + 4294967296 * (hi : Int))] w (Makes .u32 206 w (dig B32 (lo + 4294967296 * hi))) := by
  have e1 : ((lo : Int) + 4294967296 * (hi : Int)) % 4294967296 = (lo : Int) := by omega
  have e2 : ((lo : Int) + 4294967296 * (hi : Int)) / 4294967296 = (hi : Int) := by omega
  have e3 : (hi : Int) % 4294967296 = (hi : Int) := by omega
  have hl : Lim B32 [lo, hi] := lim_cons.2 ⟨hlo, lim_one.2 hhi⟩
  have CT := Lib.hid (trim_own _ _ [lo, hi] _ hl (by simp) (own_pair w lo hi 206))
  clear hl
  go_enter Tryz.func156, Tryz.ntmps156
  go_wp2_with fail
  refine CT.out.mono ?_
  rintro e w' ⟨⟨v', rfl, hO', _⟩, rfl⟩
  have HO := Lib.hid hO'; clear hO' e1 e2 e3
  go_wp2
  go_ret
  exact ⟨_, rfl, HO.out, (Below.refl _ _).alloc (Nat.le_refl _) _⟩
end Go.Proofs.YtddfigbpckhfbaaGreatDoor
