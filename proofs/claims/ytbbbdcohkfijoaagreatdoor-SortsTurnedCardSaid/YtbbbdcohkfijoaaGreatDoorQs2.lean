/- Several texts in one (Plain: the guess of a limb of the quotient, and a round of the long division; Words for memory: a row of numbers within a block that may be written; a slice that is read; Words for memory: a row of the call's own, of numbers; Contracts of layer 7: Order, whatever the order is; Contracts of layer 7: how items are made ready, and how they are compared; Contracts of layer 2: trim, fresh, mulAdd; Contracts of layer 2: mulAdd's loop, takeFrom, divLimb; Contracts of layer 2: fresh, mulAdd; Contracts of layer 2: divLimb, shiftUp, shiftDown; Contracts of layer 2: comparison). -/
import Derived.WalkSmall
import Derived.WalkKit
import Derived.ProofKit
import Derived.Below
import Derived.Lib.Hide
import Derived.Laws.OwnMore
import Derived.Lib.SmallJoins
import Derived.Test.YtbbbdcohkfijoaaGreatDoorProg
import Derived.Laws.MakeOwn
import Derived.Maps.AppendAt
import Derived.Laws.AppendOwnNone
import Derived.RangeFuncBox
import Derived.IntWalk
import Derived.Laws.BitsAllLaws
import Derived.Deep.QuietTactic
import Derived.BigQuiet
import Derived.Test.YtbbbdcohkfijoaaGreatDoorQs1
namespace Go.Proofs.YtbbbdcohkfijoaaGreatDoor

theorem le_div' {D q N : Nat} (h : q * D ≤ N) (hD : 0 < D) : q ≤ N / D := (Nat.le_div_iff_mul_le hD).2 h
theorem div_lt' {D q N : Nat} (h : N < q * D) (hD : 0 < D) : N / D < q := (Nat.div_lt_iff_lt_mul hD).2 h
theorem div_mul_le' (N D : Nat) : N / D * D ≤ N := Nat.div_mul_le_self N D
theorem lt_div_succ (N D : Nat) (hD : 0 < D) : N < (N / D + 1) * D := by
  have := Nat.div_add_mod N D
  have h2 := Nat.mod_lt N hD
  rw [Nat.add_mul, Nat.one_mul, Nat.mul_comm]
  omega

/-- All that is known of the numbers that are guessed by: the divisor's two top limbs, the dividend's three. -/
structure GuessOk (B P Dl v1 v0 Nl u2 u1 u0 : Nat) : Prop where
  hP : 0 < P
  hDl : Dl < P
  hNl : Nl < P
  hv0 : v0 < B
  hv1 : v1 < B
  hu0 : u0 < B
  htop : B ≤ 2 * v1
  hB2 : 2 ≤ B
  hless : Nl + P * (u0 + B * (u1 + B * u2)) < B * (Dl + P * (v0 + B * v1))
section
variable {B P Dl v1 v0 Nl u2 u1 u0 : Nat} (h : GuessOk B P Dl v1 v0 Nl u2 u1 u0)
include h
theorem guess_W : u1 + B * u2 < B * v1 + B := by
  have h1 : P * (B * (u1 + B * u2)) < P * (B * (v0 + B * v1 + 1)) := by
    have a := h.hless
    have b : B * Dl + B ≤ B * P := by rw [← Nat.mul_succ]; exact Nat.mul_le_mul_left _ h.hDl
    have c : P * (B * (v0 + B * v1 + 1)) = B * (P * (v0 + B * v1)) + B * P := by
      rw [Nat.mul_left_comm, Nat.mul_add, Nat.mul_one, Nat.mul_add]
    rw [Nat.mul_add P u0, Nat.mul_add B Dl] at a
    rw [c]
    omega
  have h2 := Nat.lt_of_mul_lt_mul_left (Nat.lt_of_mul_lt_mul_left h1)
  have := h.hv0
  omega
theorem guess_q : (Nl + P * (u0 + B * (u1 + B * u2))) / (Dl + P * (v0 + B * v1)) < B := by
  apply div_lt' h.hless
  have h1 := h.hP
  have h2 := h.htop
  have h3 := h.hB2
  have : 0 < P * (v0 + B * v1) := Nat.mul_pos h1 (by have : 0 < B * v1 := Nat.mul_pos (by omega) (by omega); omega)
  omega
theorem guess_D : B * P ≤ Dl + P * (v0 + B * v1) := by
  have h2 := h.htop
  have h3 := h.hB2
  have : B * 1 ≤ B * v1 := Nat.mul_le_mul_left _ (by omega)
  have : P * B ≤ P * (v0 + B * v1) := Nat.mul_le_mul_left _ (by omega)
  rw [Nat.mul_comm B P]
  omega
theorem guess_Dpos : 0 < Dl + P * (v0 + B * v1) := by
  have := guess_D h
  have : 0 < B * P := Nat.mul_pos (by have := h.hB2; omega) h.hP
  omega
theorem guess_start : (Nl + P * (u0 + B * (u1 + B * u2))) / (Dl + P * (v0 + B * v1)) ≤ (u1 + B * u2) / v1 := by
  have hv : 0 < v1 := by have := h.htop; have := h.hB2; omega
  have hq := div_mul_le' (Nl + P * (u0 + B * (u1 + B * u2))) (Dl + P * (v0 + B * v1))
  generalize (Nl + P * (u0 + B * (u1 + B * u2))) / (Dl + P * (v0 + B * v1)) = q at *
  apply le_div' _ hv
  have h1 : P * (B * (q * v1)) < P * (B * (u1 + B * u2 + 1)) := by
    have e1 : P * (B * (q * v1)) ≤ q * (Dl + P * (v0 + B * v1)) := by
      have : P * (B * (q * v1)) = q * (P * (B * v1)) := by simp only [Nat.mul_left_comm, Nat.mul_comm]
      rw [this]
      exact Nat.mul_le_mul_left _ (by rw [Nat.mul_add]; omega)
    have e2 : Nl + P * (u0 + B * (u1 + B * u2)) < P * (B * (u1 + B * u2 + 1)) := by
      have a := h.hNl
      have : P * (u0 + B * (u1 + B * u2) + 1) ≤ P * (B * (u1 + B * u2 + 1)) := Nat.mul_le_mul_left _ (by rw [Nat.mul_add B _ 1]; have := h.hu0; omega)
      rw [Nat.mul_add P _ 1] at this
      omega
    omega
  have := Nat.lt_of_mul_lt_mul_left (Nat.lt_of_mul_lt_mul_left h1)
  omega
omit h in
theorem guess_prod {t left : Nat} (hW : t * v1 + left = u1 + B * u2) : t * (v0 + B * v1) + (u0 + left * B) = u0 + B * (u1 + B * u2) + t * v0 := by
  rw [← hW]
  simp only [Nat.mul_add, Nat.mul_comm, Nat.mul_left_comm]
  omega
theorem guess_down {t left : Nat} (hW : t * v1 + left = u1 + B * u2) (hc : B ≤ t ∨ left * B + u0 < t * v0) : (Nl + P * (u0 + B * (u1 + B * u2))) / (Dl + P * (v0 + B * v1)) < t := by
  rcases hc with hc | hc
  · have := guess_q h; omega
  · have hp := guess_prod (v0 := v0) (u0 := u0) hW
    apply div_lt' _ (guess_Dpos h)
    have e1 : P * (u0 + B * (u1 + B * u2) + 1) ≤ P * (t * (v0 + B * v1)) := Nat.mul_le_mul_left _ (by omega)
    have e2 : t * (Dl + P * (v0 + B * v1)) = t * Dl + P * (t * (v0 + B * v1)) := by rw [Nat.mul_add, Nat.mul_left_comm]
    rw [e2]
    rw [Nat.mul_add P _ 1] at e1
    have := h.hNl
    omega
theorem guess_end {t left : Nat} (hW : t * v1 + left = u1 + B * u2) (ht : t < B) (hc : t * v0 ≤ left * B + u0) : t ≤ (Nl + P * (u0 + B * (u1 + B * u2))) / (Dl + P * (v0 + B * v1)) + 1 := by
  have hp := guess_prod (v0 := v0) (u0 := u0) hW
  have hD := guess_D h
  have hlt := lt_div_succ (Nl + P * (u0 + B * (u1 + B * u2))) (Dl + P * (v0 + B * v1)) (guess_Dpos h)
  have e2 : t * (Dl + P * (v0 + B * v1)) = t * Dl + P * (t * (v0 + B * v1)) := by rw [Nat.mul_add, Nat.mul_left_comm]
  have e3 : P * (t * (v0 + B * v1)) ≤ P * (u0 + B * (u1 + B * u2)) := Nat.mul_le_mul_left _ (by omega)
  have e4 : t * Dl ≤ B * P := Nat.mul_le_mul (by omega) (by have := h.hDl; omega)
  generalize hq : (Nl + P * (u0 + B * (u1 + B * u2))) / (Dl + P * (v0 + B * v1)) = q at *
  generalize Dl + P * (v0 + B * v1) = D at *
  have e5 : t * D ≤ Nl + P * (u0 + B * (u1 + B * u2)) + D := by omega
  rcases Nat.lt_or_ge (q + 1) t with h1 | h1
  · have h2 : (q + 2) * D ≤ t * D := Nat.mul_le_mul_right _ h1
    rw [Nat.add_mul] at h2 hlt
    omega
  · exact h1
/-- The sum of what is left has a limb more: it is the end. -/
theorem guess_break {t left : Nat} (hW : t * v1 + left = u1 + B * u2) (hl : B ≤ left) : t < B ∧ t * v0 ≤ left * B + u0 := by
  have h1 := guess_W h
  have ht : t < B := by
    have : t * v1 < B * v1 := by omega
    exact Nat.lt_of_mul_lt_mul_right this
  refine ⟨ht, ?_⟩
  have a : t * v0 ≤ B * B := Nat.mul_le_mul (by omega) (by have := h.hv0; omega)
  have b : B * B ≤ left * B := Nat.mul_le_mul_right _ hl
  omega
theorem guess_max {t left : Nat} (hW : t * v1 + left = u1 + B * u2) : t < B + 2 := by
  have h1 := guess_W h
  have h2 := h.htop
  have : t * v1 < (B + 2) * v1 := by rw [Nat.add_mul]; omega
  exact Nat.lt_of_mul_lt_mul_right this
end

/-- What is left of the dividend in cur, the quotient's limbs from i on in qs. -/
structure Long (B D A : Nat) (cur qs : List Nat) (i : Nat) : Prop where
  lim : Lim B cur
  qlim : Lim B qs
  less : vl B (cur.drop i) < D
  eq : A = vl B cur + B ^ i * (D * vl B (qs.drop i))
section
variable {B D A : Nat} {cur qs : List Nat} {i n : Nat}
theorem zeros_above (h : vl B (cur.drop i) < D) (hD : D < B ^ n) (hi : i + n ≤ cur.length) : vl B (cur.drop (i + n)) = 0 := by
  have h1 := vl_take_drop B (cur.drop i) n (by rw [List.length_drop]; omega)
  rw [List.drop_drop] at h1
  rcases Nat.eq_zero_or_pos (vl B (cur.drop (i + n))) with h0 | h0
  · exact h0
  · have : B ^ n * 1 ≤ B ^ n * vl B (cur.drop (i + n)) := Nat.mul_le_mul_left _ h0
    omega
/-- The part that a round divides. -/
theorem long_part (h : Long B D A cur qs (i + 1)) (hD : D < B ^ n) (hi : i + 1 + n ≤ cur.length) : vl B ((cur.drop i).take (n + 1)) = vl B (cur.drop i) ∧ vl B (cur.drop i) < B * D := by
  have hz := zeros_above h.less hD hi
  have h1 := vl_take_drop B (cur.drop i) (n + 1) (by rw [List.length_drop]; omega)
  rw [List.drop_drop, show i + (n + 1) = i + 1 + n by omega, hz] at h1
  refine ⟨by rw [h1]; simp, ?_⟩
  rw [drop_get cur i (by omega), vl_cons]
  have h2 := lim_get h.lim i (by omega)
  have h3 := h.less
  have : B * (vl B (cur.drop (i + 1)) + 1) ≤ B * D := Nat.mul_le_mul_left _ h3
  rw [Nat.mul_add] at this
  omega
theorem long_step (h : Long B D A cur qs (i + 1)) (hD : D < B ^ n) (hD0 : 0 < D) (hi : i + 1 + n ≤ cur.length) (hq : i < qs.length) {part : List Nat} (hp : part.length = n + 1) (hpl : Lim B part)
    (hv : vl B part = vl B (cur.drop i) % D) : Long B D A (cur.take i ++ part ++ cur.drop (i + 1 + n)) (qs.set i (vl B (cur.drop i) / D)) i ∧ vl B (cur.drop i) / D < B := by
  have hz := zeros_above h.less hD hi
  obtain ⟨_, hpB⟩ := long_part h hD hi
  have hqB : vl B (cur.drop i) / D < B := div_lt' hpB hD0
  have hlt : (cur.take i).length = i := by rw [List.length_take]; omega
  refine ⟨⟨?_, lim_set h.qlim hqB, ?_, ?_⟩, hqB⟩
  · exact lim_append.2 ⟨lim_append.2 ⟨lim_take h.lim _, hpl⟩, lim_drop h.lim _⟩
  · rw [List.append_assoc, List.drop_append_of_le_length (by omega), List.drop_of_length_le (by omega), List.nil_append, vl_append, hz, hv]
    simpa using Nat.mod_lt _ hD0
  · rw [h.eq, drop_set_same hq, vl_cons, vl_append, hz, vl_append, hlt, hv, vl_take_drop B cur i (by omega), Nat.pow_succ]
    have e := congrArg (B ^ i * ·) (Nat.mod_add_div (vl B (cur.drop i)) D)
    simp only [Nat.mul_add, ← Nat.mul_assoc, Nat.mul_zero, Nat.add_zero] at e ⊢
    rw [Nat.mul_right_comm (B ^ i) B D]
    omega
end
/-- What takeFrom, and addTo behind it, leave of the part. -/
theorem take_no {N D t x : Nat} (h : x + t * D = N) (ht : N / D ≤ t) (ht2 : t ≤ N / D + 1) (hD : 0 < D) : x = N % D ∧ t = N / D := by
  have h1 := Nat.div_add_mod N D
  have h2 := Nat.mod_lt N hD
  rcases Nat.lt_or_ge (N / D) t with h3 | h3
  · have : t = N / D + 1 := by omega
    subst this
    rw [Nat.add_mul, Nat.one_mul, Nat.mul_comm] at h
    omega
  · have : t = N / D := by omega
    subst this
    rw [Nat.mul_comm] at h
    exact ⟨by omega, rfl⟩
theorem take_yes {M N D t x y c : Nat} (h : x + t * D = N + M) (h2 : y + M * c = x + D) (hx : x < M) (hy : y < M) (hc : c ≤ 1) (ht : N / D ≤ t) (ht2 : t ≤ N / D + 1) (hD : 0 < D) : y = N % D ∧ t - 1 = N / D ∧ 0 < t := by
  have h1 := Nat.div_add_mod N D
  have h3 := Nat.mod_lt N hD
  generalize N / D = q at *
  generalize N % D = r at *
  have ht3 : t = q + 1 := by
    rcases Nat.lt_or_ge q t with h4 | h4
    · omega
    · have : t = q := by omega
      subst this
      rw [Nat.mul_comm] at h
      omega
  subst ht3
  rw [Nat.add_mul, Nat.one_mul, Nat.mul_comm] at h
  have hc1 : c = 1 := by
    rcases Nat.eq_zero_or_pos c with h4 | h4
    · subst h4; rw [Nat.mul_zero] at h2; omega
    · omega
  subst hc1
  rw [Nat.mul_one] at h2
  exact ⟨by omega, by omega, by omega⟩
/-- The rest of the scaled division is the scaled rest. -/
theorem unscale {a b S r q : Nat} (hS : 0 < S) (h : a * S = r + b * S * q) (hr : r < b * S) : r / S = a % b ∧ q = a / b := by
  have hb : 0 < b := by
    rcases Nat.eq_zero_or_pos b with h0 | h0
    · subst h0; simp at hr
    · exact h0
  have e : r = S * (a - b * q) := by
    rw [Nat.mul_sub, Nat.mul_comm S a, h, ← Nat.mul_assoc, Nat.mul_comm S b]; omega
  have e2 : r / S = a - b * q := by rw [e, Nat.mul_div_cancel_left _ hS]
  have hlt : a - b * q < b := by
    rw [e, Nat.mul_comm b S] at hr
    exact Nat.lt_of_mul_lt_mul_left hr
  have hle : b * q ≤ a := by
    have : S * (b * q) ≤ S * a := by
      rw [Nat.mul_comm S a, h, ← Nat.mul_assoc, Nat.mul_comm S b]; omega
    exact Nat.le_of_mul_le_mul_left this hS
  have hq : a / b = q := Nat.div_eq_of_lt_le (by rw [Nat.mul_comm]; exact hle) (by rw [Nat.add_mul, Nat.one_mul, Nat.mul_comm q]; omega)
  refine ⟨?_, hq.symm⟩
  have := Nat.div_add_mod a b
  rw [hq] at this
  omega
end Go.Proofs.YtbbbdcohkfijoaaGreatDoor

namespace Go.Proofs.YtbbbdcohkfijoaaGreatDoor
open Go.RowKit

/-- Numbers as cells. -/
def nums (κ : IntKind) (xs : List Nat) : List Value := xs.map fun x : Nat => Value.int κ (x : Int)
theorem nums_len (κ : IntKind) (xs : List Nat) : (nums κ xs).length = xs.length := List.length_map _
theorem nums_set (κ : IntKind) (xs : List Nat) (k y : Nat) : (nums κ xs).set k (.int κ (y : Nat)) = nums κ (xs.set k y) := by
  unfold nums; rw [List.map_set]
theorem nums_append (κ : IntKind) (xs ys : List Nat) : nums κ (xs ++ ys) = nums κ xs ++ nums κ ys := List.map_append
/-- Block g is L, then the numbers xs, then R, and may be written. -/
def At (κ : IntKind) (w : World) (g : Nat) (t : TypeId) (L : List Value) (xs : List Nat) (R : List Value) : Prop :=
  ∃ cs : Array Value, w.heap[g]? = some (.cells cs t (0, 0)) ∧ cs.toList = L ++ nums κ xs ++ R
section
variable {κ : IntKind} {w w' : World} {g o : Nat} {t : TypeId} {L R : List Value} {xs : List Nat}
theorem At.lt (h : At κ w g t L xs R) : g < w.heap.size := by
  obtain ⟨cs, h1, _⟩ := h
  exact (Array.getElem?_eq_some_iff.1 h1).1
theorem At.cell (h : At κ w g t L xs R) (ho : L.length = o) (k : Nat) (hk : k < xs.length) : w.cell? ⟨g, o + k, none⟩ = some (.int κ (xs[k] : Nat)) := by
  obtain ⟨cs, h1, h2⟩ := h
  rw [cell_of_row w g _ cs t (0, 0) h1, ← Array.getElem?_toList, h2, List.append_assoc, List.getElem?_append_right (by omega), ← ho, Nat.add_sub_cancel_left, List.getElem?_append_left (by rw [nums_len]; exact hk), nums, List.getElem?_map, List.getElem?_eq_getElem hk]
  rfl
theorem At.frozen (h : At κ w g t L xs R) (j : Nat) : w.frozen? ⟨g, j, none⟩ = false := by
  obtain ⟨cs, h1, _⟩ := h
  exact frozen_of_row w g j cs t h1
theorem At.set (h : At κ w g t L xs R) (ho : L.length = o) (k y : Nat) (hk : k < xs.length) : At κ (w.setCell ⟨g, o + k, none⟩ (.int κ (y : Nat))) g t L (xs.set k y) R := by
  obtain ⟨cs, h1, h2⟩ := h
  refine ⟨cs.setIfInBounds (o + k) (.int κ (y : Nat)), heap_setCell_same w g (o + k) cs t _ h1, ?_⟩
  rw [Array.toList_setIfInBounds, h2, List.append_assoc, List.set_append, if_neg (by omega), List.set_append, if_pos (by rw [nums_len]; omega), show o + k - L.length = k by omega, nums_set, List.append_assoc]
theorem At.set_ (h : At κ w g t L xs R) (ho : L.length = o) (k : Nat) (hk : k < xs.length) (z : Int) (y : Nat) (hz : z = (y : Int)) : At κ (w.setCell ⟨g, o + k, none⟩ (.int κ z)) g t L (xs.set k y) R := by
  subst hz
  exact h.set ho k y hk
theorem At.drew (h : At κ w g t L xs R) : At κ w.drew g t L xs R := h
theorem At.drewN (h : At κ w g t L xs R) (n : Nat) : At κ (w.drewN n) g t L xs R := h
theorem At.far (h : At κ w g t L xs R) {g' j : Nat} (hne : g ≠ g') (u : Value) : At κ (w.setCell ⟨g', j, none⟩ u) g t L xs R := by
  obtain ⟨cs, h1, h2⟩ := h
  exact ⟨cs, (heap_setCell_other w ⟨g', j, none⟩ g u (fun e => hne (by simpa using e))).trans h1, h2⟩
theorem At.alloc (h : At κ w g t L xs R) (o : Obj) : At κ (w.alloc o) g t L xs R := by
  obtain ⟨cs, h1, h2⟩ := h
  exact ⟨cs, (Below.heap_alloc w o g (Array.getElem?_eq_some_iff.1 h1).1).trans h1, h2⟩
theorem At.kept (h : At κ w g t L xs R) {row : Option Nat} (hg : w.grownBy w' row) (hne : some g ≠ row) : At κ w' g t L xs R := by
  obtain ⟨cs, h1, h2⟩ := h
  exact ⟨cs, (hg.block g (Array.getElem?_eq_some_iff.1 h1).1 hne).trans h1, h2⟩
theorem At.below (h : At κ w g t L xs R) {B : Nat} (hb : Below B w w') (hg : g < B) : At κ w' g t L xs R := by
  obtain ⟨cs, h1, h2⟩ := h
  exact ⟨cs, (hb.block g hg).trans h1, h2⟩
/-- Another cut of the same block. -/
theorem At.recut (h : At κ w g t L xs R) {L' R' : List Value} {ys : List Nat} (e : L ++ nums κ xs ++ R = L' ++ nums κ ys ++ R') : At κ w g t L' ys R' := by
  obtain ⟨cs, h1, h2⟩ := h
  exact ⟨cs, h1, h2.trans e⟩
end
theorem vint {κ : IntKind} {a b : Int} (h : a = b) : Value.int κ a = Value.int κ b := by rw [h]
theorem grown_refl (w : World) (row : Option Nat) : w.grownBy w row := ⟨rfl, rfl, rfl, Nat.le_refl _, fun _ _ _ => rfl⟩
theorem grown_trans {a b c : World} {row : Option Nat} (h : a.grownBy b row) (k : b.grownBy c row) : a.grownBy c row :=
  ⟨k.os.trans h.os, k.tape.trans h.tape, k.output.trans h.output, Nat.le_trans h.size k.size, fun i hi hne => (k.block i (Nat.lt_of_lt_of_le hi h.size) hne).trans (h.block i hi hne)⟩
theorem grown_set {a w : World} {g j : Nat} (h : a.grownBy w (some g)) (u : Value) : a.grownBy (w.setCell ⟨g, j, none⟩ u) (some g) :=
  grown_trans h ⟨rfl, rfl, rfl, by simp [World.setCell], fun k _ hk => heap_setCell_other w ⟨g, j, none⟩ k u (fun e => hk (by simp [e]))⟩
theorem grown_below {a b c : World} {g B : Nat} (h : Below B a b) (hg : b.grownBy c (some g)) (hB : B ≤ b.heap.size) (h2 : B ≤ g) : Below B a c :=
  h.grown hg hB (fun _ e => by cases e; exact h2)
theorem below_drewN' {B : Nat} {a w : World} (h : Below B a w) (n : Nat) : Below B a (w.drewN n) := ⟨h.os, h.tape, h.output, h.size, h.block⟩
/-- A slice that is read. -/
def Rd (κ : IntKind) (w : World) (A : Option Addr) (xs : List Nat) : Prop :=
  ∀ j (_ : j < xs.length), ∃ g o, A = some ⟨g, o, none⟩ ∧ w.cell? ⟨g, o + j, none⟩ = some (.int κ (xs[j] : Nat))
/-- It does not lie in block g. -/
def Off (A : Option Addr) (g : Nat) : Prop := ∀ a, A = some a → a.block ≠ g
section
variable {κ : IntKind} {w w' : World} {A : Option Addr} {xs : List Nat}
theorem Rd.nil : Rd κ w A [] := fun _ h => by simp at h
theorem Rd.at_ (h : Rd κ w A xs) (hx : xs ≠ []) : ∃ g o, A = some ⟨g, o, none⟩ ∧ ∀ j (_ : j < xs.length), w.cell? ⟨g, o + j, none⟩ = some (.int κ (xs[j] : Nat)) := by
  obtain ⟨g, o, rfl, _⟩ := h 0 (List.length_pos_iff.2 hx)
  refine ⟨g, o, rfl, fun j hj => ?_⟩
  obtain ⟨g', o', e, hc⟩ := h j hj
  cases e
  exact hc
theorem Rd.of {g o : Nat} (h : ∀ j (_ : j < xs.length), w.cell? ⟨g, o + j, none⟩ = some (.int κ (xs[j] : Nat))) : Rd κ w (some ⟨g, o, none⟩) xs := fun j hj => ⟨g, o, rfl, h j hj⟩
theorem Rd.kept (h : Rd κ w A xs) {g : Nat} (hg : w.grownBy w' (some g)) (hne : Off A g) : Rd κ w' A xs := fun j hj => by
  obtain ⟨g', o, e, hc⟩ := h j hj
  exact ⟨g', o, e, hg.cell hc (by intro e2; cases e2; exact hne _ e rfl)⟩
theorem Rd.below (h : Rd κ w A xs) (hb : Below w.heap.size w w') : Rd κ w' A xs := fun j hj => by
  obtain ⟨g', o, e, hc⟩ := h j hj
  exact ⟨g', o, e, (hb.cell (World.block_lt_of_cell? w _ hc)).trans hc⟩
theorem Rd.take (h : Rd κ w A xs) (n : Nat) : Rd κ w A (xs.take n) := fun j hj => by
  have hj2 : j < xs.length := by rw [List.length_take] at hj; omega
  obtain ⟨g, o, e, hc⟩ := h j hj2
  exact ⟨g, o, e, by rw [hc, List.getElem_take]⟩
theorem At.rd {g : Nat} {t : TypeId} {L R : List Value} (h : At κ w g t L xs R) : Rd κ w (some ⟨g, L.length, none⟩) xs := Rd.of fun j hj => h.cell rfl j hj
/-- What lies in old memory is not in a new block. -/
theorem Rd.off (h : Rd κ w A xs) (hx : xs ≠ []) {g : Nat} (hg : w.heap.size ≤ g) : Off A g := by
  obtain ⟨g', o, rfl, hc⟩ := h.at_ hx
  intro a e
  cases e
  have := World.block_lt_of_cell? w _ (hc 0 (List.length_pos_iff.2 hx))
  show g' ≠ g
  exact fun e => by subst e; exact absurd this (by simpa using hg)
end
/-- A row of the call's own, of numbers. -/
def Own (κ : IntKind) (w : World) (B : Nat) (t : TypeId) (v : Value) (xs : List Nat) : Prop := w.ownsRow B t 1 v xs.length (nums κ xs)
end Go.Proofs.YtbbbdcohkfijoaaGreatDoor

namespace Go.Proofs.YtbbbdcohkfijoaaGreatDoor
open Go.RowKit

/-- The unit of a limb. -/
abbrev B32 : Nat := 4294967296
theorem lim32 {l : List Nat} (h : Lim B32 l) (k : Nat) (hk : k < l.length) : ∃ x, l[k] = x ∧ x < 4294967296 := ⟨_, rfl, lim_get h k hk⟩
theorem top_of_ge {B : Nat} {l : List Nat} (hl : Lim B l) (h : l = [] ∨ B ^ (l.length - 1) ≤ vl B l) : Top l := by
  rcases h with rfl | h
  · exact top_nil
  · by_cases e : l = []
    · subst e; exact top_nil
    · obtain ⟨m, x, rfl⟩ := snoc_of_ne e
      refine top_snoc.2 fun hx => ?_
      subst hx
      rw [vl_snoc, List.length_append, List.length_singleton, Nat.add_sub_cancel, Nat.mul_zero, Nat.add_zero] at h
      have := vl_lt (lim_append.1 hl).1
      omega
theorem info_u32 : (Tryz.prog.info? 275).map (fun i => (i.zero, i.size, i.bytes)) = some (some (.int .u32 0), 1, 4) := by kernel_rfl
theorem info_i64 : (Tryz.prog.info? 3).map (fun i => (i.zero, i.size, i.bytes)) = some (some (.int .i64 0), 1, 8) := by kernel_rfl

section
variable {κ : IntKind} {w w' : World} {B g n cap : Nat} {t : TypeId} {v : Value} {A : Option Addr} {xs : List Nat}
theorem Own.nil (w : World) (B : Nat) (t : TypeId) : Own κ w B t (.slice none 0 0) [] := World.ownsRow_nil _ _ _ _
theorem Own.form (h : Own κ w B t v xs) (hx : 0 < xs.length) : ∃ g cap, v = .slice (some ⟨g, 0, none⟩) xs.length cap ∧ B ≤ g ∧ xs.length ≤ cap ∧ cap ≤ maxLen := by
  rcases h.2 with ⟨_, h0⟩ | ⟨g, cap, cur, rfl, hb, _, h1, h2, _⟩
  · omega
  · exact ⟨g, cap, rfl, hb, h1, h2⟩
theorem Own.forms (h : Own κ w B t v xs) : (v = .slice none 0 0 ∧ xs = []) ∨ ∃ g cap, v = .slice (some ⟨g, 0, none⟩) xs.length cap ∧ B ≤ g ∧ xs.length ≤ cap ∧ cap ≤ maxLen := by
  rcases h.2 with ⟨h1, h0⟩ | ⟨g, cap, cur, rfl, hb, _, h1, h2, _⟩
  · exact .inl ⟨h1, List.eq_nil_of_length_eq_zero h0⟩
  · exact .inr ⟨g, cap, rfl, hb, h1, h2⟩
/-- As a slice: the address is a variable. -/
theorem Own.slice (h : Own κ w B t v xs) : ∃ A cap, v = .slice A xs.length cap ∧ xs.length ≤ cap ∧ cap ≤ maxLen := by
  rcases h.forms with ⟨rfl, rfl⟩ | ⟨g, cap, rfl, _, h1, h2⟩
  · exact ⟨none, 0, rfl, Nat.le_refl _, Nat.zero_le _⟩
  · exact ⟨_, cap, rfl, h1, h2⟩
theorem Own.cell (h : Own κ w B t (.slice (some ⟨g, 0, none⟩) n cap) xs) (k : Nat) (hk : k < xs.length) : w.cell? ⟨g, k, none⟩ = some (.int κ (xs[k] : Nat)) := by
  have hn : n = xs.length := by
    rcases h.form (by omega) with ⟨_, _, e, _⟩
    cases e; rfl
  subst hn
  rw [World.ownsRow.cellAt h k (by omega), nums, List.getElem?_map, List.getElem?_eq_getElem hk]
  rfl
theorem Own.frozen (h : Own κ w B t (.slice (some ⟨g, 0, none⟩) xs.length cap) xs) (k : Nat) : w.frozen? ⟨g, k, none⟩ = false := World.ownsRow.frozenAt h k
theorem Own.set (h : Own κ w B t (.slice (some ⟨g, 0, none⟩) n cap) xs) (hn : n = xs.length) (k y : Nat) : Own κ (w.setCell ⟨g, k, none⟩ (.int κ (y : Nat))) B t (.slice (some ⟨g, 0, none⟩) n cap) (xs.set k y) := by
  subst hn
  have := (World.ownsRow.stored h k (.int κ (y : Nat))).1
  rw [nums_set] at this
  unfold Own
  rw [List.length_set]
  exact this
theorem Own.rd (h : Own κ w B t (.slice A n cap) xs) : Rd κ w A xs := fun j hj => by
  obtain ⟨g, c, e, _⟩ := h.form (by omega)
  cases e
  exact ⟨g, 0, rfl, by rw [Nat.zero_add]; exact h.cell j hj⟩
theorem Own.len (h : Own κ w B t (.slice A n cap) xs) : n = xs.length := by
  rcases h.forms with ⟨e, rfl⟩ | ⟨g, c, e, _⟩
  · cases e; rfl
  · cases e; rfl
theorem Own.addr (h : Own κ w B t (.slice A n cap) xs) (hx : 0 < xs.length) : ∃ g, A = some ⟨g, 0, none⟩ ∧ B ≤ g := by
  obtain ⟨g, c, e, hb, _⟩ := h.form hx
  cases e
  exact ⟨g, rfl, hb⟩
theorem Own.row (h : Own κ w B t v xs) {n : Nat} (hn : xs.length = n) : w.ownsRow B t 1 v n (nums κ xs) := by subst hn; exact h
theorem Own.kept (h : Own κ w B t v xs) {row : Option Nat} (hg : w.grownBy w' row) (hne : v.ownBlock = none ∨ v.ownBlock ≠ row) : Own κ w' B t v xs := World.ownsRow.kept h hg hne
theorem Own.drew (h : Own κ w B t v xs) : Own κ w.drew B t v xs := h
theorem Own.alloc (h : Own κ w B t v xs) (o : Obj) : Own κ (w.alloc o) B t v xs := World.ownsRow.alloc h o
theorem Own.mono (h : Own κ w B t v xs) {B' : Nat} (hb : B' ≤ B) : Own κ w B' t v xs := ⟨h.1, h.2.imp_right fun ⟨g, cap, cur, e, hB, rest⟩ => ⟨g, cap, cur, e, Nat.le_trans hb hB, rest⟩⟩
theorem Own.below (h : Own κ w B t v xs) (hb : Below w.heap.size w w') : Own κ w' B t v xs := by
  refine ⟨h.1, ?_⟩
  rcases h.2 with h0 | ⟨g, cap, cur, rfl, hB, hg, rest⟩
  · exact .inl h0
  · exact .inr ⟨g, cap, cur, rfl, hB, (hb.block g (Array.getElem?_eq_some_iff.1 hg).1).trans hg, rest⟩
theorem Own.lt (h : Own κ w B t (.slice (some ⟨g, 0, none⟩) n cap) xs) : B ≤ g ∧ g < w.heap.size := World.ownsRow.lt h g rfl
theorem Own.take (h : Own κ w B t (.slice A n cap) xs) (m : Nat) (hm : m ≤ xs.length) : Own κ w B t (.slice A m cap) (xs.take m) := by
  have hl : (xs.take m).length = m := by rw [List.length_take]; omega
  unfold Own
  rw [hl]
  rcases h.2 with ⟨e, h0⟩ | ⟨g, c, cur, e, hB, hg, h1, h2, h3, h4⟩
  · cases e
    obtain rfl : m = 0 := by omega
    exact World.ownsRow_nil _ _ _ _
  · cases e
    refine ⟨by rw [nums_len, hl]; omega, .inr ⟨g, cap, cur, rfl, hB, hg, by omega, h2, h3, ?_⟩⟩
    have := congrArg (List.take m) h4
    rw [List.take_take, Nat.mul_one, Nat.min_eq_left (by omega)] at this
    rw [Nat.mul_one, this, nums, nums, List.map_take]
theorem Own.snoc {k : Nat} {x : Nat} (h : w.ownsRow B t 1 v (k + 1) (nums κ xs ++ [.int κ (x : Nat)])) (hk : k = xs.length) : Own κ w B t v (xs ++ [x]) := by
  subst hk
  unfold Own
  rw [List.length_append, nums_append]
  exact h
theorem Own.append {k m : Nat} {ys : List Nat} (h : w.ownsRow B t 1 v (k + m) (nums κ xs ++ nums κ ys)) (hk : k = xs.length) (hm : m = ys.length) : Own κ w B t v (xs ++ ys) := by
  subst hk
  subst hm
  unfold Own
  rw [List.length_append, nums_append]
  exact h
theorem Own.off (h : Own κ w B t v xs) {r : Nat} (hv : v.ownBlock ≠ some r) (hA : v = .slice A n cap) : Off A r := by
  subst hA
  intro a e
  subst e
  exact fun e2 => hv (by simp [Value.ownBlock, e2])
/-- A row that was there, and one that was made later. -/
theorem own_apart {κ' : IntKind} {B' : Nat} {t' : TypeId} {v' : Value} {ys : List Nat} (h1 : Own κ w B t v xs) (hB : w.heap.size ≤ B') (h2 : Own κ' w' B' t' v' ys) : v.ownBlock = none ∨ v.ownBlock ≠ v'.ownBlock := by
  cases hv : v.ownBlock with
  | none => exact .inl rfl
  | some g =>
    refine .inr fun e => ?_
    have a := World.ownsRow.lt h1 g hv
    have b := World.ownsRow.lt h2 g e.symm
    omega
/-- A block whose beginning is read is a row of the call's own. -/
theorem own_of_at {R : List Value} (h : At κ w g t [] xs R) (hB : B ≤ g) (hc : cap = xs.length + R.length) (hm : cap ≤ maxLen) : Own κ w B t (.slice (some ⟨g, 0, none⟩) xs.length cap) xs := by
  obtain ⟨cs, h1, h2⟩ := h
  have hl : cs.size = cap := by rw [← Array.length_toList, h2]; simp [nums_len, hc]
  refine ⟨by rw [nums_len]; omega, .inr ⟨g, cap, cs, rfl, hB, h1, by omega, hm, by omega, ?_⟩⟩
  rw [h2, List.nil_append, Nat.mul_one, List.take_append_of_le_length (by rw [nums_len]; exact Nat.le_refl _), List.take_of_length_le (by rw [nums_len]; exact Nat.le_refl _)]
theorem at_of_own (h : Own κ w B t (.slice (some ⟨g, 0, none⟩) n cap) xs) : ∃ R, At κ w g t [] xs R ∧ cap = xs.length + R.length := by
  rcases h.2 with ⟨e, _⟩ | ⟨g', cap', cur, e, _, hg, h1, _, h3, h4⟩
  · cases e
  · cases e
    refine ⟨cur.toList.drop xs.length, ⟨cur, hg, ?_⟩, ?_⟩
    · rw [List.nil_append]
      rw [Nat.mul_one] at h4
      conv => lhs; rw [← List.take_append_drop xs.length cur.toList, h4]
    · have : cur.toList.length = cur.size := Array.length_toList
      rw [List.length_drop]; omega
/-- The cells of a slice that is read, as the law of append wants them. -/
theorem Rd.news {g o : Nat} (h : Rd κ w (some ⟨g, o, none⟩) xs) : ∀ j u, (nums κ xs)[j]? = some u → w.cell? ((⟨g, o, none⟩ : Addr).add j) = some u := by
  intro j u hu
  by_cases hj : j < xs.length
  · obtain ⟨g', o', e, hc⟩ := h j hj
    cases e
    rw [nums, List.getElem?_map, List.getElem?_eq_getElem hj] at hu
    rw [Addr.add_lit, hc]
    exact hu
  · rw [List.getElem?_eq_none (by rw [nums_len]; omega)] at hu
    cases hu
theorem nums_one (κ : IntKind) (xs : List Nat) : ∀ u ∈ nums κ xs, u.oneCell' = true := by
  intro u hu
  obtain ⟨x, _, rfl⟩ := List.mem_map.1 hu
  rfl
end
end Go.Proofs.YtbbbdcohkfijoaaGreatDoor

namespace Go.Proofs.YtbbbdcohkfijoaaGreatDoor
open Go.RowKit Go.Lib Go.Maps

/-- An entry's cells. -/
def enC (d : Dat) : List Value := [.string d.key, .int .i64 d.kind, .float .f64 d.num, .string d.str, .bool d.sub]
/-- A slice of entries that is read. -/
def RdE (W : World) (A : Option Addr) (es : List Dat) : Prop := ∀ j (_ : j < es.length), ∃ b off, A = some ⟨b, off, none⟩ ∧ ∀ i, i < 5 → W.cell? ⟨b, off + j * 5 + i, none⟩ = (enC es[j])[i]?
theorem RdE.below {W W' : World} {A : Option Addr} {es : List Dat} {B : Nat} (h : RdE W A es) (hB : W.heap.size ≤ B) (hb : Below B W W') : RdE W' A es := fun j hj => by
  obtain ⟨b, off, e, hc⟩ := h j hj
  refine ⟨b, off, e, fun i hi => ?_⟩
  have h1 := hc i hi
  have h2 : (enC es[j])[i]? = some ((enC es[j])[i]'(by simpa [enC] using hi)) := List.getElem?_eq_getElem _
  have hl := World.block_lt_of_cell? W _ (h1.trans h2)
  exact (hb.cell (p := ⟨b, off + j * 5 + i, none⟩) (by simp at hl ⊢; omega)).trans h1
/-- What making ready leaves of an item: rd of what it was. -/
def Readies (w0 : World) (B : Nat) (fr : FuncId) (conv : ByteArray) (n : Nat) (es rd : Nat → Dat) : Prop :=
  ∀ W b a, a < n → Below B w0 W → Blk W b (itC a (es a)) 136 → Calls Tryz.prog fr #[iptr b, .string conv] W fun e w' => (∃ r, e = .returned r) ∧ Blk w' b (itC a (rd a)) 136 ∧ W.grownBy w' (some b)
/-- What the order's comparison answers of two items. -/
def CmpOf (w0 : World) (B : Nat) (fc : FuncId) (n : Nat) (d : Nat → Dat) (cv : Nat → Nat → Int) : Prop :=
  ∀ W a b p q, a < n → b < n → Below B w0 W → Blk W p (itC a (d a)) 136 → Blk W q (itC b (d b)) 136 → Calls Tryz.prog fc #[iptr p, iptr q] W fun e w' => e = .returned (.int .i64 (cv a b)) ∧ Below W.heap.size W w'
theorem CmpOf.compares {w0 : World} {B : Nat} {fc : FuncId} {n N : Nat} {ib : Nat → Nat} {d : Nat → Dat} {cv : Nat → Nat → Int} (h : CmpOf w0 B fc n d cv) (hN : N ≤ n) : Compares w0 B fc N ib d cv :=
  fun W a b ha hb hB h1 h2 => h W a b _ _ (by omega) (by omega) hB h1 h2
/-- One item more, in a block of its own. -/
theorem HeapAt.more {w0 wz W : World} {B g : Nat} {fr fc : FuncId} {way : Int} {N x : Nat} {ib : Nat → Nat} {d : Nat → Dat} {lt : Nat → Nat → Bool} (h : HeapAt w0 wz B g fr fc way N N ib d lt (fun a => a < N) W) (hx : Blk W x (itC N (d N)) 136) :
    HeapAt w0 wz B g fr fc way N (N + 1) (fun a => if a = N then x else ib a) d lt (fun a => a < N) W := by
  obtain ⟨v, f, hs, hp, hh⟩ := h
  refine ⟨v, f, ⟨⟨hs.que.blk, ?_, hs.que.ne⟩, fun a ha => ?_, hs.bel, hs.lim, hs.old, hs.kept⟩, hp, hh⟩
  · rw [ptrs_congr (q := fun k => ib (f k)) (fun k hk => by
      have : f k < N := (hh.on _).2 ⟨k, hk, rfl⟩
      show (if f k = N then x else ib (f k)) = ib (f k)
      rw [if_neg (by omega)])]
    exact hs.que.row
  · by_cases e : a = N
    · subst e
      show Blk W (if a = a then x else ib a) _ _
      rw [if_pos rfl]
      exact hx
    · show Blk W (if a = N then x else ib a) _ _
      rw [if_neg e]
      exact hs.its a (by omega)
theorem HeapAt.below {w0 wz W W' : World} {B g : Nat} {fr fc : FuncId} {way : Int} {n N : Nat} {ib : Nat → Nat} {d : Nat → Dat} {lt : Nat → Nat → Bool} {S : Nat → Prop} (h : HeapAt w0 wz B g fr fc way n N ib d lt S W) (hb : Below W.heap.size W W') : HeapAt w0 wz B g fr fc way n N ib d lt S W' := by
  obtain ⟨v, f, hs, hp, hh⟩ := h
  exact ⟨v, f, hs.below hb, hp, hh⟩
/-- Only block x, and what is new, has turned, and x is none of the queue's. -/
theorem HeapAt.aside {w0 wz W W' : World} {B g x : Nat} {fr fc : FuncId} {way : Int} {n N : Nat} {ib : Nat → Nat} {d : Nat → Dat} {lt : Nat → Nat → Bool} {S : Nat → Prop} (h : HeapAt w0 wz B g fr fc way n N ib d lt S W) (hg : W.grownBy W' (some x)) (hx : B ≤ x) (hn : ∀ a, a < N → ib a ≠ x) {cs : Array Value} (hb : Blk W x cs 136) : HeapAt w0 wz B g fr fc way n N ib d lt S W' := by
  obtain ⟨v, f, hs, hp, hh⟩ := h
  refine ⟨v, f, ⟨⟨hs.que.blk.grown hg (fun e => hs.que.blk.ne hb (by decide) (by injection e)), World.ownsRow.kept hs.que.row hg (Or.inr fun e => hs.que.apart hb (by decide) e.symm), hs.que.ne⟩, fun a ha => (hs.its a ha).grown hg (fun e => hn a ha (by injection e)), hs.bel.grown hg hs.lim (fun k e => by injection e with e; omega), Nat.le_trans hs.lim hg.size, hs.old, fun b cs t h1 h2 h3 k => (hs.kept b cs t h1 h2 h3 k).grown hg (fun e => (hs.kept b cs t h1 h2 h3 k).ne hb h3 (by injection e))⟩, hp, hh⟩
theorem HeapAt.base {w0 wz W : World} {B g : Nat} {fr fc : FuncId} {way : Int} {n N : Nat} {ib : Nat → Nat} {d : Nat → Dat} {lt : Nat → Nat → Bool} {S : Nat → Prop} (h : HeapAt w0 wz B g fr fc way n N ib d lt S W) : HeapAt w0 W B g fr fc way n N ib d lt S W := by
  obtain ⟨v, f, hs, hp, hh⟩ := h
  exact ⟨v, f, hs.base, hp, hh⟩
theorem HeapAt.same {w0 wz W : World} {B g : Nat} {fr fc : FuncId} {way : Int} {n N : Nat} {ib : Nat → Nat} {d : Nat → Dat} {lt : Nat → Nat → Bool} {S S' : Nat → Prop} (h : HeapAt w0 wz B g fr fc way n N ib d lt S W) (e : ∀ a, S a ↔ S' a) : HeapAt w0 wz B g fr fc way n N ib d lt S' W := by
  obtain ⟨v, f, hs, hp, hh⟩ := h
  exact ⟨v, f, hs, hp, ⟨hh.inj, fun a => (e a).symm.trans (hh.on a)⟩⟩
theorem HeapAt.keeps {w0 wz W : World} {B g : Nat} {fr fc : FuncId} {way : Int} {n N : Nat} {ib : Nat → Nat} {d : Nat → Dat} {lt : Nat → Nat → Bool} {S : Nat → Prop} (h : HeapAt w0 wz B g fr fc way n N ib d lt S W) {b : Nat} {cs : Array Value} {t : TypeId} (k : Blk wz b cs t) (h1 : t ≠ 133) (h2 : t ≠ 134) (h3 : t ≠ 136) : Blk W b cs t := by
  obtain ⟨v, f, hs, _⟩ := h
  exact hs.kept b cs t h1 h2 h3 k
theorem HeapAt.facts {w0 wz W : World} {B g : Nat} {fr fc : FuncId} {way : Int} {n N : Nat} {ib : Nat → Nat} {d : Nat → Dat} {lt : Nat → Nat → Bool} {S : Nat → Prop} (h : HeapAt w0 wz B g fr fc way n N ib d lt S W) : Below B w0 W ∧ B ≤ W.heap.size ∧ B ≤ g ∧ g < W.heap.size ∧ ∀ a, a < N → ib a < W.heap.size := by
  obtain ⟨v, f, hs, _⟩ := h
  exact ⟨hs.bel, hs.lim, hs.old, hs.que.blk.lt, fun a ha => (hs.its a ha).lt⟩
def lenV : Value → Nat | .slice _ n _ => n | _ => 0
theorem srt_store_float (a : Addr) (n : Nat) (m : Mode) (w : World) : (store a (.float .f64 n) m).run Tryz.prog w = stored Tryz.prog w a (.float .f64 n) m := run_store _ w a _ m rfl
theorem row_keep {W W' : World} {B n : Nat} {t : TypeId} {v : Value} {xs : List Value} (h : W.ownsRow B t 1 v n xs) (hk : ∀ b cs, Blk W b cs t → Blk W' b cs t) : W'.ownsRow B t 1 v n xs := by
  refine ⟨h.1, ?_⟩
  rcases h.2 with h0 | ⟨q, cap, cur, rfl, hB, hg, rest⟩
  · exact .inl h0
  · exact .inr ⟨q, cap, cur, rfl, hB, (hk q cur ⟨hg⟩).row, rest⟩
theorem row_type {W : World} {B n b : Nat} {t : TypeId} {v : Value} {xs : List Value} (h : W.ownsRow B t 1 v n xs) (e : v.ownBlock = some b) : B ≤ b ∧ ∃ cs, Blk W b cs t := by
  rcases h.2 with ⟨rfl, _⟩ | ⟨q, cap, cur, rfl, hB, hg, _⟩
  · cases e
  · have : q = b := by
      have : some q = some b := e
      injection this
    subst this
    exact ⟨hB, cur, ⟨hg⟩⟩
/-- A row of another type, and what is new, has turned. -/
theorem Stt.off {W W' w0 wz : World} {B g n N : Nat} {fr fc : FuncId} {way : Int} {v u : Value} {f ib : Nat → Nat} {d : Nat → Dat} {t : TypeId} {k : Nat} {xs : List Value} (h : Stt W w0 wz B g fr fc way v n N f ib d) (hr : W.ownsRow B t 1 u k xs) (h1 : t ≠ 133) (h2 : t ≠ 134) (h3 : t ≠ 136) (hg : W.grownBy W' u.ownBlock) : Stt W' w0 W' B g fr fc way v n N f ib d := by
  have far : ∀ b cs s, s ≠ t → Blk W b cs s → some b ≠ u.ownBlock := fun b cs s hs hb e => by
    obtain ⟨_, ds, hd⟩ := row_type hr e.symm
    exact hb.ne hd hs rfl
  refine ⟨⟨h.que.blk.grown hg (far _ _ _ h1.symm h.que.blk), ?_, h.que.ne⟩, fun a ha => (h.its a ha).grown hg (far _ _ _ h3.symm (h.its a ha)), h.bel.grown hg h.lim (fun k e => (row_type hr e).1), Nat.le_trans h.lim hg.size, h.old, fun _ _ _ _ _ _ k => k⟩
  refine World.ownsRow.kept h.que.row hg ?_
  rcases hv : v.ownBlock with _ | b
  · exact Or.inl rfl
  · obtain ⟨_, cs, hb⟩ := row_type h.que.row hv
    exact Or.inr (far b cs _ h2.symm hb)
/-- What Order answers. -/
def OrdEnd (w : World) (n : Nat) (lt : Nat → Nat → Bool) (e : Ending) (w' : World) : Prop :=
  ∃ v out, e = .returned (.tuple #[v, .int .i64 0]) ∧ InOrder lt n out ∧ Own .i64 w' w.heap.size 3 v out ∧ Below w.heap.size w w'
set_option maxRecDepth 100000 in
set_option maxHeartbeats 4000000 in
theorem order_yes {A : Option Addr} {cap : Nat} {es : List Dat} {how conv : ByteArray} {w : World} {fr fc : FuncId} {way : Int} {rd : Nat → Dat} {cv : Nat → Nat → Int} (hh : (how, fr, fc, way) ∈ ordT) (hs : how.size ≤ maxLen) (hl : es.length ≤ 1000) (hR : RdE w A es)
    (o : Ord (ltV cv way)) (er : Enters fr) (ec : Enters fc) (hr : Readies w w.heap.size fr conv es.length (fun a => es.getD a ⟨⟨#[]⟩, 0, 0, ⟨#[]⟩, false⟩) rd) (hc : CmpOf w w.heap.size fc es.length rd cv) :
    Calls Tryz.prog 35 #[.slice A es.length cap, .string how, .string conv] w (OrdEnd w es.length (ltV cv way)) := by
  have CO := Lib.hid (orders_any w)
  have HH := Lib.hid hh
  have HS := Lib.hid hs
  have HR := Lib.hid hR
  have HO := Lib.hid o
  have HER := Lib.hid er
  have HEC := Lib.hid ec
  have HRD := Lib.hid hr
  have HCM := Lib.hid hc
  obtain ⟨n, hn⟩ : ∃ n, es.length = n := ⟨_, rfl⟩
  obtain ⟨B, hB⟩ : ∃ B, w.heap.size = B := ⟨_, rfl⟩
  rw [hn] at hl HRD HCM ⊢
  unfold OrdEnd
  rw [hB] at CO HRD HCM ⊢
  have HN := Lib.hid hn
  have HB := Lib.hid hB
  clear hh hs hR o er ec hr hc hn hB
  go_enter Tryz.func35, Tryz.ntmps35
  go_wp2_with fail
  refine CO.out.mono ?_
  rintro e W1 ⟨rfl, hm, hb⟩
  have hlk := (ords_look hm HS.out).1 _ _ _ HH.out
  have hB1 : B ≤ W1.heap.size := by have := hb.size; have := HB.out; omega
  have hb2 := ((hb.mono (show B ≤ B from Nat.le_refl _)).alloc hB1 (.cells #[fval fr, fval fc, .int .i64 way] 127)).alloc (by simp; omega) (.cells #[fval fr, fval fc, .int .i64 way, .slice none 0 0] 133)
  have q2 := Blk.new (W1.alloc (.cells #[fval fr, fval fc, .int .i64 way] 127)) #[fval fr, fval fc, .int .i64 way, .slice none 0 0] 133
  have o2 := (Blk.new W1 #[fval fr, fval fc, .int .i64 way] 127).alloc (.cells #[fval fr, fval fc, .int .i64 way, .slice none 0 0] 133)
  rw [World.size_alloc] at q2
  clear hm hb CO HH HS
  go_wp2_with fail
  clear hlk
  obtain ⟨g, hg⟩ : ∃ g, W1.heap.size = g := ⟨_, rfl⟩
  obtain ⟨W2, hW2⟩ : ∃ W2, (W1.alloc (.cells #[fval fr, fval fc, .int .i64 way] 127)).alloc (.cells #[fval fr, fval fc, .int .i64 way, .slice none 0 0] 133) = W2 := ⟨_, rfl⟩
  rw [hW2, hg] at q2 o2
  rw [hg] at hB1
  rw [hW2] at hb2
  rw [hg]
  have e2 := hW2
  clear hg
  rw [show (W1.alloc (Obj.cells #[Value.func (Fn.func fr) #[] #[], Value.func (Fn.func fc) #[] #[], Value.int IntKind.i64 way] 127)).alloc (Obj.cells #[Value.func (Fn.func fr) #[] #[], Value.func (Fn.func fc) #[] #[], Value.int IntKind.i64 way, Value.slice none 0 0] 133) = W2 from hW2]
  have hs2 : B ≤ W2.heap.size := by have := q2.lt; omega
  have h0 : HeapAt w W2 B (g + 1) fr fc way 0 0 (fun _ => 0) rd (ltV cv way) (fun a => a < 0) W2 :=
    ⟨.slice none 0 0, fun _ => 0, ⟨⟨q2, World.ownsRow_nil _ _ _ _, by intro e; cases e⟩, fun a ha => absurd ha (Nat.not_lt_zero _), hb2, hs2, by omega, fun _ _ _ _ _ _ k => k⟩, fun k h1 h2 => absurd h2 (Nat.not_lt_zero _), ⟨fun i j h1 => absurd h1 (Nat.not_lt_zero _), fun a => ⟨fun h => absurd h (Nat.not_lt_zero _), fun ⟨i, h, _⟩ => absurd h (Nat.not_lt_zero _)⟩⟩⟩
  have H0 := Lib.hid h0
  have HO2 := Lib.hid o2
  clear h0 o2 q2 hb2 e2 hW2 hs2
  go_loopw [27] (fun iv wr => ∃ k ib, k ≤ n ∧ iv = .int .i64 ((k : Nat) : Int) ∧ HeapAt w W2 B (g + 1) fr fc way k k ib rd (ltV cv way) (fun a => a < k) wr) (fun iv _ => n - (RowKit.intOf iv).toNat)
  case atStart => exact ⟨0, _, Nat.zero_le _, rfl, H0.out⟩
  case round =>
    obtain ⟨k, ib, hk, rfl, h⟩ := hrel
    obtain ⟨f1, f2, f3, f4, f5⟩ := h.facts
    have ho := h.keeps HO2.out (by decide) (by decide) (by decide)
    have H := Lib.hid h
    have F5 := Lib.hid f5
    have F1 := Lib.hid f1
    clear h f5 f1
    by_cases hlt : k < n
    · obtain ⟨b, off, hA, hcl⟩ := HR.out k (by rw [HN.out]; exact hlt)
      subst hA
      obtain ⟨dk, hdk⟩ : ∃ dk, es[k]'(by rw [HN.out]; exact hlt) = dk := ⟨_, rfl⟩
      rw [hdk] at hcl
      have hcw : ∀ i, i < 5 → wr.cell? ⟨b, off + k * 5 + i, none⟩ = (enC dk)[i]? := fun i hi => by
        have h1 := hcl i hi
        have h2 : (enC dk)[i]? = some ((enC dk)[i]'(by simpa [enC] using hi)) := List.getElem?_eq_getElem _
        have hl := World.block_lt_of_cell? w _ (h1.trans h2)
        rw [HB.out] at hl
        exact (F1.out.cell (p := ⟨b, off + k * 5 + i, none⟩) hl).trans h1
      have k0 : wr.cell? ⟨b, off + k * 5, none⟩ = some (.string dk.key) := hcw 0 (by omega)
      have k1 : wr.cell? ⟨b, off + k * 5 + 1, none⟩ = some (.int .i64 dk.kind) := hcw 1 (by omega)
      have k2 : wr.cell? ⟨b, off + k * 5 + 2, none⟩ = some (.float .f64 dk.num) := hcw 2 (by omega)
      have k3 : wr.cell? ⟨b, off + k * 5 + 3, none⟩ = some (.string dk.str) := hcw 3 (by omega)
      have k4 : wr.cell? ⟨b, off + k * 5 + 4, none⟩ = some (.bool dk.sub) := hcw 4 (by omega)
      have hge : es.getD k ⟨⟨#[]⟩, 0, 0, ⟨#[]⟩, false⟩ = dk := by
        rw [← hdk, List.getD_eq_getElem?_getD, List.getElem?_eq_getElem (by rw [HN.out]; exact hlt)]
        rfl
      have HGE := Lib.hid hge
      have g0 := (ho.alloc (.cells #[.string dk.key, .int .i64 dk.kind, .float .f64 dk.num, .string dk.str, .bool dk.sub] 61)).alloc (.cells #[.int .i64 (k : Int), .string dk.key, .int .i64 dk.kind, .float .f64 dk.num, .string dk.str, .bool dk.sub] 136)
      have c0 := g0.cell 0
      have hst := srt_store_float
      have her := HER.out
      clear hcl hcw hdk hge g0 ho
      go_wp2_with fail
      have bW := ((Below.refl wr.heap.size wr).alloc (Nat.le_refl _) (.cells #[.string dk.key, .int .i64 dk.kind, .float .f64 dk.num, .string dk.str, .bool dk.sub] 61)).alloc (by simp) (.cells #[.int .i64 (k : Int), .string dk.key, .int .i64 dk.kind, .float .f64 dk.num, .string dk.str, .bool dk.sub] 136)
      have xW := Blk.new (wr.alloc (.cells #[.string dk.key, .int .i64 dk.kind, .float .f64 dk.num, .string dk.str, .bool dk.sub] 61)) #[.int .i64 (k : Int), .string dk.key, .int .i64 dk.kind, .float .f64 dk.num, .string dk.str, .bool dk.sub] 136
      rw [World.size_alloc] at xW
      have hA3 := H.out.below bW
      obtain ⟨W3, hW3⟩ : ∃ W3, (wr.alloc (.cells #[.string dk.key, .int .i64 dk.kind, .float .f64 dk.num, .string dk.str, .bool dk.sub] 61)).alloc (.cells #[.int .i64 (k : Int), .string dk.key, .int .i64 dk.kind, .float .f64 dk.num, .string dk.str, .bool dk.sub] 136) = W3 := ⟨_, rfl⟩
      obtain ⟨x, hx⟩ : ∃ x, wr.heap.size + 1 = x := ⟨_, rfl⟩
      rw [hW3] at xW hA3
      rw [hx] at xW
      rw [hW3, hx]
      have hBx : B ≤ x := by omega
      have hix : ∀ a, a < k → ib a ≠ x := fun a ha e => by have := F5.out a ha; omega
      have hBW := hA3.facts.1
      clear k0 k1 k2 k3 k4 c0 hst her hW3 hx bW
      have HA3 := Lib.hid hA3
      have XW := Lib.hid xW
      refine (HRD.out W3 x k hlt hBW (by show Blk W3 x (itC k (es.getD k ⟨⟨#[]⟩, 0, 0, ⟨#[]⟩, false⟩)) _; rw [HGE.out]; exact XW.out)).mono ?_
      rintro e W4 ⟨⟨r, rfl⟩, hx4, hg4⟩
      have hA4 := (HA3.out.aside hg4 hBx hix XW.out).more hx4
      obtain ⟨ib2, hi2, hh2⟩ : ∃ ib2 : Nat → Nat, ib2 k = x ∧ HeapAt w W2 B (g + 1) fr fc way k (k + 1) ib2 rd (ltV cv way) (fun a => a < k) W4 := ⟨fun a => if a = k then x else ib a, if_pos rfl, hA4⟩
      have CP := hPush_any (x := k) HO.out HEC.out (HCM.out.compares (N := k + 1) (ib := ib2) (by omega)) (fun a (ha : a < k) => by omega) (by omega) hh2 (by omega) (by omega)
      rw [hi2] at CP
      have CP := Lib.hid CP
      have HS4 := Lib.hid hh2
      clear hx4 hg4 hA4 hh2 hA3 xW hix hBW hi2 HA3 XW H F5 F1
      go_wp2_with fail
      refine CP.out.mono ?_
      rintro e W5 ⟨⟨r5, rfl⟩, h5⟩
      have H5 := Lib.hid (h5.same (S' := fun a => a < k + 1) (fun a => by constructor <;> intro h <;> omega))
      clear h5 CP HS4
      go_wp2_with fail
      go_roundw
      case rel => exact ⟨k + 1, ib2, by omega, by go_num, H5.out⟩
      case measure => simp [RowKit.intOf]; omega
    · obtain rfl : k = n := by omega
      have hmk : ∀ W : World, (Instr.makeSlice 55 (.int .i64 0) (.int .i64 (k : Int))).run Tryz.prog W = .ok (.slice (some ⟨W.heap.size, 0, none⟩) 0 k) (W.alloc (.cells (madeCells #[Value.int .i64 0] k) 3)) := fun W => by
        obtain ⟨i0, hi, hz0, hz1, hz2⟩ := info_parts info_i64
        have := run_make (P := Tryz.prog) W 55 3 i0 (.int .i64 0) Tryz.underlying55 hi hz0 .i64 .i64 0 (k : Int) (by omega) (by omega) (by rw [hz2]; omega) (by omega)
        rw [hz1, Int.toNat_natCast, Nat.mul_one] at this
        exact this
      have hown : (wr.alloc (.cells (madeCells #[Value.int .i64 0] k) 3)).ownsRow B 3 1 (.slice (some ⟨wr.heap.size, 0, none⟩) 0 k) 0 [] := World.ownsRow_made wr _ k f2 (by unfold maxLen; omega) (by rw [size_madeCells]; simp)
      have hA3 := (H.out.below ((Below.refl wr.heap.size wr).alloc (Nat.le_refl _) (.cells (madeCells #[Value.int .i64 0] k) 3)))
      have HA3 := Lib.hid hA3.base
      have HOW := Lib.hid hown
      clear hA3 hown ho H F5 F1 hlt f3 f4
      go_wp2_with fail
      obtain ⟨W3, hW3⟩ : ∃ W3, wr.alloc (.cells (madeCells #[Value.int .i64 0] k) 3) = W3 := ⟨_, rfl⟩
      rw [hW3] at HA3 HOW
      rw [hW3]
      clear hW3 hmk f2
      go_loopw [14] (fun sv w2 => ∃ (lv : Value) (m : Nat) (out : List Nat) (q : Value) (f : Nat → Nat), lv = sv ∧ Own .i64 w2 B 3 lv out ∧ Stt w2 w w2 B (g + 1) fr fc way q m k f ib rd ∧ Heap (ltV cv way) f m ∧ Taken (ltV cv way) k out f m) (fun lv _ => k - lenV lv)
      case atStart =>
        obtain ⟨q, f, hs, hp, hh⟩ := HA3.out
        exact ⟨_, k, [], q, f, rfl, HOW.out, hs, hp, Taken.start hh⟩
      case round =>
        clear HA3 HOW
        obtain ⟨lv, m, out, q, f, rfl, hO, hs, hp, ht⟩ := hrel
        have hle := ht.len
        have CL := qLen_any hs.que
        by_cases hm : m = 0
        · subst hm
          have HE := Lib.hid ht.done
          have HOw := Lib.hid hO
          have HBl := Lib.hid hs.bel
          have CL := Lib.hid CL
          clear hO hs hp ht
          go_wp2_with fail
          refine CL.out.mono ?_
          rintro e w' ⟨rfl, rfl⟩
          go_wp2_with fail
          go_ret2
          exact ⟨_, out, rfl, HE.out, HOw.out, HBl.out⟩
        · obtain ⟨m0, rfl⟩ : ∃ m0, m = m0 + 1 := ⟨m - 1, by omega⟩
          obtain ⟨m1, hm1⟩ : ∃ m1, m0 + 1 = m1 := ⟨_, rfl⟩
          have CPo := hPop_any HO.out HEC.out (HCM.out.compares (N := k) (ib := ib) (Nat.le_refl _)) (fun a (ha : a < k ∧ a ∉ out) => ha.1) (by omega) hs hp ht.some'
          rw [hm1] at CL
          have hb1 : 1 ≤ m1 ∧ m1 ≤ 1000 := by omega
          have hgt : (0 : Int) < (m1 : Int) := by omega
          have hf0 : f 0 < k := ((ht.some'.on _).2 ⟨0, by omega, rfl⟩).1
          obtain ⟨x, hx⟩ : ∃ x, f 0 = x := ⟨_, rfl⟩
          rw [hx] at CPo hf0
          have HT := Lib.hid ht
          have HP := Lib.hid hp
          have HX := Lib.hid hx
          have HOw := Lib.hid hO
          have CL := Lib.hid CL
          have CPo := Lib.hid CPo
          clear hO hs hp ht hx hm1
          go_wp2_with fail
          refine CL.out.mono ?_
          rintro e w' ⟨rfl, rfl⟩
          go_wp2_with fail
          refine CPo.out.mono ?_
          rintro e W4 ⟨rfl, h4⟩
          have hrow := row_keep HOw.out (fun b cs hb => h4.keeps hb (by decide) (by decide) (by decide))
          obtain ⟨q4, f4, hs4, hp4, hh4⟩ := h4
          have hxb := (hs4.its x hf0).at
          have hta := fun w => ta_item (iptr (ib x)) w
          obtain ⟨i0, hi, hz0, hz1, hz2⟩ := info_parts info_i64
          have HS4 := Lib.hid hs4
          have H4 := Lib.hid (And.intro hp4 hh4)
          have hlim := hs4.lim
          have hol : out.length ≤ 1000 := by omega
          clear hs4 hp4 hh4 CL CPo
          go_wp2_with (at_builtin; refine wpList_append_own _ rfl _ _ 55 rfl B 3 i0 (.int .i64 0) 1 8 Tryz.underlying55 hi hz0 hz1 hz2 rfl (by decide) _ _ _ rfl (hrow.alloc _) ⟨W4.heap.size, 0, none⟩ 1 1 [.int .i64 (x : Int)] rfl rfl (cell_one_new _ _ _) ?c2 ?c3 ?c4 ?c5 ?_)
          case c2 => simp [Value.oneCell']
          case c3 => unfold maxLen; omega
          case c4 => omega
          case c5 => simp; omega
          intro v' w5 hown' hgrow _
          have hs5 := (HS4.out.below ((Below.refl W4.heap.size W4).alloc (Nat.le_refl _) (.cells #[.int .i64 (x : Int)] 3))).off (hrow.alloc _) (by decide) (by decide) (by decide) hgrow
          have hO5 : Own .i64 w5 B 3 v' (out ++ [x]) := by
            unfold Own
            rw [List.length_append, nums_append]
            exact hown'
          have ht5 := Taken.step HO.out HT.out HP.out HX.out H4.out.2
          have hl5 : lenV v' = out.length + 1 := by
            rcases hown'.2 with ⟨_, h0⟩ | ⟨_, _, _, rfl, _⟩
            · omega
            · rfl
          have hl4 : lenV lv = out.length := by
            rcases hrow.2 with ⟨rfl, h0⟩ | ⟨_, _, _, rfl, _⟩
            · exact h0.symm
            · rfl
          have H5 := Lib.hid (show Own .i64 w5 B 3 v' (out ++ [x]) ∧ Stt w5 w w5 B (g + 1) fr fc way q4 m0 k f4 ib rd ∧ Heap (ltV cv way) f4 m0 ∧ Taken (ltV cv way) k (out ++ [x]) f4 m0 from ⟨hO5, hs5, H4.out.1, ht5⟩)
          have HLL := Lib.hid (And.intro hl5 hl4)
          clear hs5 hO5 ht5 hl5 hl4 hown' hgrow hrow hxb hta HS4 H4 HT HP HOw
          go_wp2
          go_roundw
          case rel => exact ⟨_, m0, out ++ [x], q4, f4, rfl, H5.out⟩
          case measure => rw [HLL.out.1, HLL.out.2]; omega
end Go.Proofs.YtbbbdcohkfijoaaGreatDoor

namespace Go.Proofs.YtbbbdcohkfijoaaGreatDoor
open Go.RowKit Go.Lib

theorem en_leave : Enters fLeave := fun args w => (enters_of Tryz.func143 (by kernel_rfl) rfl) args w
theorem en_alike : Enters fAlike := fun args w => (enters_of Tryz.func144 (by kernel_rfl) rfl) args w
theorem en_byKey : Enters fByKey := fun args w => (enters_of Tryz.func145 (by kernel_rfl) rfl) args w
theorem en_countKey : Enters fCountKey := fun args w => (enters_of Tryz.func146 (by kernel_rfl) rfl) args w
theorem en_byKeyN : Enters fByKeyN := fun args w => (enters_of Tryz.func147 (by kernel_rfl) rfl) args w
theorem en_byVal : Enters fByVal := fun args w => (enters_of Tryz.func149 (by kernel_rfl) rfl) args w
theorem en_count : Enters fCount := fun args w => (enters_of Tryz.func150 (by kernel_rfl) rfl) args w
theorem leave_any (b : Nat) (conv : ByteArray) (W : World) : Calls Tryz.prog fLeave #[iptr b, .string conv] W fun e w' => (∃ r, e = .returned r) ∧ W = w' := by
  go_enter Tryz.func143, Tryz.ntmps143
  go_wp2
  go_end0
  exact ⟨⟨_, rfl⟩, rfl⟩
theorem readies_leave (w0 : World) (B : Nat) (conv : ByteArray) (n : Nat) (es : Nat → Dat) : Readies w0 B fLeave conv n es es := fun W b a _ _ hb =>
  (leave_any b conv W).mono fun _ _ ⟨h1, h2⟩ => by
    subst h2
    exact ⟨h1, hb, ⟨rfl, rfl, rfl, Nat.le_refl _, fun _ _ _ => rfl⟩⟩
theorem cmp_alike (w0 : World) (B n : Nat) (d : Nat → Dat) : CmpOf w0 B fAlike n d (fun _ _ => 0) := by
  intro W a b p q _ _ _ _ _
  go_enter Tryz.func144, Tryz.ntmps144
  go_wp2
  go_ret
  exact ⟨rfl, Below.refl _ _⟩
theorem Itc.cells {W : World} {b a : Nat} {d : Dat} (h : Blk W b (itC a d) 136) : W.cell? ⟨b, 1, none⟩ = some (.string d.key) ∧ W.cell? ⟨b, 2, none⟩ = some (.int .i64 d.kind) ∧ W.cell? ⟨b, 3, none⟩ = some (.float .f64 d.num) ∧ W.cell? ⟨b, 4, none⟩ = some (.string d.str) ∧ W.cell? ⟨b, 5, none⟩ = some (.bool d.sub) :=
  ⟨h.cell 1, h.cell 2, h.cell 3, h.cell 4, h.cell 5⟩
theorem byKey_any {W : World} {a b p q : Nat} {d e : Dat} (h1 : Blk W p (itC a d) 136) (h2 : Blk W q (itC b e) 136) :
    Calls Tryz.prog fByKey #[iptr p, iptr q] W fun r w' => r = .returned (.int .i64 (Lib.compareBytes d.key.data.toList e.key.data.toList)) ∧ Below W.heap.size W w' := by
  obtain ⟨p1, -, -, -, -⟩ := Itc.cells h1
  obtain ⟨q1, -, -, -, -⟩ := Itc.cells h2
  obtain ⟨x, hx⟩ : ∃ x, d.key = x := ⟨_, rfl⟩
  obtain ⟨y, hy⟩ : ∃ x, e.key = x := ⟨_, rfl⟩
  rw [hx] at p1 ⊢
  rw [hy] at q1 ⊢
  have C := Lib.hid (fun W => Tryz.strings_Compare x y W)
  clear h1 h2 hx hy
  go_enter Tryz.func145, Tryz.ntmps145
  go_wp2_with fail
  go_quiet ((go_at_call 87; exact Calls.quiet_of_same (C.out _)))
  go_wp2_with fail
  go_ret
  exact ⟨rfl, srt_drewN (Below.refl _ _) _⟩
theorem cmp_byKey (w0 : World) (B n : Nat) (d : Nat → Dat) : CmpOf w0 B fByKey n d (fun a b => Lib.compareBytes (d a).key.data.toList (d b).key.data.toList) :=
  fun _ _ _ _ _ _ _ _ h1 h2 => byKey_any h1 h2
/-- A comparison that is one gives an order. -/
theorem ord_of {cv : Nat → Nat → Int} {way : Int} (hw : way = 1 ∨ way = -1) (hb : ∀ a b, -1000 ≤ cv a b ∧ cv a b ≤ 1000) (hs : ∀ a b, cv b a = -cv a b) (ht : ∀ a b c, cv a b ≤ 0 → cv b c ≤ 0 → cv a c ≤ 0 ∧ (cv a c = 0 → cv a b = 0 ∧ cv b c = 0)) (he : ∀ a b c, cv a b = 0 → cv b c = 0 → cv a c = 0) : Ord (ltV cv way) := by
  have key : ∀ a b, ltV cv way a b = true ↔ (cv a b * way < 0 ∨ (cv a b = 0 ∧ a < b)) := fun a b => by
    have h1 := hb a b
    have h2 : IntKind.i64.wrap (cv a b * way) = cv a b * way := IntWalk.i64_in _ (by rcases hw with rfl | rfl <;> omega)
    unfold ltV lessB
    rw [h2]
    by_cases e : cv a b * way = 0
    · rw [if_pos e, decide_eq_true_eq]
      rcases hw with rfl | rfl <;> omega
    · rw [if_neg e, decide_eq_true_eq]
      rcases hw with rfl | rfl <;> omega
  have nkey : ∀ a b, ltV cv way a b = false ↔ ¬ (cv a b * way < 0 ∨ (cv a b = 0 ∧ a < b)) := fun a b => by rw [← key, Bool.not_eq_true]
  refine ⟨fun a b h => ?_, fun a b hne h => ?_, fun a b c h1 h2 => ?_⟩
  · rw [key] at h
    rw [nkey]
    have := hs a b
    rcases hw with rfl | rfl <;> omega
  · rw [nkey] at h
    rw [key]
    have := hs a b
    rcases hw with rfl | rfl <;> omega
  · rw [key] at h1 h2 ⊢
    have e1 := hs a b
    have e2 := hs b c
    have e3 := hs a c
    have t1 := ht a b c
    have t2 := ht c b a
    have t3 := he a b c
    rcases hw with rfl | rfl
    · by_cases z : cv a c = 0
      · by_cases y : cv a b ≤ 0 ∧ cv b c ≤ 0
        · have := (t1 y.1 y.2).2 z; omega
        · omega
      · by_cases y : cv a b ≤ 0 ∧ cv b c ≤ 0
        · have := (t1 y.1 y.2).1; omega
        · omega
    · by_cases z : cv a c = 0
      · by_cases y : cv c b ≤ 0 ∧ cv b a ≤ 0
        · have := (t2 y.1 y.2).2 (by omega); omega
        · omega
      · by_cases y : cv c b ≤ 0 ∧ cv b a ≤ 0
        · have := (t2 y.1 y.2).1; omega
        · omega
end Go.Proofs.YtbbbdcohkfijoaaGreatDoor

namespace Go.Proofs.YtbbbdcohkfijoaaGreatDoor
open Go.RowKit Go.Lib

set_option maxRecDepth 100000 in
set_option maxHeartbeats 1000000 in
theorem trim_any (A : Option Addr) (cap : Nat) (xs : List Nat) (w : World) (hx : Lim B32 xs) (_hxn : xs.length ≤ 100000) (hcap : xs.length ≤ cap) (hcm : cap ≤ maxLen) (hr : Rd .u32 w A xs) :
    Calls Tryz.prog 268 #[.slice A xs.length cap] w fun e w' => (∃ m : Nat, m ≤ xs.length ∧ dig B32 (vl B32 xs) = xs.take m ∧ e = .returned (.slice A m cap)) ∧ w = w' := by
  unfold maxLen at hcm
  go_enter Tryz.func268, Tryz.ntmps268
  go_wp2
  go_loop [3] (fun i => ∃ k : Nat, k ≤ xs.length ∧ i = .int .i64 k ∧ ∀ j (_ : k ≤ j) (hj : j < xs.length), xs[j] = 0) (fun i => (RowKit.intOf i).toNat)
  case atStart => exact ⟨xs.length, Nat.le_refl _, rfl, fun j _ _ => by omega⟩
  case round =>
    obtain ⟨k, hk, rfl, h0⟩ := hrel
    have H0 := Lib.hid h0; clear h0
    by_cases hz : k = 0
    · subst hz
      go_wp2
      go_ret
      exact ⟨⟨0, Nat.zero_le _, (trim_take (by decide) hx (Nat.zero_le _) H0.out (.inl rfl)).1, rfl⟩, rfl⟩
    · obtain ⟨g, o, rfl, hc⟩ := hr (k - 1) (by omega)
      obtain ⟨x, hxe, hxk⟩ := lim32 hx (k - 1) (by omega)
      rw [hxe] at hc
      have HX := Lib.hid hxe; clear hxe
      by_cases hx0 : x = 0
      · subst hx0
        go_wp2
        go_round
        case rel => exact ⟨k - 1, by omega, by go_num, fun j h1 h2 => by
          by_cases e : j = k - 1
          · subst e; exact HX.out
          · exact H0.out j (by omega) h2⟩
        case measure => simp [RowKit.intOf]; omega
      · go_wp2
        go_ret
        exact ⟨⟨k, hk, (trim_take (by decide) hx hk H0.out (.inr ⟨by omega, by rw [HX.out]; exact hx0⟩)).1, rfl⟩, rfl⟩
end Go.Proofs.YtbbbdcohkfijoaaGreatDoor

namespace Go.Proofs.YtbbbdcohkfijoaaGreatDoor
open Go.RowKit Go.Lib

/-- A product of two limbs, and what is carried, fits. -/
theorem prod_fits {x t c : Nat} (hx : x < 4294967296) (ht : t < 4294967296) (hc : c < 4294967296) : (x : Int) * (t : Int) + (c : Int) ≤ 18446744073709551615 ∧ 0 ≤ (x : Int) * (t : Int) ∧ ((x : Int) * (t : Int) = ((x * t : Nat) : Int)) := by
  have h : x * t ≤ 4294967295 * 4294967295 := Nat.mul_le_mul (by omega) (by omega)
  refine ⟨?_, ?_, by simp⟩
  · rw [← Int.natCast_mul]; omega
  · rw [← Int.natCast_mul]; omega

/-- A difference that wraps round. -/
theorem sub2_lt {a b r : Int} (h1 : 0 ≤ a ∧ a < 4294967296) (h3 : 0 ≤ b ∧ b < 4294967296) (hr : 0 ≤ r ∧ r ≤ 1) (h : a < b + r) : IntKind.u64.wrap (IntKind.u64.wrap (a - b) - r) = a - b - r + 18446744073709551616 := by
  rw [IntKind.wrap_u64, IntKind.wrap_u64]; omega
theorem sub2_hi {a b r : Int} (h1 : 0 ≤ a ∧ a < 4294967296) (h3 : 0 ≤ b ∧ b < 4294967296) (hr : 0 ≤ r ∧ r ≤ 1) (h : a < b + r) : IntKind.u64.wrap (IntKind.u64.wrap (a - b) - r) / 9223372036854775808 = 1 := by
  rw [sub2_lt h1 h3 hr h]; omega
theorem sub2_lo {a b r : Int} (h1 : 0 ≤ a ∧ a < 4294967296) (h3 : 0 ≤ b ∧ b < 4294967296) (hr : 0 ≤ r ∧ r ≤ 1) (h : a < b + r) : IntKind.u64.wrap (IntKind.u64.wrap (a - b) - r) % 4294967296 = a + 4294967296 - b - r := by
  rw [sub2_lt h1 h3 hr h]; omega

set_option maxRecDepth 100000 in
set_option maxHeartbeats 1000000 in
theorem takeFrom_any (g o cap cb tm : Nat) (A : Option Addr) (t : TypeId) (L R : List Value) (xs bs : List Nat) (w : World) (hA : At .u32 w g t L xs R) (ho : L.length = o) (hx : Lim B32 xs) (hb : Lim B32 bs) (hxn : xs.length ≤ 100000) (_hbn : bs.length ≤ xs.length)
    (htm : tm < 4294967296) (hr : Rd .u32 w A bs) (hoff : bs ≠ [] → Off A g) :
    Calls Tryz.prog 343 #[.slice (some ⟨g, o, none⟩) xs.length cap, .slice A bs.length cb, .int .u32 tm] w fun e w' => (∃ cur m r, At .u32 w' g t L cur R ∧ TakeR B32 tm xs bs cur xs.length m r ∧ e = .returned (.bool (decide (r = 1)))) ∧ w.grownBy w' (some g) := by
  go_enter Tryz.func343, Tryz.ntmps343
  go_wp2
  go_loopw [7, 8, 13] (fun c q i wr => ∃ (k m r : Nat) (cur : List Nat), k ≤ xs.length ∧ i = .int .i64 k ∧ c = .int .u64 m ∧ q = .int .u64 r ∧ At .u32 wr g t L cur R ∧ TakeR B32 tm xs bs cur k m r ∧ w.grownBy wr (some g)) (fun _ _ i _ => xs.length - (RowKit.intOf i).toNat)
  case atStart => exact ⟨0, 0, 0, xs, Nat.zero_le _, rfl, rfl, rfl, hA, takeR_start hx, grown_refl _ _⟩
  case round =>
    obtain ⟨k, m, r, cur, hk, rfl, rfl, rfl, hAt, hR, hG⟩ := hrel
    have hr1 : r ≤ 1 := hR.2.2.1
    have hm1 : m < 4294967296 := by have := hR.2.2.2.1; omega
    by_cases hlt : k < xs.length
    · have hcl := hAt.cell ho k (by rw [hR.1.len]; exact hlt)
      have hfz := hAt.frozen (o + k)
      rw [up_get hR.1 hlt] at hcl
      obtain ⟨x, hxe, hxk⟩ := lim32 hx k hlt
      rw [hxe] at hcl
      have HX := Lib.hid hxe; clear hxe
      by_cases hb2 : k < bs.length
      · obtain ⟨gb, ob, rfl, hcb⟩ := hr.kept hG (hoff (List.ne_nil_of_length_pos (by omega))) k hb2
        obtain ⟨y, hye, hyk⟩ := lim32 hb k hb2
        rw [hye] at hcb
        have HY := Lib.hid hye; clear hye
        obtain ⟨f1, f2, f3⟩ := prod_fits htm hyk hm1
        have HZ := Lib.hid f3; clear f3
        by_cases hge : ((m : Int) + (tm : Int) * (y : Int)) % 4294967296 + (r : Int) ≤ (x : Int)
        · go_wp2
          go_roundw
          case rel => exact ⟨k + 1, (m + tm * y) / 4294967296, 0, cur.set k (x - (m + tm * y) % 4294967296 - r), hlt, by go_num, vint (by omega), vint (by omega), hAt.set_ ho k (by rw [hR.1.len]; exact hlt) _ _ (by omega),
            takeR_step (B := 4294967296) (by decide) hR hb hlt _ _ 0 (by rw [getD_of hb2, HY.out]) (by rw [HX.out]; omega) (by omega) (by omega), grown_set hG _⟩
          case measure => simp [RowKit.intOf]; omega
        · go_wp2
          go_roundw
          case rel => exact ⟨k + 1, (m + tm * y) / 4294967296, 1, cur.set k (x + 4294967296 - (m + tm * y) % 4294967296 - r), hlt, by go_num, vint (by omega), vint (sub2_hi (by omega) (by omega) (by omega) (by omega)), hAt.set_ ho k (by rw [hR.1.len]; exact hlt) _ _ ((sub2_lo (by omega) (by omega) (by omega) (by omega)).trans (by omega)),
            takeR_step (B := 4294967296) (by decide) hR hb hlt _ _ 1 (by rw [getD_of hb2, HY.out]) (by rw [HX.out]; omega) (by omega) (by omega), grown_set hG _⟩
          case measure => simp [RowKit.intOf]; omega
      · by_cases hge : (m : Int) + (r : Int) ≤ (x : Int)
        · go_wp2
          go_roundw
          case rel => exact ⟨k + 1, m / 4294967296, 0, cur.set k (x - m - r), hlt, by go_num, vint (by omega), vint (by omega), hAt.set_ ho k (by rw [hR.1.len]; exact hlt) _ _ (by omega),
            takeR_step (B := 4294967296) (by decide) hR hb hlt m _ 0 (by rw [getD_no hb2]; rfl) (by rw [HX.out]; omega) (by omega) (by omega), grown_set hG _⟩
          case measure => simp [RowKit.intOf]; omega
        · go_wp2
          go_roundw
          case rel => exact ⟨k + 1, m / 4294967296, 1, cur.set k (x + 4294967296 - m - r), hlt, by go_num, vint (by omega), vint (sub2_hi (by omega) (by omega) (by omega) (by omega)), hAt.set_ ho k (by rw [hR.1.len]; exact hlt) _ _ ((sub2_lo (by omega) (by omega) (by omega) (by omega)).trans (by omega)),
            takeR_step (B := 4294967296) (by decide) hR hb hlt m _ 1 (by rw [getD_no hb2]; rfl) (by rw [HX.out]; omega) (by omega) (by omega), grown_set hG _⟩
          case measure => simp [RowKit.intOf]; omega
    · obtain rfl : k = xs.length := by omega
      by_cases h1 : r = 1
      · subst h1
        go_wp2
        go_ret
        exact ⟨⟨cur, m, 1, hAt, hR, rfl⟩, hG⟩
      · obtain rfl : r = 0 := by omega
        go_wp2
        go_ret
        exact ⟨⟨cur, m, 0, hAt, hR, rfl⟩, hG⟩
end Go.Proofs.YtbbbdcohkfijoaaGreatDoor

namespace Go.Proofs.YtbbbdcohkfijoaaGreatDoor
open Go.RowKit Go.Lib

/-- The end of a contract that makes a row of its own. -/
def Makes (κ : IntKind) (t : TypeId) (w : World) (xs : List Nat) (e : Ending) (w' : World) : Prop := ∃ v, e = .returned v ∧ Own κ w' w.heap.size t v xs ∧ Below w.heap.size w w'

set_option maxRecDepth 100000 in
set_option maxHeartbeats 1000000 in
theorem fresh_any (A : Option Addr) (cap : Nat) (xs : List Nat) (w : World) (hxn : xs.length ≤ 100000) (hr : Rd .u32 w A xs) (hA : A = none → cap = 0) :
    Calls Tryz.prog 288 #[.slice A xs.length cap] w (Makes .u32 275 w xs) := by
  obtain ⟨i0, hi, hz0, hz1, hz2⟩ := info_parts info_u32
  have hn0 : w.ownsRow w.heap.size 275 1 (.slice none 0 0) 0 [] := World.ownsRow_nil _ _ _ _
  rcases A with _ | ⟨g, o, p⟩
  · obtain rfl := hA rfl
    have hx : xs = [] := by
      by_cases h : xs = []
      · exact h
      · obtain ⟨_, _, e, _⟩ := hr.at_ h
        cases e
    subst hx
    go_enter Tryz.func288, Tryz.ntmps288
    go_wp2_with (at_builtin; refine wpList_append_own_none rfl _ _ 241 rfl w.heap.size 275 i0 1 Tryz.underlying241 hi _ 0 [] rfl hn0 rfl ?_)
    go_ret
    exact ⟨_, rfl, Own.nil _ _ _, Below.refl _ _⟩
  · have hp : xs ≠ [] → p = none := fun h => by
      obtain ⟨_, _, e, _⟩ := hr.at_ h
      cases e; rfl
    have hc : ∀ j u, (nums .u32 xs)[j]? = some u → w.cell? ((⟨g, o, p⟩ : Addr).add j) = some u := by
      by_cases hx : xs = []
      · subst hx; intro j u hu; simp [nums] at hu
      · obtain rfl := hp hx
        exact hr.news
    go_enter Tryz.func288, Tryz.ntmps288
    go_wp2_with (at_builtin; refine wpList_append_own _ rfl _ _ 241 rfl w.heap.size 275 i0 (.int .u32 0) 1 4 Tryz.underlying241 hi hz0 hz1 hz2 rfl (by decide) _ _ _ rfl hn0 ⟨g, o, p⟩ xs.length cap (nums .u32 xs) rfl ?c1 hc (nums_one _ _) ?c3 ?c4 ?c5 ?_)
    case c1 => rw [nums_len]; omega
    case c3 => unfold maxLen; omega
    case c4 => omega
    case c5 => exact Nat.le_refl _
    intro v w1 hown hgrow _
    try simp only [Nat.zero_add, List.nil_append] at hown
    have HO := Lib.hid hown; clear hown
    have hB : Below w.heap.size w w1 := (Below.refl _ _).grown hgrow (Nat.le_refl _) (fun k e => by cases e)
    clear hgrow hc hp
    go_wp2
    go_ret
    exact ⟨v, rfl, HO.out, hB⟩

/-- mulAdd's numbers. -/
theorem mul_norm {xs ys : List Nat} {tm more : Nat} (hx : Norm B32 xs) (ht : 0 < tm) (hl : Lim B32 ys) (hv : vl B32 ys = vl B32 xs * tm + more) (hlen : ys.length = xs.length ∨ Top ys) : dig B32 (vl B32 xs * tm + more) = ys := by
  refine dig_eq (by decide) ⟨hl, ?_⟩ hv
  rcases hlen with h | h
  · refine top_of_ge hl ?_
    by_cases e : xs = []
    · left; subst e; exact List.eq_nil_of_length_eq_zero h
    · right
      have h1 := vl_top (B := B32) hx.2 e
      have h2 : vl B32 xs * 1 ≤ vl B32 xs * tm := Nat.mul_le_mul_left _ ht
      rw [h, hv]
      omega
  · exact h

set_option maxRecDepth 100000 in
set_option maxHeartbeats 1000000 in
theorem mulAdd_any (A : Option Addr) (cap tm more B : Nat) (xs : List Nat) (w : World) (hx : Norm B32 xs) (hxn : xs.length ≤ 100000) (ht0 : 0 < tm) (htm : tm < 4294967296) (hmo : more < 4294967296) (hB : B ≤ w.heap.size)
    (hO : Own .u32 w B 275 (.slice A xs.length cap) xs) :
    Calls Tryz.prog 267 #[.slice A xs.length cap, .int .u32 tm, .int .u32 more] w fun e w' => ∃ v, e = .returned v ∧ Own .u32 w' B 275 v (dig B32 (vl B32 xs * tm + more)) ∧ Below B w w' := by
  obtain ⟨i0, hi, hz0, hz1, hz2⟩ := info_parts info_u32
  go_enter Tryz.func267, Tryz.ntmps267
  go_wp2
  go_loopw [7, 13] (fun c i wr => ∃ (k z : Nat) (cur : List Nat), k ≤ xs.length ∧ i = .int .i64 k ∧ c = .int .u64 z ∧ Own .u32 wr B 275 (.slice A xs.length cap) cur ∧ MulR B32 tm more xs cur k z ∧ Below B w wr) (fun _ i _ => xs.length - (RowKit.intOf i).toNat)
  case atStart => exact ⟨0, more, xs, Nat.zero_le _, rfl, rfl, hO, mulR_start hx.1 hmo, Below.refl _ _⟩
  case round =>
    obtain ⟨k, z, cur, hk, rfl, rfl, hOw, hR, hBe⟩ := hrel
    have hz : z < 4294967296 := hR.2.2
    have hlen := hR.1.len
    by_cases hlt : k < xs.length
    · obtain ⟨g, rfl, hBg⟩ := hOw.addr (by omega)
      have hcl := hOw.cell k (by omega)
      have hfz : wr.frozen? ⟨g, k, none⟩ = false := World.ownsRow.frozenAt (hOw.row hlen) k
      rw [up_get hR.1 hlt] at hcl
      obtain ⟨x, hxe, hxk⟩ := lim32 hx.1 k hlt
      rw [hxe] at hcl
      have HX := Lib.hid hxe; clear hxe
      obtain ⟨f1, f2, f3⟩ := prod_fits hxk htm hz
      clear f3
      have HL := Lib.hid hlen; clear hlen
      go_wp2
      go_roundw
      case rel =>
        have hs := hOw.set HL.out.symm k ((z + x * tm) % 4294967296)
        exact ⟨k + 1, (z + x * tm) / 4294967296, cur.set k ((z + x * tm) % 4294967296), hlt, by go_num, vint (by omega), by rw [show ((z : Int) + (x : Int) * (tm : Int)) % 4294967296 = (((z + x * tm) % 4294967296 : Nat) : Int) by omega]; exact hs,
          mulR_step (B := 4294967296) hR htm hx.1 hlt _ (by rw [HX.out]), hBe.setCell hBg _⟩
      case measure => simp [RowKit.intOf]; omega
    · obtain rfl : k = xs.length := by omega
      have hv := hR.2.1
      rw [vl_take_all (by omega), vl_take_all (Nat.le_refl _)] at hv
      by_cases hz0' : z = 0
      · subst hz0'
        have HE := Lib.hid (mul_norm hx ht0 hR.1.lim (by rw [← hv]; simp) (.inl hlen))
        clear hv
        go_wp2
        go_ret
        exact ⟨_, rfl, by rw [HE.out]; exact hOw, hBe⟩
      · have HE := Lib.hid (mul_norm (ys := cur ++ [z]) hx ht0 (lim_append.2 ⟨hR.1.lim, lim_one.2 hz⟩) (by rw [← hv, vl_snoc, hlen]) (.inr (top_snoc.2 hz0')))
        have HL := Lib.hid hlen
        have hown : wr.ownsRow B 275 1 (.slice A xs.length cap) xs.length (nums .u32 cur) := hOw.row hlen
        have hsz := hBe.size
        clear hv hlen
        go_wp2_with (at_builtin; refine wpList_append_own _ rfl _ _ 241 rfl B 275 i0 (.int .u32 0) 1 4 Tryz.underlying241 hi hz0 hz1 hz2 rfl (by decide) _ _ _ rfl (hown.alloc _) ⟨wr.heap.size, 0, none⟩ 1 1 [.int .u32 z] rfl rfl (cell_one_new _ _ _) ?c2 ?c3 ?c4 ?c5 ?_)
        case c2 => simp [Value.oneCell']
        case c3 => unfold maxLen; omega
        case c4 => omega
        case c5 => first | omega | (simp; omega)
        intro v' w1 hown' hgrow _
        have hB1 : Below B w w1 := (hBe.alloc (by omega) _).grown hgrow (by simp; omega) (fun r e => (hown.lt r e).1)
        have HO := Lib.hid (Own.snoc hown' HL.out.symm); clear hown'
        clear hown hgrow
        go_wp2
        go_ret
        exact ⟨v', rfl, by rw [HE.out]; exact HO.out, hB1⟩
end Go.Proofs.YtbbbdcohkfijoaaGreatDoor

namespace Go.Proofs.YtbbbdcohkfijoaaGreatDoor
open Go.RowKit Go.Lib

theorem or_low {k a b : Nat} (h : b < 2 ^ k) : a * 2 ^ k ||| b = a * 2 ^ k + b := by
  rw [← Nat.shiftLeft_eq, Nat.shiftLeft_add_eq_or_of_lt h]
/-- A word put together of two limbs. -/
theorem or_add {z x : Nat} (hz : z < 4294967296) (hx : x < 4294967296) : bits .or .u64 ((z : Int) * 4294967296) (x : Int) = (z : Int) * 4294967296 + (x : Int) := by
  have h := u64_or_nat (z * 4294967296) x (by omega) (by omega)
  rw [show z * 4294967296 ||| x = z * 4294967296 + x from or_low (k := 32) hx] at h
  rw [Int.natCast_mul, Int.natCast_add, Int.natCast_mul] at h
  exact h

set_option maxRecDepth 100000 in
set_option maxHeartbeats 1000000 in
theorem divLimb_any (g o cap d : Nat) (t : TypeId) (L R : List Value) (xs : List Nat) (w : World) (hA : At .u32 w g t L xs R) (ho : L.length = o) (hx : Lim B32 xs) (hxn : xs.length ≤ 100000) (hd0 : 0 < d) (hd : d < 4294967296) :
    Calls Tryz.prog 289 #[.slice (some ⟨g, o, none⟩) xs.length cap, .int .u32 d] w fun e w' => (∃ (left : Nat) (cur : List Nat), At .u32 w' g t L cur R ∧ DivR B32 d xs cur 0 left ∧ e = .returned (.int .u32 left)) ∧ w.grownBy w' (some g) := by
  go_enter Tryz.func289, Tryz.ntmps289
  go_wp2
  go_loopw [5, 6] (fun c i wr => ∃ (k z : Nat) (cur : List Nat), k ≤ xs.length ∧ i = .int .i64 ((k : Int) - 1) ∧ c = .int .u64 z ∧ At .u32 wr g t L cur R ∧ DivR B32 d xs cur k z ∧ w.grownBy wr (some g)) (fun _ i _ => (RowKit.intOf i + 1).toNat)
  case atStart => exact ⟨xs.length, 0, xs, Nat.le_refl _, rfl, rfl, hA, divR_start hx hd0, grown_refl _ _⟩
  case round =>
    obtain ⟨k, z, cur, hk, rfl, rfl, hAt, hR, hG⟩ := hrel
    have hz : z < d := hR.2.2
    rcases k with _ | k
    · have hz2 : (z : Int) % 4294967296 = (z : Int) := by omega
      go_wp2
      go_ret
      exact ⟨⟨z, cur, hAt, hR, rfl⟩, hG⟩
    · have hlt : k < xs.length := hk
      have hcl := hAt.cell ho k (by rw [hR.1.len]; exact hlt)
      have hfz := hAt.frozen (o + k)
      rw [down_get hR.1] at hcl
      obtain ⟨x, hxe, hxk⟩ := lim32 hx k hlt
      rw [hxe] at hcl
      have hst := divR_step (B := 4294967296) hR hx (z * 4294967296 + x) (by rw [hxe])
      have HS := Lib.hid hst.1
      have hq1 : ((z : Int) * 4294967296 + (x : Int)) / (d : Int) < 4294967296 := by
        have h := Int.ofNat_lt.2 hst.2
        rw [Int.natCast_ediv, Int.natCast_add, Int.natCast_mul] at h
        exact h
      have hq0 : 0 ≤ ((z : Int) * 4294967296 + (x : Int)) / (d : Int) := Int.ediv_nonneg (by omega) (by omega)
      have hor := or_add (z := z) (x := x) (by omega) hxk
      clear hxe hst
      rw [show ((k + 1 : Nat) : Int) - 1 = (k : Int) by omega]
      go_wp2
      go_roundw
      case rel => exact ⟨k, _, _, by omega, rfl, vint (by simp), hAt.set_ ho k (by rw [hR.1.len]; exact hlt) _ _ (by simp), HS.out, grown_set hG _⟩
      case measure => simp [RowKit.intOf]

/-- A limb shifted, and what was carried. -/
theorem or_shift {c x k P : Nat} (hP : 2 ^ k = P) (hc : c < P) (hx : x < 4294967296) (hk : k < 32) : bits .or .u64 (c : Int) ((x : Int) * (P : Int)) = (x : Int) * (P : Int) + (c : Int) ∧ (x : Int) * (P : Int) + (c : Int) ≤ 18446744073709551615 ∧ 0 ≤ (x : Int) * (P : Int) ∧ (2 : Int) ^ k = (P : Int) := by
  subst hP
  have h2 : 2 ^ k ≤ 2 ^ 31 := Nat.pow_le_pow_right (by omega) (by omega)
  have h3 : (x + 1) * 2 ^ k ≤ 4294967296 * 2 ^ k := Nat.mul_le_mul_right _ hx
  rw [Nat.add_mul] at h3
  have h4 : 4294967296 * 2 ^ k ≤ 4294967296 * 2 ^ 31 := Nat.mul_le_mul_left _ h2
  have h := u64_or_nat c (x * 2 ^ k) (by omega) (by omega)
  rw [Nat.or_comm, or_low hc] at h
  rw [Int.natCast_mul, Int.natCast_add, Int.natCast_mul] at h
  refine ⟨h, ?_, ?_, ?_⟩
  · rw [← Int.natCast_mul]; omega
  · rw [← Int.natCast_mul]; omega
  · rw [Int.natCast_pow]; rfl

/-- What is carried out of the last limb is put behind it, if there is a place. -/
def putTop (n m c : Nat) (cur : List Nat) : List Nat := if n < m then cur.set n c else cur
/-- How shiftUp ends. -/
def ShuEnd (g : Nat) (t : TypeId) (L R : List Value) (out ls : List Nat) (P : Nat) (w' : World) : Prop :=
  ∃ cur c, ShuR B32 P ls cur ls.length c ∧ cur.length = out.length ∧ cur.drop ls.length = out.drop ls.length ∧ At .u32 w' g t L (putTop ls.length out.length c cur) R

set_option maxRecDepth 100000 in
set_option maxHeartbeats 1000000 in
theorem shiftUp_any (g o cap ca k : Nat) (A : Option Addr) (t : TypeId) (L R : List Value) (out ls : List Nat) (w : World) (hA : At .u32 w g t L out R) (ho : L.length = o) (hx : Lim B32 out) (ha : Lim B32 ls) (hn : out.length ≤ 100000) (hl : ls.length ≤ out.length) (hk : k < 32)
    (hr : Rd .u32 w A ls) (hoff : ls ≠ [] → Off A g) :
    Calls Tryz.prog 314 #[.slice (some ⟨g, o, none⟩) out.length cap, .slice A ls.length ca, .int .i64 k] w fun e w' => e = .returned (.tuple #[]) ∧ ShuEnd g t L R out ls (2 ^ k) w' ∧ w.grownBy w' (some g) := by
  obtain ⟨P, hP⟩ : ∃ P, 2 ^ k = P := ⟨_, rfl⟩
  have hP0 : 0 < P := by rw [← hP]; exact Nat.pow_pos (by omega)
  have hP2 : P ≤ 2147483648 := by rw [← hP]; exact (Nat.pow_le_pow_right (by omega) (show k ≤ 31 by omega) : 2 ^ k ≤ 2 ^ 31)
  rw [hP]
  have HP := Lib.hid hP; clear hP
  go_enter Tryz.func314, Tryz.ntmps314
  go_wp2
  go_loopw [6, 11] (fun c i wr => ∃ (j z : Nat) (cur : List Nat), j ≤ ls.length ∧ i = .int .i64 j ∧ c = .int .u64 z ∧ At .u32 wr g t L cur R ∧ ShuR B32 P ls cur j z ∧ cur.length = out.length ∧ cur.drop j = out.drop j ∧ w.grownBy wr (some g)) (fun _ i _ => ls.length - (RowKit.intOf i).toNat)
  case atStart => exact ⟨0, 0, out, Nat.zero_le _, rfl, rfl, hA, shuR_start hx hP0, rfl, rfl, grown_refl _ _⟩
  case round =>
    obtain ⟨j, z, cur, hj, rfl, rfl, hAt, hR, hlen, hdr, hG⟩ := hrel
    have hz : z < P := hR.2.1
    have HL := Lib.hid hlen; clear hlen
    have HD := Lib.hid hdr; clear hdr
    by_cases hlt : j < ls.length
    · have hlo : j < out.length := by omega
      have hfz := hAt.frozen (o + j)
      obtain ⟨u, hu⟩ : ∃ u, wr.cell? ⟨g, o + j, none⟩ = some u := ⟨_, hAt.cell ho j (by rw [HL.out]; omega)⟩
      obtain ⟨gb, ob, rfl, hcb⟩ := hr.kept hG (hoff (List.ne_nil_of_length_pos (by omega))) j hlt
      obtain ⟨x, hxe, hxk⟩ := lim32 ha j hlt
      rw [hxe] at hcb
      have HS := Lib.hid (shuR_step (B := 4294967296) hR ha hlt (by rw [HL.out]; omega) (x * P + z) (by rw [hxe]))
      obtain ⟨hor, hb1, hb2, hpw⟩ := or_shift HP.out hz hxk hk
      clear hxe
      go_wp2
      clear hor hpw
      go_roundw
      case rel => exact ⟨j + 1, _, _, hlt, by go_num, vint (by simp), hAt.set_ ho j (by rw [HL.out]; omega) _ _ (by simp), HS.out, by rw [List.length_set, HL.out], by
          have h := congrArg (List.drop 1) HD.out
          rw [List.drop_drop, List.drop_drop] at h
          rw [drop_set_succ]
          exact h, grown_set hG _⟩
      case measure => simp [RowKit.intOf]; omega
    · obtain rfl : j = ls.length := by omega
      have hz2 : (z : Int) % 4294967296 = (z : Int) := by omega
      by_cases hlo : ls.length < out.length
      · have hfz := hAt.frozen (o + ls.length)
        obtain ⟨u, hu⟩ : ∃ u, wr.cell? ⟨g, o + ls.length, none⟩ = some u := ⟨_, hAt.cell ho ls.length (by rw [HL.out]; omega)⟩
        go_wp2
        go_end0
        exact ⟨rfl, ⟨cur, z, hR, HL.out, HD.out, by rw [putTop, if_pos hlo]; exact hAt.set ho _ _ (by rw [HL.out]; omega)⟩, grown_set hG _⟩
      · go_wp2
        go_end0
        exact ⟨rfl, ⟨cur, z, hR, HL.out, HD.out, by rw [putTop, if_neg hlo]; exact hAt⟩, hG⟩

set_option maxRecDepth 100000 in
set_option maxHeartbeats 1000000 in
theorem shiftDown_any (g o cap k : Nat) (t : TypeId) (L R : List Value) (xs : List Nat) (w : World) (hA : At .u32 w g t L xs R) (ho : L.length = o) (hx : Lim B32 xs) (hxn : xs.length ≤ 100000) (hk : k < 32) :
    Calls Tryz.prog 344 #[.slice (some ⟨g, o, none⟩) xs.length cap, .int .i64 k] w fun e w' => e = .returned (.tuple #[]) ∧ (∃ cur v, At .u32 w' g t L cur R ∧ ShdR B32 (2 ^ k) xs cur 0 v) ∧ w.grownBy w' (some g) := by
  obtain ⟨P, hP⟩ : ∃ P, 2 ^ k = P := ⟨_, rfl⟩
  have hP0 : 0 < P := by rw [← hP]; exact Nat.pow_pos (by omega)
  have hPd : 4294967296 = P * 2 ^ (32 - k) := by rw [← hP, ← Nat.pow_add, show k + (32 - k) = 32 by omega]
  have hpw : (2 : Int) ^ k = (P : Int) := by rw [← hP, Int.natCast_pow]; rfl
  rw [hP]
  clear hP
  have HP := Lib.hid hPd; clear hPd
  go_enter Tryz.func344, Tryz.ntmps344
  go_wp2
  go_loopw [4, 5] (fun c i wr => ∃ (j z : Nat) (cur : List Nat), j ≤ xs.length ∧ i = .int .i64 ((j : Int) - 1) ∧ c = .int .u64 z ∧ z < 18446744073709551616 ∧ At .u32 wr g t L cur R ∧ ShdR B32 P xs cur j (z % 4294967296) ∧ w.grownBy wr (some g)) (fun _ i _ => (RowKit.intOf i + 1).toNat)
  case atStart => exact ⟨xs.length, 0, xs, Nat.le_refl _, rfl, rfl, by omega, hA, shdR_start hx, grown_refl _ _⟩
  case round =>
    obtain ⟨j, z, cur, hj, rfl, rfl, hz, hAt, hR, hG⟩ := hrel
    rcases j with _ | j
    · clear hz
      go_wp2
      go_end0
      exact ⟨rfl, ⟨cur, _, hAt, hR⟩, hG⟩
    · have hlt : j < xs.length := hj
      have hcl := hAt.cell ho j (by rw [hR.1.len]; exact hlt)
      have hfz := hAt.frozen (o + j)
      rw [down_get hR.1] at hcl
      obtain ⟨x, hxe, hxk⟩ := lim32 hx j hlt
      rw [hxe] at hcl
      obtain ⟨zl, hzl⟩ : ∃ zl, z % 4294967296 = zl := ⟨_, rfl⟩
      have hzl2 : zl < 4294967296 := by omega
      rw [hzl] at hR
      have HS := Lib.hid (shdR_step (B := 4294967296) hP0 HP.out hR hx _ rfl)
      rw [hxe] at HS
      have hor : bits .or .u64 (IntKind.u64.wrap ((z : Int) * 4294967296)) (x : Int) = (zl : Int) * 4294967296 + (x : Int) := by
        rw [IntKind.wrap_u64, show ((z : Int) * 4294967296) % 18446744073709551616 = (zl : Int) * 4294967296 by omega]
        exact or_add hzl2 hxk
      clear hxe hz hzl
      rw [show ((j + 1 : Nat) : Int) - 1 = (j : Int) by omega]
      go_wp2
      clear hor hpw
      go_roundw
      case rel => exact ⟨j, zl * 4294967296 + x, _, by omega, rfl, vint (by simp), by omega, hAt.set_ ho j (by rw [hR.1.len]; exact hlt) _ ((zl * 4294967296 + x) / P % 4294967296) (by simp), by rw [show (zl * 4294967296 + x) % 4294967296 = x by omega]; exact HS.out, grown_set hG _⟩
      case measure => simp [RowKit.intOf]
end Go.Proofs.YtbbbdcohkfijoaaGreatDoor

namespace Go.Proofs.YtbbbdcohkfijoaaGreatDoor
open Go.RowKit Go.Lib

/-- A quiet call behind draws: its own draws are added. -/
theorem quiet_more {P : Program} {f : FuncId} {args : Array Value} {w : World} {a n : Nat} {v : Value} (h : Calls P f args (w.drewN (a + n)) fun e w' => e = .returned v ∧ w' = w.drewN (a + n)) :
    Calls P f args (w.drewN (a + n)) fun e w' => e = .returned v ∧ ∃ m, w' = w.drewN (a + m) := h.mono fun _ _ hh => ⟨hh.1, n, hh.2⟩

def cmpZ (a b : Nat) : Int := if a < b then -1 else if b < a then 1 else 0
theorem cmpZ_lt {a b : Nat} (h : a < b) : cmpZ a b = -1 := by rw [cmpZ, if_pos h]
theorem cmpZ_gt {a b : Nat} (h : b < a) : cmpZ a b = 1 := by rw [cmpZ, if_neg (by omega), if_pos h]
theorem cmpZ_eq {a b : Nat} (h : a = b) : cmpZ a b = 0 := by rw [cmpZ, if_neg (by omega), if_neg (by omega)]

theorem isNaN_u32 (x : Nat) (w : World) : Calls Tryz.prog 345 #[.int .u32 x] w fun e w' => e = .returned (.bool false) ∧ w' = w := by
  have h : ((x : Int) != (x : Int)) = false := by simp
  go_enter Tryz.func345, Tryz.ntmps345
  go_wp2
  go_ret
  exact ⟨rfl, rfl⟩
theorem isNaN_int (x : Int) (w : World) : Calls Tryz.prog 264 #[.int .i64 x] w fun e w' => e = .returned (.bool false) ∧ w' = w := by
  have h : (x != x) = false := by simp
  go_enter Tryz.func264, Tryz.ntmps264
  go_wp2
  go_ret
  exact ⟨rfl, rfl⟩
set_option maxHeartbeats 1000000 in
theorem compare_u32 (x y : Nat) (w : World) : Calls Tryz.prog 316 #[.int .u32 x, .int .u32 y] w fun e w' => e = .returned (.int .i64 (cmpZ x y)) ∧ w' = w := by
  rcases Nat.lt_trichotomy x y with h | h | h
  · rw [cmpZ_lt h]
    go_enter Tryz.func316, Tryz.ntmps316
    go_wp2_with (go_at_call 345; refine (isNaN_u32 _ _).mono ?_; rintro e w' ⟨rfl, rfl⟩)
    go_ret
    exact ⟨rfl, rfl⟩
  · rw [cmpZ_eq h]
    subst h
    go_enter Tryz.func316, Tryz.ntmps316
    go_wp2_with (go_at_call 345; refine (isNaN_u32 _ _).mono ?_; rintro e w' ⟨rfl, rfl⟩)
    go_ret
    exact ⟨rfl, rfl⟩
  · rw [cmpZ_gt h]
    have h2 : ¬ x < y := by omega
    go_enter Tryz.func316, Tryz.ntmps316
    go_wp2_with (go_at_call 345; refine (isNaN_u32 _ _).mono ?_; rintro e w' ⟨rfl, rfl⟩)
    go_ret
    exact ⟨rfl, rfl⟩
set_option maxHeartbeats 1000000 in
theorem compare_int (x y : Nat) (w : World) : Calls Tryz.prog 214 #[.int .i64 x, .int .i64 y] w fun e w' => e = .returned (.int .i64 (cmpZ x y)) ∧ w' = w := by
  rcases Nat.lt_trichotomy x y with h | h | h
  · rw [cmpZ_lt h]
    go_enter Tryz.func214, Tryz.ntmps214
    go_wp2_with (go_at_call 264; refine (isNaN_int _ _).mono ?_; rintro e w' ⟨rfl, rfl⟩)
    go_ret
    exact ⟨rfl, rfl⟩
  · rw [cmpZ_eq h]
    subst h
    go_enter Tryz.func214, Tryz.ntmps214
    go_wp2_with (go_at_call 264; refine (isNaN_int _ _).mono ?_; rintro e w' ⟨rfl, rfl⟩)
    go_ret
    exact ⟨rfl, rfl⟩
  · rw [cmpZ_gt h]
    have h2 : ¬ x < y := by omega
    go_enter Tryz.func214, Tryz.ntmps214
    go_wp2_with (go_at_call 264; refine (isNaN_int _ _).mono ?_; rintro e w' ⟨rfl, rfl⟩)
    go_ret
    exact ⟨rfl, rfl⟩
end Go.Proofs.YtbbbdcohkfijoaaGreatDoor
