/- Plain: numbers of digits of any base, the lowest digit first. -/
import Derived.KernelRfl
namespace Go.Proofs.YtflnackpkcldjaaDoor

/-- The number that digits write. -/
def vl (B : Nat) : List Nat → Nat
  | [] => 0
  | x :: l => x + B * vl B l
def Lim (B : Nat) (l : List Nat) : Prop := ∀ x ∈ l, x < B
/-- No nought at the top. -/
def Top (l : List Nat) : Prop := l.getLast? ≠ some 0

theorem vl_nil (B : Nat) : vl B [] = 0 := rfl
theorem vl_cons (B x : Nat) (l : List Nat) : vl B (x :: l) = x + B * vl B l := rfl
theorem vl_append (B : Nat) (l m : List Nat) : vl B (l ++ m) = vl B l + B ^ l.length * vl B m := by
  induction l with
  | nil => simp [vl]
  | cons x l ih =>
    rw [List.cons_append, vl_cons, ih, vl_cons, List.length_cons, Nat.pow_succ, Nat.mul_add, Nat.add_assoc, Nat.mul_comm (B ^ l.length) B, Nat.mul_assoc]
theorem vl_one (B x : Nat) : vl B [x] = x := by simp [vl]
theorem vl_snoc (B : Nat) (l : List Nat) (x : Nat) : vl B (l ++ [x]) = vl B l + B ^ l.length * x := by rw [vl_append, vl_one]
theorem vl_zeros (B n : Nat) : vl B (List.replicate n 0) = 0 := by
  induction n with
  | zero => rfl
  | succ n ih => rw [List.replicate_succ, vl_cons, ih]; rfl
theorem lim_nil (B : Nat) : Lim B [] := fun _ h => by cases h
theorem lim_append {B : Nat} {l m : List Nat} : Lim B (l ++ m) ↔ Lim B l ∧ Lim B m := by
  unfold Lim
  constructor
  · exact fun h => ⟨fun x hx => h x (List.mem_append_left _ hx), fun x hx => h x (List.mem_append_right _ hx)⟩
  · rintro ⟨h1, h2⟩ x hx
    rcases List.mem_append.1 hx with h | h
    · exact h1 x h
    · exact h2 x h
theorem lim_cons {B x : Nat} {l : List Nat} : Lim B (x :: l) ↔ x < B ∧ Lim B l := by
  unfold Lim
  simp
theorem lim_one {B x : Nat} : Lim B [x] ↔ x < B := by unfold Lim; simp
theorem lim_take {B : Nat} {l : List Nat} (h : Lim B l) (k : Nat) : Lim B (l.take k) := fun x hx => h x (List.mem_of_mem_take hx)
theorem lim_drop {B : Nat} {l : List Nat} (h : Lim B l) (k : Nat) : Lim B (l.drop k) := fun x hx => h x (List.mem_of_mem_drop hx)
theorem lim_get {B : Nat} {l : List Nat} (h : Lim B l) (k : Nat) (hk : k < l.length) : l[k] < B := h _ (List.getElem_mem hk)
theorem lim_zeros {B : Nat} (hB : 0 < B) (n : Nat) : Lim B (List.replicate n 0) := fun x hx => by rw [(List.mem_replicate.1 hx).2]; exact hB
theorem vl_lt {B : Nat} {l : List Nat} (h : Lim B l) : vl B l < B ^ l.length := by
  induction l with
  | nil => simp [vl]
  | cons x l ih =>
    obtain ⟨h1, h2⟩ := lim_cons.1 h
    have := ih h2
    rw [vl_cons, List.length_cons, Nat.pow_succ, Nat.mul_comm (B ^ l.length) B]
    have h3 : B * (vl B l + 1) ≤ B * B ^ l.length := Nat.mul_le_mul_left B this
    rw [Nat.mul_add] at h3
    omega
theorem vl_take_drop (B : Nat) (l : List Nat) (k : Nat) (hk : k ≤ l.length) : vl B l = vl B (l.take k) + B ^ k * vl B (l.drop k) := by
  have := vl_append B (l.take k) (l.drop k)
  rw [List.take_append_drop, List.length_take, Nat.min_eq_left hk] at this
  exact this
theorem take_succ_get {α : Type} (l : List α) (k : Nat) (hk : k < l.length) : l.take (k + 1) = l.take k ++ [l[k]] := by
  rw [List.take_succ_eq_append_getElem hk]
theorem drop_get {α : Type} (l : List α) (k : Nat) (hk : k < l.length) : l.drop k = l[k] :: l.drop (k + 1) := (List.drop_eq_getElem_cons hk)
theorem vl_take_succ (B : Nat) (l : List Nat) (k : Nat) (hk : k < l.length) : vl B (l.take (k + 1)) = vl B (l.take k) + B ^ k * l[k] := by
  rw [take_succ_get l k hk, vl_snoc, List.length_take, Nat.min_eq_left (by omega)]

theorem top_nil : Top [] := by simp [Top]
theorem top_snoc {l : List Nat} {x : Nat} : Top (l ++ [x]) ↔ x ≠ 0 := by simp [Top]
theorem snoc_of_ne {l : List Nat} (h : l ≠ []) : ∃ m x, l = m ++ [x] := ⟨l.dropLast, l.getLast h, (List.dropLast_concat_getLast h).symm⟩
theorem vl_top {B : Nat} {l : List Nat} (ht : Top l) (h : l ≠ []) : B ^ (l.length - 1) ≤ vl B l := by
  obtain ⟨m, x, rfl⟩ := snoc_of_ne h
  have hx := top_snoc.1 ht
  rw [vl_snoc, List.length_append, List.length_singleton, Nat.add_sub_cancel]
  have : B ^ m.length * 1 ≤ B ^ m.length * x := Nat.mul_le_mul_left _ (by omega)
  omega
/-- Digits that write a number as it is written. -/
def Norm (B : Nat) (l : List Nat) : Prop := Lim B l ∧ Top l
theorem norm_len_lt {B : Nat} (hB : 0 < B) {l m : List Nat} (hl : Lim B l) (hm : Top m) (h : l.length < m.length) : vl B l < vl B m := by
  have h1 := vl_lt hl
  have h2 := vl_top (B := B) hm (by intro e; rw [e] at h; simp at h)
  have h3 : B ^ l.length ≤ B ^ (m.length - 1) := Nat.pow_le_pow_right hB (by omega)
  omega
theorem lim_unique {B : Nat} : ∀ {l m : List Nat}, Lim B l → Lim B m → l.length = m.length → vl B l = vl B m → l = m
  | [], [], _, _, _, _ => rfl
  | [], _ :: _, _, _, h, _ => by simp at h
  | _ :: _, [], _, _, h, _ => by simp at h
  | x :: l, y :: m, hl, hm, h, he => by
    obtain ⟨a1, a2⟩ := lim_cons.1 hl
    obtain ⟨b1, b2⟩ := lim_cons.1 hm
    rw [vl_cons, vl_cons] at he
    have e1 : x = y := by
      have := congrArg (· % B) he
      simpa [Nat.add_mul_mod_self_left, Nat.mod_eq_of_lt a1, Nat.mod_eq_of_lt b1] using this
    subst e1
    have e2 : vl B l = vl B m := Nat.eq_of_mul_eq_mul_left (show 0 < B by omega) (by omega)
    rw [lim_unique a2 b2 (by simpa using h) e2]
theorem norm_unique {B : Nat} (hB : 0 < B) {l m : List Nat} (hl : Norm B l) (hm : Norm B m) (he : vl B l = vl B m) : l = m := by
  rcases Nat.lt_trichotomy l.length m.length with h | h | h
  · have := norm_len_lt hB hl.1 hm.2 h; omega
  · exact lim_unique hl.1 hm.1 h he
  · have := norm_len_lt hB hm.1 hl.2 h; omega
/-- Without noughts at the top. -/
def trimL : List Nat → List Nat
  | [] => []
  | x :: l => if trimL l = [] then (if x = 0 then [] else [x]) else x :: trimL l
theorem trimL_top : ∀ l, Top (trimL l)
  | [] => top_nil
  | x :: l => by
    unfold trimL
    split
    · split
      · exact top_nil
      · rename_i h; exact top_snoc (l := []).2 h
    · rename_i h
      have := trimL_top l
      obtain ⟨m, y, e⟩ := snoc_of_ne h
      rw [e] at this ⊢
      exact (top_snoc (l := x :: m)).2 (top_snoc.1 this)
theorem trimL_vl (B : Nat) : ∀ l, vl B (trimL l) = vl B l
  | [] => rfl
  | x :: l => by
    have ih := trimL_vl B l
    unfold trimL
    split
    · rename_i h
      rw [h, vl_nil] at ih
      rw [vl_cons, ← ih]
      split
      · rename_i h2; rw [h2]; rfl
      · simp [vl]
    · rw [vl_cons, vl_cons, ih]
theorem trimL_lim {B : Nat} : ∀ {l : List Nat}, Lim B l → Lim B (trimL l)
  | [], _ => lim_nil B
  | x :: l, h => by
    obtain ⟨h1, h2⟩ := lim_cons.1 h
    unfold trimL
    split
    · split
      · exact lim_nil B
      · exact lim_one.2 h1
    · exact lim_cons.2 ⟨h1, trimL_lim h2⟩
/-- The digits of a number: n of them, and noughts at the top taken away. -/
def digs (B : Nat) : Nat → Nat → List Nat
  | 0, _ => []
  | k + 1, n => n % B :: digs B k (n / B)
theorem digs_lim {B : Nat} (hB : 0 < B) : ∀ k n, Lim B (digs B k n)
  | 0, _ => lim_nil B
  | k + 1, _ => lim_cons.2 ⟨Nat.mod_lt _ hB, digs_lim hB k _⟩
theorem digs_vl {B : Nat} : ∀ k n, n < B ^ k → vl B (digs B k n) = n
  | 0, _, h => by simp at h; rw [h]; rfl
  | k + 1, n, h => by
    rw [digs, vl_cons, digs_vl k _ (Nat.div_lt_of_lt_mul (by rw [Nat.pow_succ, Nat.mul_comm] at h; exact h))]
    exact Nat.mod_add_div n B
theorem lt_pow_self' {B : Nat} (hB : 2 ≤ B) (n : Nat) : n < B ^ n := by
  exact Nat.lt_pow_self (by omega)
def dig (B n : Nat) : List Nat := trimL (digs B n n)
theorem dig_vl {B : Nat} (hB : 2 ≤ B) (n : Nat) : vl B (dig B n) = n := by rw [dig, trimL_vl, digs_vl _ _ (lt_pow_self' hB n)]
theorem dig_norm {B : Nat} (hB : 2 ≤ B) (n : Nat) : Norm B (dig B n) := ⟨trimL_lim (digs_lim (by omega) _ _), trimL_top _⟩
theorem dig_eq {B : Nat} (hB : 2 ≤ B) {l : List Nat} {n : Nat} (h : Norm B l) (hv : vl B l = n) : dig B n = l :=
  norm_unique (by omega) (dig_norm hB n) h (by rw [dig_vl hB, hv])
theorem dig_zero (B : Nat) : dig B 0 = [] := rfl
theorem dig_nil {B n : Nat} (hB : 2 ≤ B) (h : dig B n = []) : n = 0 := by rw [← dig_vl hB n, h]; rfl
/-- How the loop that takes noughts away ends. -/
theorem trim_take {B : Nat} (hB : 2 ≤ B) {l : List Nat} {n : Nat} (hl : Lim B l) (hn : n ≤ l.length) (h0 : ∀ j (_ : n ≤ j) (hj : j < l.length), l[j] = 0) (ht : n = 0 ∨ ∃ h : n - 1 < l.length, l[n - 1] ≠ 0) : dig B (vl B l) = l.take n ∧ (dig B (vl B l)).length = n := by
  have hd : l.drop n = List.replicate (l.length - n) 0 := by
    apply List.ext_getElem
    · simp
    · intro i h1 h2
      rw [List.getElem_drop, List.getElem_replicate]
      exact h0 _ (by omega) (by simp at h1; omega)
  have hv : vl B (l.take n) = vl B l := by
    rw [vl_take_drop B l n hn, hd, vl_zeros]; simp
  have e : dig B (vl B l) = l.take n := by
    refine dig_eq hB ⟨lim_take hl n, ?_⟩ hv
    rcases ht with rfl | ⟨h, ht⟩
    · exact top_nil
    · by_cases hz : n = 0
      · subst hz; exact top_nil
      · have := take_succ_get l (n - 1) h
        rw [show n - 1 + 1 = n by omega] at this
        rw [this]
        exact top_snoc.2 ht
  refine ⟨e, ?_⟩
  rw [e, List.length_take]; omega
/-- Comparison from the top: same above, less at one place. -/
theorem vl_cmp_at {B : Nat} {l m : List Nat} {k : Nat} (hl : Lim B l) (he : l.length = m.length) (hk : k < l.length) (ha : l.drop (k + 1) = m.drop (k + 1)) (hx : l[k] < m[k]'(by omega)) : vl B l < vl B m := by
  rw [vl_take_drop B l k (by omega), vl_take_drop B m k (by omega), drop_get l k hk, drop_get m k (by omega), vl_cons, vl_cons, ha]
  have h1 := vl_lt (lim_take hl k)
  rw [List.length_take, Nat.min_eq_left (by omega)] at h1
  generalize vl B (m.drop (k + 1)) = t
  generalize l[k] = x at hx ⊢
  generalize (m[k]'(by omega)) = y at hx ⊢
  have h2 : B ^ k * (x + B * t + 1) ≤ B ^ k * (y + B * t) := Nat.mul_le_mul_left _ (by omega)
  rw [Nat.mul_add _ _ 1] at h2
  omega
/-- Which lists are numbers: as long as the number is small. -/
theorem dig_len_le {B : Nat} (hB : 2 ≤ B) (n k : Nat) : (dig B n).length ≤ k ↔ n < B ^ k := by
  constructor
  · intro h
    have h1 := vl_lt (dig_norm hB n).1
    rw [dig_vl hB] at h1
    exact Nat.lt_of_lt_of_le h1 (Nat.pow_le_pow_right (by omega) h)
  · intro h
    rcases Nat.lt_or_ge k (dig B n).length with h1 | h1
    · have h2 := vl_top (B := B) (dig_norm hB n).2 (by intro e; rw [e] at h1; simp at h1)
      rw [dig_vl hB] at h2
      have h3 : B ^ k ≤ B ^ ((dig B n).length - 1) := Nat.pow_le_pow_right (by omega) (by omega)
      omega
    · exact h1
end Go.Proofs.YtflnackpkcldjaaDoor
