/- Plain: the guess of a limb of the quotient, and a round of the long division. -/
import Derived.Test.YtflnackpkcldjaaDoorNatK
namespace Go.Proofs.YtflnackpkcldjaaDoor

theorem le_div' {D q N : Nat} (h : q * D ≤ N) (hD : 0 < D) : q ≤ N / D := (Nat.le_div_iff_mul_le hD).2 h
theorem div_lt' {D q N : Nat} (h : N < q * D) (hD : 0 < D) : N / D < q := (Nat.div_lt_iff_lt_mul hD).2 h
theorem div_mul_le' (N D : Nat) : N / D * D ≤ N := Nat.div_mul_le_self N D
theorem lt_div_succ (N D : Nat) (hD : 0 < D) : N < (N / D + 1) * D := by
  have := Nat.div_add_mod N D
  have h2 := Nat.mod_lt N hD
  rw [Nat.add_mul, Nat.one_mul, Nat.mul_comm]
  omega

/-- All that is known of the numbers that are guessed by: the divisor's two top limbs, the dividend's three. -/
structure GuessOk (B P Dl v1 v0 Nl u2 u1 u0 : Nat) : Prop where
  hP : 0 < P
  hDl : Dl < P
  hNl : Nl < P
  hv0 : v0 < B
  hv1 : v1 < B
  hu0 : u0 < B
  htop : B ≤ 2 * v1
  hB2 : 2 ≤ B
  hless : Nl + P * (u0 + B * (u1 + B * u2)) < B * (Dl + P * (v0 + B * v1))
section
variable {B P Dl v1 v0 Nl u2 u1 u0 : Nat} (h : GuessOk B P Dl v1 v0 Nl u2 u1 u0)
include h
theorem guess_W : u1 + B * u2 < B * v1 + B := by
  have h1 : P * (B * (u1 + B * u2)) < P * (B * (v0 + B * v1 + 1)) := by
    have a := h.hless
    have b : B * Dl + B ≤ B * P := by rw [← Nat.mul_succ]; exact Nat.mul_le_mul_left _ h.hDl
    have c : P * (B * (v0 + B * v1 + 1)) = B * (P * (v0 + B * v1)) + B * P := by
      rw [Nat.mul_left_comm, Nat.mul_add, Nat.mul_one, Nat.mul_add]
    rw [Nat.mul_add P u0, Nat.mul_add B Dl] at a
    rw [c]
    omega
  have h2 := Nat.lt_of_mul_lt_mul_left (Nat.lt_of_mul_lt_mul_left h1)
  have := h.hv0
  omega
theorem guess_q : (Nl + P * (u0 + B * (u1 + B * u2))) / (Dl + P * (v0 + B * v1)) < B := by
  apply div_lt' h.hless
  have h1 := h.hP
  have h2 := h.htop
  have h3 := h.hB2
  have : 0 < P * (v0 + B * v1) := Nat.mul_pos h1 (by have : 0 < B * v1 := Nat.mul_pos (by omega) (by omega); omega)
  omega
theorem guess_D : B * P ≤ Dl + P * (v0 + B * v1) := by
  have h2 := h.htop
  have h3 := h.hB2
  have : B * 1 ≤ B * v1 := Nat.mul_le_mul_left _ (by omega)
  have : P * B ≤ P * (v0 + B * v1) := Nat.mul_le_mul_left _ (by omega)
  rw [Nat.mul_comm B P]
  omega
theorem guess_Dpos : 0 < Dl + P * (v0 + B * v1) := by
  have := guess_D h
  have : 0 < B * P := Nat.mul_pos (by have := h.hB2; omega) h.hP
  omega
theorem guess_start : (Nl + P * (u0 + B * (u1 + B * u2))) / (Dl + P * (v0 + B * v1)) ≤ (u1 + B * u2) / v1 := by
  have hv : 0 < v1 := by have := h.htop; have := h.hB2; omega
  have hq := div_mul_le' (Nl + P * (u0 + B * (u1 + B * u2))) (Dl + P * (v0 + B * v1))
  generalize (Nl + P * (u0 + B * (u1 + B * u2))) / (Dl + P * (v0 + B * v1)) = q at *
  apply le_div' _ hv
  have h1 : P * (B * (q * v1)) < P * (B * (u1 + B * u2 + 1)) := by
    have e1 : P * (B * (q * v1)) ≤ q * (Dl + P * (v0 + B * v1)) := by
      have : P * (B * (q * v1)) = q * (P * (B * v1)) := by simp only [Nat.mul_left_comm, Nat.mul_comm]
      rw [this]
      exact Nat.mul_le_mul_left _ (by rw [Nat.mul_add]; omega)
    have e2 : Nl + P * (u0 + B * (u1 + B * u2)) < P * (B * (u1 + B * u2 + 1)) := by
      have a := h.hNl
      have : P * (u0 + B * (u1 + B * u2) + 1) ≤ P * (B * (u1 + B * u2 + 1)) := Nat.mul_le_mul_left _ (by rw [Nat.mul_add B _ 1]; have := h.hu0; omega)
      rw [Nat.mul_add P _ 1] at this
      omega
    omega
  have := Nat.lt_of_mul_lt_mul_left (Nat.lt_of_mul_lt_mul_left h1)
  omega
omit h in
theorem guess_prod {t left : Nat} (hW : t * v1 + left = u1 + B * u2) : t * (v0 + B * v1) + (u0 + left * B) = u0 + B * (u1 + B * u2) + t * v0 := by
  rw [← hW]
  simp only [Nat.mul_add, Nat.mul_comm, Nat.mul_left_comm]
  omega
theorem guess_down {t left : Nat} (hW : t * v1 + left = u1 + B * u2) (hc : B ≤ t ∨ left * B + u0 < t * v0) : (Nl + P * (u0 + B * (u1 + B * u2))) / (Dl + P * (v0 + B * v1)) < t := by
  rcases hc with hc | hc
  · have := guess_q h; omega
  · have hp := guess_prod (v0 := v0) (u0 := u0) hW
    apply div_lt' _ (guess_Dpos h)
    have e1 : P * (u0 + B * (u1 + B * u2) + 1) ≤ P * (t * (v0 + B * v1)) := Nat.mul_le_mul_left _ (by omega)
    have e2 : t * (Dl + P * (v0 + B * v1)) = t * Dl + P * (t * (v0 + B * v1)) := by rw [Nat.mul_add, Nat.mul_left_comm]
    rw [e2]
    rw [Nat.mul_add P _ 1] at e1
    have := h.hNl
    omega
theorem guess_end {t left : Nat} (hW : t * v1 + left = u1 + B * u2) (ht : t < B) (hc : t * v0 ≤ left * B + u0) : t ≤ (Nl + P * (u0 + B * (u1 + B * u2))) / (Dl + P * (v0 + B * v1)) + 1 := by
  have hp := guess_prod (v0 := v0) (u0 := u0) hW
  have hD := guess_D h
  have hlt := lt_div_succ (Nl + P * (u0 + B * (u1 + B * u2))) (Dl + P * (v0 + B * v1)) (guess_Dpos h)
  have e2 : t * (Dl + P * (v0 + B * v1)) = t * Dl + P * (t * (v0 + B * v1)) := by rw [Nat.mul_add, Nat.mul_left_comm]
  have e3 : P * (t * (v0 + B * v1)) ≤ P * (u0 + B * (u1 + B * u2)) := Nat.mul_le_mul_left _ (by omega)
  have e4 : t * Dl ≤ B * P := Nat.mul_le_mul (by omega) (by have := h.hDl; omega)
  generalize hq : (Nl + P * (u0 + B * (u1 + B * u2))) / (Dl + P * (v0 + B * v1)) = q at *
  generalize Dl + P * (v0 + B * v1) = D at *
  have e5 : t * D ≤ Nl + P * (u0 + B * (u1 + B * u2)) + D := by omega
  rcases Nat.lt_or_ge (q + 1) t with h1 | h1
  · have h2 : (q + 2) * D ≤ t * D := Nat.mul_le_mul_right _ h1
    rw [Nat.add_mul] at h2 hlt
    omega
  · exact h1
/-- The sum of what is left has a limb more: it is the end. -/
theorem guess_break {t left : Nat} (hW : t * v1 + left = u1 + B * u2) (hl : B ≤ left) : t < B ∧ t * v0 ≤ left * B + u0 := by
  have h1 := guess_W h
  have ht : t < B := by
    have : t * v1 < B * v1 := by omega
    exact Nat.lt_of_mul_lt_mul_right this
  refine ⟨ht, ?_⟩
  have a : t * v0 ≤ B * B := Nat.mul_le_mul (by omega) (by have := h.hv0; omega)
  have b : B * B ≤ left * B := Nat.mul_le_mul_right _ hl
  omega
theorem guess_max {t left : Nat} (hW : t * v1 + left = u1 + B * u2) : t < B + 2 := by
  have h1 := guess_W h
  have h2 := h.htop
  have : t * v1 < (B + 2) * v1 := by rw [Nat.add_mul]; omega
  exact Nat.lt_of_mul_lt_mul_right this
end

/-- What is left of the dividend in cur, the quotient's limbs from i on in qs. -/
structure Long (B D A : Nat) (cur qs : List Nat) (i : Nat) : Prop where
  lim : Lim B cur
  qlim : Lim B qs
  less : vl B (cur.drop i) < D
  eq : A = vl B cur + B ^ i * (D * vl B (qs.drop i))
section
variable {B D A : Nat} {cur qs : List Nat} {i n : Nat}
theorem zeros_above (h : vl B (cur.drop i) < D) (hD : D < B ^ n) (hi : i + n ≤ cur.length) : vl B (cur.drop (i + n)) = 0 := by
  have h1 := vl_take_drop B (cur.drop i) n (by rw [List.length_drop]; omega)
  rw [List.drop_drop] at h1
  rcases Nat.eq_zero_or_pos (vl B (cur.drop (i + n))) with h0 | h0
  · exact h0
  · have : B ^ n * 1 ≤ B ^ n * vl B (cur.drop (i + n)) := Nat.mul_le_mul_left _ h0
    omega
/-- The part that a round divides. -/
theorem long_part (h : Long B D A cur qs (i + 1)) (hD : D < B ^ n) (hi : i + 1 + n ≤ cur.length) : vl B ((cur.drop i).take (n + 1)) = vl B (cur.drop i) ∧ vl B (cur.drop i) < B * D := by
  have hz := zeros_above h.less hD hi
  have h1 := vl_take_drop B (cur.drop i) (n + 1) (by rw [List.length_drop]; omega)
  rw [List.drop_drop, show i + (n + 1) = i + 1 + n by omega, hz] at h1
  refine ⟨by rw [h1]; simp, ?_⟩
  rw [drop_get cur i (by omega), vl_cons]
  have h2 := lim_get h.lim i (by omega)
  have h3 := h.less
  have : B * (vl B (cur.drop (i + 1)) + 1) ≤ B * D := Nat.mul_le_mul_left _ h3
  rw [Nat.mul_add] at this
  omega
theorem long_step (h : Long B D A cur qs (i + 1)) (hD : D < B ^ n) (hD0 : 0 < D) (hi : i + 1 + n ≤ cur.length) (hq : i < qs.length) {part : List Nat} (hp : part.length = n + 1) (hpl : Lim B part)
    (hv : vl B part = vl B (cur.drop i) % D) : Long B D A (cur.take i ++ part ++ cur.drop (i + 1 + n)) (qs.set i (vl B (cur.drop i) / D)) i ∧ vl B (cur.drop i) / D < B := by
  have hz := zeros_above h.less hD hi
  obtain ⟨_, hpB⟩ := long_part h hD hi
  have hqB : vl B (cur.drop i) / D < B := div_lt' hpB hD0
  have hlt : (cur.take i).length = i := by rw [List.length_take]; omega
  refine ⟨⟨?_, lim_set h.qlim hqB, ?_, ?_⟩, hqB⟩
  · exact lim_append.2 ⟨lim_append.2 ⟨lim_take h.lim _, hpl⟩, lim_drop h.lim _⟩
  · rw [List.append_assoc, List.drop_append_of_le_length (by omega), List.drop_of_length_le (by omega), List.nil_append, vl_append, hz, hv]
    simpa using Nat.mod_lt _ hD0
  · rw [h.eq, drop_set_same hq, vl_cons, vl_append, hz, vl_append, hlt, hv, vl_take_drop B cur i (by omega), Nat.pow_succ]
    have e := congrArg (B ^ i * ·) (Nat.mod_add_div (vl B (cur.drop i)) D)
    simp only [Nat.mul_add, ← Nat.mul_assoc, Nat.mul_zero, Nat.add_zero] at e ⊢
    rw [Nat.mul_right_comm (B ^ i) B D]
    omega
end
/-- What takeFrom, and addTo behind it, leave of the part. -/
theorem take_no {N D t x : Nat} (h : x + t * D = N) (ht : N / D ≤ t) (ht2 : t ≤ N / D + 1) (hD : 0 < D) : x = N % D ∧ t = N / D := by
  have h1 := Nat.div_add_mod N D
  have h2 := Nat.mod_lt N hD
  rcases Nat.lt_or_ge (N / D) t with h3 | h3
  · have : t = N / D + 1 := by omega
    subst this
    rw [Nat.add_mul, Nat.one_mul, Nat.mul_comm] at h
    omega
  · have : t = N / D := by omega
    subst this
    rw [Nat.mul_comm] at h
    exact ⟨by omega, rfl⟩
theorem take_yes {M N D t x y c : Nat} (h : x + t * D = N + M) (h2 : y + M * c = x + D) (hx : x < M) (hy : y < M) (hc : c ≤ 1) (ht : N / D ≤ t) (ht2 : t ≤ N / D + 1) (hD : 0 < D) : y = N % D ∧ t - 1 = N / D ∧ 0 < t := by
  have h1 := Nat.div_add_mod N D
  have h3 := Nat.mod_lt N hD
  generalize N / D = q at *
  generalize N % D = r at *
  have ht3 : t = q + 1 := by
    rcases Nat.lt_or_ge q t with h4 | h4
    · omega
    · have : t = q := by omega
      subst this
      rw [Nat.mul_comm] at h
      omega
  subst ht3
  rw [Nat.add_mul, Nat.one_mul, Nat.mul_comm] at h
  have hc1 : c = 1 := by
    rcases Nat.eq_zero_or_pos c with h4 | h4
    · subst h4; rw [Nat.mul_zero] at h2; omega
    · omega
  subst hc1
  rw [Nat.mul_one] at h2
  exact ⟨by omega, by omega, by omega⟩
/-- The rest of the scaled division is the scaled rest. -/
theorem unscale {a b S r q : Nat} (hS : 0 < S) (h : a * S = r + b * S * q) (hr : r < b * S) : r / S = a % b ∧ q = a / b := by
  have hb : 0 < b := by
    rcases Nat.eq_zero_or_pos b with h0 | h0
    · subst h0; simp at hr
    · exact h0
  have e : r = S * (a - b * q) := by
    rw [Nat.mul_sub, Nat.mul_comm S a, h, ← Nat.mul_assoc, Nat.mul_comm S b]; omega
  have e2 : r / S = a - b * q := by rw [e, Nat.mul_div_cancel_left _ hS]
  have hlt : a - b * q < b := by
    rw [e, Nat.mul_comm b S] at hr
    exact Nat.lt_of_mul_lt_mul_left hr
  have hle : b * q ≤ a := by
    have : S * (b * q) ≤ S * a := by
      rw [Nat.mul_comm S a, h, ← Nat.mul_assoc, Nat.mul_comm S b]; omega
    exact Nat.le_of_mul_le_mul_left this hS
  have hq : a / b = q := Nat.div_eq_of_lt_le (by rw [Nat.mul_comm]; exact hle) (by rw [Nat.add_mul, Nat.one_mul, Nat.mul_comm q]; omega)
  refine ⟨?_, hq.symm⟩
  have := Nat.div_add_mod a b
  rw [hq] at this
  omega
end Go.Proofs.YtflnackpkcldjaaDoor
