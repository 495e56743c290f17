/- Plain: one step of each loop over limbs. -/
import Derived.Test.YtflnackpkcldjaaDoorNatM
namespace Go.Proofs.YtflnackpkcldjaaDoor

theorem take_set_succ {l : List Nat} {k y : Nat} (hk : k < l.length) : (l.set k y).take (k + 1) = l.take k ++ [y] := by
  rw [take_succ_get _ k (by simpa using hk), List.getElem_set_self, List.take_set_of_le (Nat.le_refl _)]
theorem drop_set_same {l : List Nat} {k y : Nat} (hk : k < l.length) : (l.set k y).drop k = y :: l.drop (k + 1) := by
  rw [drop_get _ k (by simpa using hk), List.getElem_set_self, List.drop_set_of_lt (by omega)]
theorem drop_set_succ {l : List Nat} {k y : Nat} : (l.set k y).drop (k + 1) = l.drop (k + 1) := List.drop_set_of_lt (by omega)
theorem take_set_same {l : List Nat} {k y : Nat} : (l.set k y).take k = l.take k := List.take_set_of_le (Nat.le_refl _)
theorem lim_set {B : Nat} {l : List Nat} {k y : Nat} (h : Lim B l) (hy : y < B) : Lim B (l.set k y) := fun x hx => by
  rcases List.mem_or_eq_of_mem_set hx with h1 | h1
  · exact h x h1
  · omega
theorem vl_set (B : Nat) : ∀ (l : List Nat) (k y : Nat) (hk : k < l.length), vl B (l.set k y) + B ^ k * l[k] = vl B l + B ^ k * y
  | x :: l, 0, y, _ => by simp [vl]; omega
  | x :: l, k + 1, y, hk => by
    have ih := vl_set B l k y (by simpa using hk)
    have := congrArg (B * ·) ih
    simp only [Nat.mul_add] at this
    simp only [List.set_cons_succ, vl_cons, List.getElem_cons_succ, Nat.pow_succ, Nat.mul_comm (B ^ k) B, Nat.mul_assoc]
    omega
/-- The digit at a place, 0 behind the end. -/
theorem vl_take_get (B : Nat) (l : List Nat) (k : Nat) : vl B (l.take (k + 1)) = vl B (l.take k) + B ^ k * l.getD k 0 := by
  by_cases hk : k < l.length
  · rw [vl_take_succ B l k hk, List.getD_eq_getElem?_getD, List.getElem?_eq_getElem hk]; rfl
  · rw [List.take_of_length_le (by omega), List.take_of_length_le (by omega), List.getD_eq_getElem?_getD, List.getElem?_eq_none (by omega)]; simp
theorem vl_take_all {B : Nat} {l : List Nat} {k : Nat} (h : l.length ≤ k) : vl B (l.take k) = vl B l := by rw [List.take_of_length_le h]
theorem getD_of {l : List Nat} {k : Nat} (hk : k < l.length) : l.getD k 0 = l[k] := by rw [List.getD_eq_getElem?_getD, List.getElem?_eq_getElem hk]; rfl
theorem getD_no {l : List Nat} {k : Nat} (hk : ¬ k < l.length) : l.getD k 0 = 0 := by rw [List.getD_eq_getElem?_getD, List.getElem?_eq_none (by omega)]; rfl
theorem getD_lt {B : Nat} {l : List Nat} (h : Lim B l) (hB : 0 < B) (k : Nat) : l.getD k 0 < B := by
  by_cases hk : k < l.length
  · rw [getD_of hk]; exact lim_get h k hk
  · rw [getD_no hk]; exact hB

/-- One digit: what is put down and what is carried. -/
theorem digit_step {B P z : Nat} : P * z = P * (z % B) + P * B * (z / B) := by
  have := Nat.mod_add_div z B
  have h2 := congrArg (P * ·) this
  simp only [Nat.mul_add, ← Nat.mul_assoc] at h2
  exact h2.symm

/-- The state of a loop that goes up over xs and has put cur in its place: below k done. -/
structure Up (B : Nat) (xs cur : List Nat) (k : Nat) : Prop where
  len : cur.length = xs.length
  lim : Lim B cur
  rest : cur.drop k = xs.drop k
  le : k ≤ xs.length
theorem up_start {B : Nat} {xs : List Nat} (h : Lim B xs) : Up B xs xs 0 := ⟨rfl, h, rfl, Nat.zero_le _⟩
theorem up_get {B : Nat} {xs cur : List Nat} {k : Nat} (h : Up B xs cur k) (hk : k < xs.length) : cur[k]'(by rw [h.len]; exact hk) = xs[k] := by
  have h3 := h.rest
  rw [drop_get cur k (by rw [h.len]; exact hk), drop_get xs k hk] at h3
  exact (List.cons.inj h3).1
theorem up_step {B : Nat} {xs cur : List Nat} {k y : Nat} (h : Up B xs cur k) (hk : k < xs.length) (hy : y < B) : Up B xs (cur.set k y) (k + 1) := by
  refine ⟨by rw [List.length_set, h.len], lim_set h.lim hy, ?_, hk⟩
  have h3 := h.rest
  rw [drop_get cur k (by rw [h.len]; exact hk), drop_get xs k hk] at h3
  rw [drop_set_succ, (List.cons.inj h3).2]
theorem up_vl {B : Nat} {xs cur : List Nat} {k y : Nat} (h : Up B xs cur k) (hk : k < xs.length) : vl B ((cur.set k y).take (k + 1)) = vl B (cur.take k) + B ^ k * y := by
  have hc := h.len
  rw [take_set_succ (by omega), vl_snoc, List.length_take, Nat.min_eq_left (by omega)]

/-- addTo: the carry c ahead of place k. -/
def AddR (B : Nat) (xs bs cur : List Nat) (k c : Nat) : Prop := Up B xs cur k ∧ vl B (cur.take k) + B ^ k * c = vl B (xs.take k) + vl B (bs.take k) ∧ c ≤ 1
theorem addR_start {B : Nat} {xs bs : List Nat} (h : Lim B xs) : AddR B xs bs xs 0 0 := ⟨up_start h, by simp [vl], by omega⟩
theorem addR_step {B : Nat} (hB : 2 ≤ B) {xs bs cur : List Nat} {k c : Nat} (h : AddR B xs bs cur k c) (hx : Lim B xs) (hb : Lim B bs) (hk : k < xs.length) (z : Nat) (hz : z = c + xs[k] + bs.getD k 0) : AddR B xs bs (cur.set k (z % B)) (k + 1) (z / B) := by
  obtain ⟨h1, h2, h3⟩ := h
  have b1 := lim_get hx k hk
  have b2 := getD_lt hb (by omega) k
  refine ⟨up_step h1 hk (Nat.mod_lt _ (by omega)), ?_, ?_⟩
  · rw [up_vl h1 hk, vl_take_succ B xs k hk, vl_take_get B bs k, Nat.pow_succ]
    have hd := digit_step (B := B) (P := B ^ k) (z := z)
    have e1 := congrArg (B ^ k * ·) hz
    simp only [Nat.mul_add] at hd e1 h2 ⊢
    omega
  · have : z < B * 2 := by omega
    have := Nat.div_lt_of_lt_mul this
    omega

/-- takeFrom: what is carried of the product, and what was borrowed. -/
def TakeR (B t : Nat) (xs bs cur : List Nat) (k m r : Nat) : Prop := Up B xs cur k ∧ vl B (cur.take k) + t * vl B (bs.take k) = vl B (xs.take k) + B ^ k * (m + r) ∧ r ≤ 1 ∧ (m = 0 ∨ m < t) ∧ (bs.length < k → t ≤ B → m = 0)
theorem takeR_start {B t : Nat} {xs bs : List Nat} (h : Lim B xs) : TakeR B t xs bs xs 0 0 0 := ⟨up_start h, by simp [vl], by omega, .inl rfl, fun _ _ => rfl⟩
theorem takeR_step {B t : Nat} (hB : 2 ≤ B) {xs bs cur : List Nat} {k m r : Nat} (h : TakeR B t xs bs cur k m r) (hb : Lim B bs) (hk : k < xs.length) (z y r' : Nat) (hz : z = m + t * bs.getD k 0)
    (hy : y + z % B + r = xs[k] + B * r') (hy2 : y < B) (hr : r' ≤ 1) : TakeR B t xs bs (cur.set k y) (k + 1) (z / B) r' := by
  obtain ⟨h1, h2, h3, h4, _⟩ := h
  have b2 := getD_lt hb (by omega) k
  refine ⟨up_step h1 hk hy2, ?_, hr, ?_, fun hl ht => ?_⟩
  · rw [up_vl h1 hk, vl_take_succ B xs k hk, vl_take_get B bs k, Nat.pow_succ]
    have hd := digit_step (B := B) (P := B ^ k) (z := z)
    have e1 := congrArg (B ^ k * ·) hz
    have e2 := congrArg (B ^ k * ·) hy
    simp only [Nat.mul_add, ← Nat.mul_assoc] at hd e1 e2 h2 ⊢
    rw [Nat.mul_comm t (B ^ k)]
    omega
  · rcases Nat.eq_zero_or_pos t with ht | ht
    · left
      subst ht
      obtain rfl : m = 0 := by omega
      rw [hz]; simp
    · right
      apply Nat.div_lt_of_lt_mul
      have : t * bs.getD k 0 ≤ t * (B - 1) := Nat.mul_le_mul_left _ (by omega)
      rw [Nat.mul_sub, Nat.mul_one, Nat.mul_comm t B] at this
      have : t ≤ B * t := Nat.le_mul_of_pos_left t (by omega)
      omega
  · rw [hz, getD_no (by omega), Nat.mul_zero, Nat.add_zero]
    exact Nat.div_eq_of_lt (by omega)

/-- mulAdd. -/
def MulR (B t more : Nat) (xs cur : List Nat) (k c : Nat) : Prop := Up B xs cur k ∧ vl B (cur.take k) + B ^ k * c = vl B (xs.take k) * t + more ∧ c < B
theorem mulR_start {B t more : Nat} {xs : List Nat} (h : Lim B xs) (hm : more < B) : MulR B t more xs xs 0 more := ⟨up_start h, by simp [vl], hm⟩
theorem mulR_step {B t more : Nat} {xs cur : List Nat} {k c : Nat} (h : MulR B t more xs cur k c) (ht : t < B) (hx : Lim B xs) (hk : k < xs.length) (z : Nat) (hz : z = c + xs[k] * t) : MulR B t more xs (cur.set k (z % B)) (k + 1) (z / B) := by
  obtain ⟨h1, h2, h3⟩ := h
  have b1 := lim_get hx k hk
  have hzb : z < B * B := by
    have h5 : (xs[k] + 1) * (t + 1) ≤ B * B := Nat.mul_le_mul b1 ht
    simp only [Nat.add_mul, Nat.mul_add, Nat.mul_one, Nat.one_mul] at h5
    have h6 : xs[k] * t + xs[k] + t + 1 ≤ B * B := by omega
    rcases Nat.eq_zero_or_pos (xs[k] * t) with h7 | h7
    · have : B ≤ B * B := Nat.le_mul_of_pos_left B (by omega)
      omega
    · have h8 : (B - 1) * (B - 1) + B ≤ B * B := by
        obtain ⟨b, rfl⟩ : ∃ b, B = b + 1 := ⟨B - 1, by omega⟩
        simp only [Nat.add_sub_cancel, Nat.add_mul, Nat.mul_add, Nat.mul_one, Nat.one_mul]
        omega
      have h9 : xs[k] * t ≤ (B - 1) * (B - 1) := Nat.mul_le_mul (by omega) (by omega)
      omega
  refine ⟨up_step h1 hk (Nat.mod_lt _ (by omega)), ?_, Nat.div_lt_of_lt_mul hzb⟩
  rw [up_vl h1 hk, vl_take_succ B xs k hk, Nat.pow_succ]
  have hd := digit_step (B := B) (P := B ^ k) (z := z)
  have e1 := congrArg (B ^ k * ·) hz
  simp only [Nat.mul_add, ← Nat.mul_assoc] at hd e1 h2 ⊢
  rw [Nat.add_mul]
  omega

/-- The state of a loop that goes down: from i on done. -/
structure Down (B : Nat) (xs cur : List Nat) (i : Nat) : Prop where
  len : cur.length = xs.length
  lim : Lim B cur
  rest : cur.take i = xs.take i
  le : i ≤ xs.length
theorem down_start {B : Nat} {xs : List Nat} (h : Lim B xs) : Down B xs xs xs.length := ⟨rfl, h, rfl, Nat.le_refl _⟩
theorem down_get {B : Nat} {xs cur : List Nat} {i : Nat} (h : Down B xs cur (i + 1)) : cur[i]'(by have := h.len; have := h.le; omega) = xs[i]'h.le := by
  have h3 := h.rest
  rw [take_succ_get cur i (by have := h.len; have := h.le; omega), take_succ_get xs i h.le] at h3
  exact List.singleton_inj.1 (List.append_inj' h3 rfl).2
theorem down_step {B : Nat} {xs cur : List Nat} {i y : Nat} (h : Down B xs cur (i + 1)) (hy : y < B) : Down B xs (cur.set i y) i := by
  refine ⟨by rw [List.length_set, h.len], lim_set h.lim hy, ?_, by have := h.le; omega⟩
  have h3 := congrArg (List.take i) h.rest
  rw [List.take_take, List.take_take, Nat.min_eq_left (by omega)] at h3
  rw [take_set_same, h3]
theorem down_vl {B : Nat} {xs cur : List Nat} {i y : Nat} (h : Down B xs cur (i + 1)) : vl B ((cur.set i y).drop i) = y + B * vl B (cur.drop (i + 1)) := by
  rw [drop_set_same (by have := h.len; have := h.le; omega), vl_cons]
/-- divLimb: what is left ahead of place i. -/
def DivR (B d : Nat) (xs cur : List Nat) (i left : Nat) : Prop := Down B xs cur i ∧ vl B (xs.drop i) = d * vl B (cur.drop i) + left ∧ left < d
theorem divR_start {B d : Nat} {xs : List Nat} (h : Lim B xs) (hd : 0 < d) : DivR B d xs xs xs.length 0 := ⟨down_start h, by simp [vl], hd⟩
theorem divR_step {B d : Nat} {xs cur : List Nat} {i left : Nat} (h : DivR B d xs cur (i + 1) left) (hx : Lim B xs) (z : Nat) (hz : z = left * B + xs[i]'h.1.le) : DivR B d xs (cur.set i (z / d)) i (z % d) ∧ z / d < B := by
  obtain ⟨h1, h2, h3⟩ := h
  have hi := h1.le
  have b1 := lim_get hx i hi
  have hq : z / d < B := by
    apply Nat.div_lt_of_lt_mul
    have : (left + 1) * B ≤ d * B := Nat.mul_le_mul_right _ h3
    rw [Nat.add_mul, Nat.one_mul] at this
    omega
  refine ⟨⟨down_step h1 hq, ?_, Nat.mod_lt _ (by omega)⟩, hq⟩
  rw [down_vl h1, drop_get xs i hi, vl_cons, h2]
  have := Nat.div_add_mod z d
  simp only [Nat.mul_add, ← Nat.mul_assoc, Nat.mul_comm B d, Nat.mul_comm left B] at *
  omega
/-- shiftDown by D (a power of two that divides B): the word's lowest digit is the one above. -/
def ShdR (B D : Nat) (xs cur : List Nat) (i v : Nat) : Prop := Down B xs cur i ∧ vl B (cur.drop i) = vl B (xs.drop i) / D ∧ v = vl B (xs.drop i) % B
theorem shdR_start {B D : Nat} {xs : List Nat} (h : Lim B xs) : ShdR B D xs xs xs.length 0 := ⟨down_start h, by simp [vl], by simp [vl]⟩
theorem shd_num {B D q x V : Nat} (hD : 0 < D) (hB : B = D * q) (hx : x < B) : (x + B * V) / D = ((V % B * B + x) / D) % B + B * (V / D) := by
  subst hB
  have e1 : V % (D * q) % D = V % D := Nat.mod_mul_right_mod V D q
  have e2 := Nat.div_add_mod V D
  have e3 := Nat.div_add_mod (V % (D * q)) D
  rw [e1] at e3
  have hr : V % D < D := Nat.mod_lt _ hD
  generalize V / D = a at *
  generalize V % (D * q) / D = b at *
  generalize V % (D * q) = c at *
  generalize V % D = r at *
  rw [← e2, ← e3]
  have f1 : x + D * q * (D * a + r) = (x + D * q * r) + D * (D * q * a) := by
    simp only [Nat.mul_add, Nat.mul_comm, Nat.mul_left_comm]; omega
  have f2 : (D * b + r) * (D * q) + x = (x + D * q * r) + D * (D * q * b) := by
    simp only [Nat.mul_add, Nat.mul_comm, Nat.mul_left_comm]; omega
  rw [f1, f2, Nat.add_mul_div_left _ _ hD, Nat.add_mul_div_left _ _ hD, Nat.add_mul_mod_self_left]
  congr 1
  symm
  apply Nat.mod_eq_of_lt
  apply Nat.div_lt_of_lt_mul
  have : D * q * (r + 1) ≤ D * q * D := Nat.mul_le_mul_left _ hr
  rw [Nat.mul_add, Nat.mul_one] at this
  rw [Nat.mul_comm D (D * q)]
  omega
theorem shdR_step {B D q : Nat} (hD : 0 < D) (hB : B = D * q) {xs cur : List Nat} {i v : Nat} (h : ShdR B D xs cur (i + 1) v) (hx : Lim B xs) (y : Nat) (hy : y = ((v * B + xs[i]'h.1.le) / D) % B) : ShdR B D xs (cur.set i y) i (xs[i]'h.1.le) := by
  obtain ⟨h1, h2, rfl⟩ := h
  have hi := h1.le
  have b1 := lim_get hx i hi
  refine ⟨down_step h1 (by rw [hy]; exact Nat.mod_lt _ (by omega)), ?_, ?_⟩
  · rw [down_vl h1, drop_get xs i hi, vl_cons, shd_num hD hB b1, h2, hy]
  · rw [drop_get xs i hi, vl_cons, Nat.add_mul_mod_self_left, Nat.mod_eq_of_lt b1]
/-- shiftUp by D, the limbs of a into cur. -/
def ShuR (B D : Nat) (as cur : List Nat) (i c : Nat) : Prop := vl B (cur.take i) + B ^ i * c = vl B (as.take i) * D ∧ c < D ∧ Lim B cur
theorem shuR_start {B D : Nat} {as cur : List Nat} (h : Lim B cur) (hD : 0 < D) : ShuR B D as cur 0 0 := ⟨by simp [vl], hD, h⟩
theorem shuR_step {B D : Nat} {as cur : List Nat} {i c : Nat} (h : ShuR B D as cur i c) (ha : Lim B as) (hi : i < as.length) (hc : i < cur.length) (z : Nat) (hz : z = as[i] * D + c) : ShuR B D as (cur.set i (z % B)) (i + 1) (z / B) := by
  obtain ⟨h1, h2, h3⟩ := h
  have b1 := lim_get ha i hi
  refine ⟨?_, ?_, lim_set h3 (Nat.mod_lt _ (by omega))⟩
  · rw [take_set_succ hc, vl_snoc, List.length_take, Nat.min_eq_left (by omega), vl_take_succ B as i hi, Nat.pow_succ, Nat.add_mul]
    have hd := digit_step (B := B) (P := B ^ i) (z := z)
    have e1 := congrArg (B ^ i * ·) hz
    simp only [Nat.mul_add, ← Nat.mul_assoc] at hd e1 h1 ⊢
    omega
  · apply Nat.div_lt_of_lt_mul
    have : (as[i] + 1) * D ≤ B * D := Nat.mul_le_mul_right _ b1
    rw [Nat.add_mul, Nat.one_mul] at this
    omega
end Go.Proofs.YtflnackpkcldjaaDoor
