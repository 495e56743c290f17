/- Plain: the parts of the long division. -/
import Derived.Test.YtflnackpkcldjaaDoorNatG
namespace Go.Proofs.YtflnackpkcldjaaDoor

/-- The dividend, shifted up into one limb more. -/
theorem shu_more {B P : Nat} {xs cur : List Nat} {c : Nat} (h : ShuR B P xs cur xs.length c) (hl : cur.length = xs.length + 1) (hP : P ≤ B) : Lim B (cur.set xs.length c) ∧ (cur.set xs.length c).length = xs.length + 1 ∧ vl B (cur.set xs.length c) = vl B xs * P := by
  obtain ⟨h1, h2, h3⟩ := h
  refine ⟨lim_set h3 (by omega), by rw [List.length_set, hl], ?_⟩
  rw [vl_take_all (Nat.le_refl _)] at h1
  rw [← vl_take_all (B := B) (l := cur.set xs.length c) (k := xs.length + 1) (by rw [List.length_set]; omega), take_set_succ (by omega), vl_snoc, List.length_take, Nat.min_eq_left (by omega), h1]
/-- The divisor, shifted up into as many limbs: nothing is carried out of it, and its top limb is great. -/
theorem shu_same {B P y H : Nat} {ys cur : List Nat} {c : Nat} (h : ShuR B P ys cur ys.length c) (hl : cur.length = ys.length) (hy : Lim B ys) (h0 : 0 < ys.length) (hye : ys[ys.length - 1] = y) (h1 : H ≤ y * P) (h2 : (y + 1) * P ≤ B) :
    c = 0 ∧ vl B cur = vl B ys * P ∧ (∀ h : ys.length - 1 < cur.length, H ≤ cur[ys.length - 1]) ∧ vl B cur < B ^ ys.length := by
  obtain ⟨a1, a2, a3⟩ := h
  rw [vl_take_all (Nat.le_refl _), vl_take_all (by omega)] at a1
  have e1 : vl B ys = vl B (ys.take (ys.length - 1)) + B ^ (ys.length - 1) * y := by
    have := vl_take_succ B ys (ys.length - 1) (by omega)
    rw [show ys.length - 1 + 1 = ys.length by omega, vl_take_all (Nat.le_refl _), hye] at this
    exact this
  have e2 : vl B (ys.take (ys.length - 1)) < B ^ (ys.length - 1) := by
    have := vl_lt (lim_take hy (ys.length - 1))
    rwa [List.length_take, Nat.min_eq_left (by omega)] at this
  have e3 : B ^ ys.length = B ^ (ys.length - 1) * B := by rw [← Nat.pow_succ, show (ys.length - 1).succ = ys.length by omega]
  have e4 : vl B ys * P < B ^ ys.length := by
    have f1 : (vl B ys + 1) * P ≤ B ^ (ys.length - 1) * (y + 1) * P := Nat.mul_le_mul_right _ (by rw [Nat.mul_add]; omega)
    have f2 : B ^ (ys.length - 1) * ((y + 1) * P) ≤ B ^ (ys.length - 1) * B := Nat.mul_le_mul_left _ h2
    rw [e3]
    rw [Nat.mul_assoc] at f1
    have hP : 0 < P := by
      rcases Nat.eq_zero_or_pos P with hp | hp
      · subst hp; omega
      · exact hp
    rw [Nat.add_mul] at f1
    omega
  have hc : c = 0 := by
    rcases Nat.eq_zero_or_pos c with h | h
    · exact h
    · have : B ^ ys.length * 1 ≤ B ^ ys.length * c := Nat.mul_le_mul_left _ h
      omega
  subst hc
  rw [Nat.mul_zero, Nat.add_zero] at a1
  refine ⟨rfl, a1, fun hh => ?_, by rw [a1]; exact e4⟩
  have g1 := vl_take_succ B cur (ys.length - 1) hh
  rw [show ys.length - 1 + 1 = ys.length by omega, vl_take_all (by omega)] at g1
  have g2 := vl_lt (lim_take a3 (ys.length - 1))
  rw [List.length_take, Nat.min_eq_left (by omega)] at g2
  have g3 : B ^ (ys.length - 1) * H ≤ vl B cur := by
    rw [a1, e1, Nat.add_mul]
    have : B ^ (ys.length - 1) * H ≤ B ^ (ys.length - 1) * (y * P) := Nat.mul_le_mul_left _ h1
    rw [← Nat.mul_assoc] at this
    omega
  obtain ⟨z, hz⟩ : ∃ z, cur[ys.length - 1] = z := ⟨_, rfl⟩
  rw [hz] at g1 ⊢
  rcases Nat.lt_or_ge z H with h | h
  · have : B ^ (ys.length - 1) * (z + 1) ≤ B ^ (ys.length - 1) * H := Nat.mul_le_mul_left _ h
    rw [Nat.mul_add] at this
    omega
  · exact h
/-- The two top limbs. -/
theorem vl_two {B : Nat} {l : List Nat} {n : Nat} (hn : l.length = n) (h2 : 2 ≤ n) : vl B l = vl B (l.take (n - 2)) + B ^ (n - 2) * (l[n - 2]'(by omega) + B * l[n - 1]'(by omega)) := by
  have a := vl_take_succ B l (n - 2) (by omega)
  have b := vl_take_succ B l (n - 1) (by omega)
  rw [show n - 2 + 1 = n - 1 by omega] at a
  rw [show n - 1 + 1 = n by omega, vl_take_all (by omega)] at b
  rw [b, a, show B ^ (n - 1) = B ^ (n - 2) * B by rw [← Nat.pow_succ, show (n - 2).succ = n - 1 by omega], Nat.mul_add, Nat.mul_assoc]
  omega
/-- The three top limbs. -/
theorem vl_three {B : Nat} {l : List Nat} {n : Nat} (hn : l.length = n + 1) (h2 : 2 ≤ n) : vl B l = vl B (l.take (n - 2)) + B ^ (n - 2) * (l[n - 2]'(by omega) + B * (l[n - 1]'(by omega) + B * l[n]'(by omega))) := by
  have a := vl_take_succ B l (n - 2) (by omega)
  have b := vl_take_succ B l (n - 1) (by omega)
  have c := vl_take_succ B l n (by omega)
  rw [show n - 2 + 1 = n - 1 by omega] at a
  rw [show n - 1 + 1 = n by omega] at b
  rw [vl_take_all (by omega)] at c
  rw [c, b, a, show B ^ n = B ^ (n - 2) * B * B by rw [← Nat.pow_succ, ← Nat.pow_succ, show (n - 2).succ.succ = n by omega], show B ^ (n - 1) = B ^ (n - 2) * B by rw [← Nat.pow_succ, show (n - 2).succ = n - 1 by omega]]
  simp only [Nat.mul_add, Nat.mul_assoc]
  omega
theorem guess_of {B : Nat} {Ds part : List Nat} {n : Nat} (hD : Lim B Ds) (hp : Lim B part) (h2 : 2 ≤ n) (hn : Ds.length = n) (hpn : part.length = n + 1) (htop : B ≤ 2 * Ds[n - 1]'(by omega)) (hB : 2 ≤ B) (hlt : vl B part < B * vl B Ds) :
    GuessOk B (B ^ (n - 2)) (vl B (Ds.take (n - 2))) (Ds[n - 1]'(by omega)) (Ds[n - 2]'(by omega)) (vl B (part.take (n - 2))) (part[n]'(by omega)) (part[n - 1]'(by omega)) (part[n - 2]'(by omega)) := by
  refine ⟨Nat.pow_pos (by omega), ?_, ?_, lim_get hD _ _, lim_get hD _ _, lim_get hp _ _, htop, hB, ?_⟩
  · have := vl_lt (lim_take hD (n - 2))
    rwa [List.length_take, Nat.min_eq_left (by omega)] at this
  · have := vl_lt (lim_take hp (n - 2))
    rwa [List.length_take, Nat.min_eq_left (by omega)] at this
  · rw [← vl_two hn h2, ← vl_three hpn h2]
    exact hlt
/-- takeFrom, borrow or not, of the part. -/
theorem take_end {B : Nat} {t : Nat} {part Ds cur : List Nat} {m r : Nat} (h : TakeR B t part Ds cur part.length m r) (hlen : Ds.length < part.length) (ht : t ≤ B) : m = 0 ∧ vl B cur + t * vl B Ds = vl B part + B ^ part.length * r ∧ Lim B cur ∧ cur.length = part.length ∧ r ≤ 1 := by
  obtain ⟨h1, h2, h3, _, h5⟩ := h
  have hm := h5 hlen ht
  subst hm
  rw [vl_take_all (by rw [h1.len]; exact Nat.le_refl _), vl_take_all (Nat.le_refl _), vl_take_all (by omega), Nat.zero_add] at h2
  exact ⟨rfl, h2, h1.lim, h1.len, h3⟩
theorem add_end {B : Nat} {part Ds cur : List Nat} {c : Nat} (h : AddR B part Ds cur part.length c) (hlen : Ds.length ≤ part.length) : vl B cur + B ^ part.length * c = vl B part + vl B Ds ∧ Lim B cur ∧ cur.length = part.length ∧ c ≤ 1 := by
  obtain ⟨h1, h2, h3⟩ := h
  rw [vl_take_all (by rw [h1.len]; exact Nat.le_refl _), vl_take_all (Nat.le_refl _), vl_take_all hlen] at h2
  exact ⟨h2, h1.lim, h1.len, h3⟩
/-- The state ahead of the first round. -/
theorem long_start {B P la lb m : Nat} (hB : 0 < B) {xs ys As : List Nat} (hx : Lim B xs) (hla : xs.length = la) (hlb : ys.length = lb) (hy : Top ys) (hlb0 : 0 < lb) (hm : m + lb = la + 1) (hA : Lim B As) (hAl : As.length = la + 1) (hv : vl B As = vl B xs * P) (hP : 0 < P) :
    Long B (vl B ys * P) (vl B xs * P) As (List.replicate m 0) m := by
  refine ⟨hA, lim_zeros hB m, ?_, ?_⟩
  · have h1 := vl_take_drop B As m (by omega)
    have h2 := vl_lt hx
    have h3 := vl_top (B := B) hy (by intro e; subst e; simp at hlb; omega)
    rw [hlb] at h3
    rw [hla] at h2
    have h4 : B ^ la = B ^ m * B ^ (lb - 1) := by rw [← Nat.pow_add]; congr 1; omega
    have h5 : vl B xs * P < B ^ m * (vl B ys * P) := by
      have a : vl B xs * P < B ^ la * P := (Nat.mul_lt_mul_right hP).2 h2
      have b : B ^ m * (B ^ (lb - 1) * P) ≤ B ^ m * (vl B ys * P) := Nat.mul_le_mul_left _ (Nat.mul_le_mul_right _ h3)
      rw [h4, Nat.mul_assoc] at a
      omega
    have h6 : B ^ m * vl B (As.drop m) < B ^ m * (vl B ys * P) := by omega
    exact Nat.lt_of_mul_lt_mul_left h6
  · rw [List.drop_of_length_le (by simp), vl_nil, Nat.mul_zero, Nat.mul_zero, Nat.add_zero, hv]
/-- The state behind the last round. -/
theorem long_end {B P n : Nat} {xs ys cur qs : List Nat} (h : Long B (vl B ys * P) (vl B xs * P) cur qs 0) (hP : 0 < P) (hD : vl B ys * P < B ^ n) (hn : n ≤ cur.length) : vl B (cur.take n) / P = vl B xs % vl B ys ∧ vl B qs = vl B xs / vl B ys := by
  have h1 := h.less
  have h2 := h.eq
  rw [List.drop_zero] at h1 h2
  rw [Nat.pow_zero, Nat.one_mul] at h2
  have h3 := zeros_above (cur := cur) (i := 0) (n := n) (by rw [List.drop_zero]; exact h1) hD (by omega)
  rw [Nat.zero_add] at h3
  have h4 := vl_take_drop B cur n hn
  rw [h3, Nat.mul_zero, Nat.add_zero] at h4
  have := unscale hP h2 h1
  rw [h4] at this
  exact this
end Go.Proofs.YtflnackpkcldjaaDoor
