/- Several texts in one (Plain: floats by their rungs, and which one is nearest to a fraction. No walk here; Plain: the float that Read's rounding gives is the nearest one. No walk here; Contracts of layer 3: math.Ldexp of a natural that is a float; Contracts of layer 3: math.Ldexp; Contracts of layer 3: Sci of a number other than nought; Contracts of layer 3: Read's main way; Contracts of layer 3: Read; Contracts of layer 3: Read of any power: the nearest float; Plain: Sci's digits are told by their conditions; floats in order. No walk here; Contracts of layer 3: what its laws share: same, digits one by one; Contracts of layer 3: what its laws share: naturals as floats, digits; Contracts of layer 4: cutDigits, count, cutSign, hexDigit; Contracts of layer 4: cutSign, hexDigit, Trunc). -/
import Derived.WalkSpells
import Derived.Laws.FloatArith
import Derived.Deep.QuietTactic
import Derived.BigQuiet
import Derived.Test.YtbbbdcohkfijoaaGreatDoorQs4
namespace Go.Proofs.YtbbbdcohkfijoaaGreatDoor

/-- What the float of rung r is, counted in the least one. -/
def V (r : Nat) : Nat := if r < 4503599627370496 then r else (4503599627370496 + r % 4503599627370496) * 2 ^ (r / 4503599627370496 - 1)
def U (r : Nat) : Nat := 2 ^ (r / 4503599627370496 - 1)
theorem U_pos (r : Nat) : 0 < U r := Nat.pow_pos (by omega)
theorem V_succ (r : Nat) : V (r + 1) = V r + U r := by
  unfold V U
  by_cases h : r + 1 < 4503599627370496
  · rw [if_pos h, if_pos (by omega), show r / 4503599627370496 - 1 = 0 by omega, Nat.pow_zero]
  · rw [if_neg h]
    by_cases h2 : r < 4503599627370496
    · obtain rfl : r = 4503599627370495 := by omega
      decide
    · rw [if_neg h2]
      by_cases h3 : (r + 1) % 4503599627370496 = 0
      · rw [h3, show (r + 1) / 4503599627370496 - 1 = r / 4503599627370496 - 1 + 1 by omega, Nat.pow_succ, show r % 4503599627370496 = 4503599627370495 by omega]
        generalize 2 ^ (r / 4503599627370496 - 1) = z
        omega
      · rw [show (r + 1) / 4503599627370496 = r / 4503599627370496 by omega, show (r + 1) % 4503599627370496 = r % 4503599627370496 + 1 by omega, ← Nat.add_assoc, Nat.succ_mul]
theorem V_lt {r s : Nat} (h : r < s) : V r < V s := by
  induction s with
  | zero => omega
  | succ s ih =>
    have h1 := V_succ s
    have h2 := U_pos s
    rcases Nat.lt_or_ge r s with h3 | h3
    · have := ih h3; omega
    · obtain rfl : r = s := by omega
      omega
theorem V_le {r s : Nat} (h : r ≤ s) : V r ≤ V s := by
  rcases Nat.lt_or_ge r s with h1 | h1
  · exact Nat.le_of_lt (V_lt h1)
  · obtain rfl : r = s := by omega
    exact Nat.le_refl _
theorem V_at (e m : Nat) (hm : m ≤ 9007199254740992) (h : e = 0 ∨ 4503599627370496 ≤ m) : V (e * 4503599627370496 + m) = m * 2 ^ e := by
  unfold V
  by_cases h1 : m = 9007199254740992
  · subst h1
    rw [if_neg (by omega), show (e * 4503599627370496 + 9007199254740992) % 4503599627370496 = 0 by omega, show (e * 4503599627370496 + 9007199254740992) / 4503599627370496 - 1 = e + 1 by omega, Nat.pow_succ]
    generalize 2 ^ e = z
    omega
  · by_cases h2 : 4503599627370496 ≤ m
    · rw [if_neg (by omega), show (e * 4503599627370496 + m) / 4503599627370496 - 1 = e by omega, show 4503599627370496 + (e * 4503599627370496 + m) % 4503599627370496 = m by omega]
    · obtain rfl : e = 0 := by omega
      rw [if_pos (by omega)]
      simp

/-- r is the rung nearest to X / (2 D); of two, the even one; the last is infinity. -/
structure Near (X D r : Nat) : Prop where
  lo : ∀ q, r = q + 1 → (V q + V r) * D ≤ X
  loe : ∀ q, r = q + 1 → (V q + V r) * D = X → r % 2 = 0
  hi : r < 9218868437227405312 → X ≤ (V r + V (r + 1)) * D
  hie : r < 9218868437227405312 → X = (V r + V (r + 1)) * D → r % 2 = 0
  top : r ≤ 9218868437227405312
/-- A number that is not greater has no greater nearest float. -/
theorem Near.le {X D r X' D' r' : Nat} (hD : 0 < D) (hD' : 0 < D') (h : X * D' ≤ X' * D) (a : Near X D r) (b : Near X' D' r') : r ≤ r' := by
  rcases Nat.lt_or_ge r' r with hlt | hge
  · exfalso
    obtain ⟨q, rfl⟩ : ∃ q, r = q + 1 := ⟨r - 1, by omega⟩
    have h1 := a.lo q rfl
    have h2 := b.hi (by have := a.top; omega)
    have e1 : (V q + V (q + 1)) * D * D' ≤ X * D' := Nat.mul_le_mul_right _ h1
    have e2 : X' * D ≤ (V r' + V (r' + 1)) * D' * D := Nat.mul_le_mul_right _ h2
    rw [Nat.mul_right_comm _ D' D] at e2
    rcases Nat.lt_or_ge r' q with h3 | h3
    · have h4 := V_lt h3
      have h5 := V_le (show r' + 1 ≤ q + 1 by omega)
      have h6 : (V r' + V (r' + 1)) * D * D' < (V q + V (q + 1)) * D * D' := Nat.mul_lt_mul_of_pos_right (Nat.mul_lt_mul_of_pos_right (by omega) hD) hD'
      omega
    · obtain rfl : r' = q := by omega
      have e3 : X * D' = (V r' + V (r' + 1)) * D * D' := by omega
      have e4 : X' * D = (V r' + V (r' + 1)) * D' * D := by rw [Nat.mul_right_comm _ D' D]; omega
      have p1 := a.loe r' rfl (Nat.eq_of_mul_eq_mul_right hD' e3).symm
      have p2 := b.hie (by have := a.top; omega) (Nat.eq_of_mul_eq_mul_right hD e4)
      omega
  · exact hge
theorem Near.uniq {X D r X' D' r' : Nat} (hD : 0 < D) (hD' : 0 < D') (h : X * D' = X' * D) (a : Near X D r) (b : Near X' D' r') : r = r' :=
  Nat.le_antisymm (a.le hD hD' (by omega) b) (b.le hD' hD (by omega) a)
/-- A float is the nearest one to itself. -/
theorem Near.self {r : Nat} (h : r < 9218868437227405312) : Near (2 * V r) 1 r := by
  have h1 := V_lt (show r < r + 1 by omega)
  refine ⟨fun q e => ?_, fun q e => ?_, fun _ => by omega, fun _ e => by omega, by omega⟩
  · have := V_lt (show q < r by omega); omega
  · have := V_lt (show q < r by omega); omega
/-- The rung of a rounded natural times a power of two. -/
theorem near_core {X D e m : Nat} (hm : m < 9007199254740992) (hm2 : e = 0 ∨ 4503599627370496 ≤ m)
    (h1 : X ≤ (2 * m + 1) * 2 ^ e * D) (h1e : X = (2 * m + 1) * 2 ^ e * D → m % 2 = 0)
    (h2 : 0 < m → (2 * m - 1) * 2 ^ e * D ≤ X) (h2e : 0 < m → (2 * m - 1) * 2 ^ e * D = X → m % 2 = 0)
    (hlow : ∀ f, e = f + 1 → m = 4503599627370496 → (4 * m - 1) * 2 ^ f * D ≤ X) : Near X D (min (e * 4503599627370496 + m) 9218868437227405312) := by
  obtain ⟨R, hR⟩ : ∃ R, e * 4503599627370496 + m = R := ⟨_, rfl⟩
  rw [hR]
  have v0 : V R = m * 2 ^ e := by rw [← hR]; exact V_at e m (by omega) hm2
  have v1 : V (R + 1) = (m + 1) * 2 ^ e := by rw [← hR, Nat.add_assoc]; exact V_at e (m + 1) (by omega) (by omega)
  have hp : R % 2 = m % 2 := by omega
  have s1 : V R + V (R + 1) = (2 * m + 1) * 2 ^ e := by rw [v0, v1, ← Nat.add_mul]; congr 1; omega
  have LO : ∀ q, R = q + 1 → (V q + V R) * D ≤ X ∧ ((V q + V R) * D = X → R % 2 = 0) := fun q hq => by
    by_cases hc : e = 0 ∨ 4503599627370496 < m
    · have hm0 : 0 < m := by omega
      have vq : V q = (m - 1) * 2 ^ e := by
        rw [show q = e * 4503599627370496 + (m - 1) by omega]
        exact V_at e (m - 1) (by omega) (by omega)
      have s0 : V q + V R = (2 * m - 1) * 2 ^ e := by rw [v0, vq, ← Nat.add_mul]; congr 1; omega
      rw [s0, hp]
      exact ⟨h2 hm0, h2e hm0⟩
    · obtain ⟨f, rfl⟩ : ∃ f, e = f + 1 := ⟨e - 1, by omega⟩
      have hm4 : m = 4503599627370496 := by omega
      have vq : V q = 9007199254740991 * 2 ^ f := by
        rw [show q = f * 4503599627370496 + 9007199254740991 by omega]
        exact V_at f _ (by omega) (by omega)
      have s0 : V q + V R = (4 * m - 1) * 2 ^ f := by
        rw [v0, vq, hm4, Nat.pow_succ]
        generalize 2 ^ f = z
        omega
      rw [s0]
      exact ⟨hlow f rfl hm4, fun _ => by omega⟩
  rcases Nat.lt_or_ge R 9218868437227405312 with hlt | hge
  · rw [Nat.min_eq_left (by omega)]
    exact ⟨fun q e => (LO q e).1, fun q e => (LO q e).2, fun _ => by rw [s1]; exact h1, fun _ e => by rw [s1] at e; rw [hp]; exact h1e e, by omega⟩
  · rw [Nat.min_eq_right hge]
    refine ⟨fun q hq => ?_, fun _ _ _ => rfl, fun h => absurd h (by omega), fun h => absurd h (by omega), Nat.le_refl _⟩
    obtain ⟨Q, hQ⟩ : ∃ Q, R = Q + 1 := ⟨R - 1, by omega⟩
    refine Nat.le_trans (Nat.mul_le_mul_right _ ?_) (LO Q hQ).1
    have a1 := V_le (show q ≤ Q by omega)
    have a2 := V_le hge
    omega

theorem rnd_near (A B : Nat) (hB : 0 < B) : (2 * A ≤ (2 * rnd A B + 1) * B ∧ (2 * A = (2 * rnd A B + 1) * B → rnd A B % 2 = 0)) ∧ (0 < rnd A B → (2 * rnd A B - 1) * B ≤ 2 * A ∧ ((2 * rnd A B - 1) * B = 2 * A → rnd A B % 2 = 0)) := by
  have h0 := Nat.div_add_mod A B
  have hs := Nat.mod_lt A hB
  unfold rnd
  generalize A / B = q at *
  generalize A % B = s at *
  have e1 : ∀ k, (2 * q + k) * B = 2 * (B * q) + k * B := fun k => by rw [Nat.add_mul, Nat.mul_assoc, Nat.mul_comm q B]
  obtain ⟨T, hT⟩ : ∃ T, B * q = T := ⟨_, rfl⟩
  rw [hT] at e1 h0
  split
  · rename_i h
    have a1 : (2 * (q + 1) + 1) * B = 2 * T + 3 * B := by rw [show 2 * (q + 1) + 1 = 2 * q + 3 by omega, e1]
    have a2 : (2 * (q + 1) - 1) * B = 2 * T + B := by rw [show 2 * (q + 1) - 1 = 2 * q + 1 by omega, e1, Nat.one_mul]
    rw [a1, a2]
    refine ⟨⟨by omega, fun h => by omega⟩, fun _ => ⟨by omega, fun h => by omega⟩⟩
  · rename_i h
    have a1 : (2 * q + 1) * B = 2 * T + B := by rw [e1, Nat.one_mul]
    rw [a1]
    refine ⟨⟨by omega, fun h => by omega⟩, fun hq => ?_⟩
    have a2 : (2 * q - 1) * B + B = 2 * T := by
      rw [← Nat.succ_mul, show (2 * q - 1).succ = 2 * q + 0 by omega, e1]; omega
    exact ⟨by omega, fun h => by omega⟩
/-- What rounding gives in the measure of the least float: e is the power's place, X and D the number. -/
theorem rnd_scaled {X D A B e : Nat} (hB : 0 < B) (hD : 0 < D) (h : X * B = 2 * A * (D * 2 ^ e)) : (X ≤ (2 * rnd A B + 1) * 2 ^ e * D ∧ (X = (2 * rnd A B + 1) * 2 ^ e * D → rnd A B % 2 = 0)) ∧ (0 < rnd A B → (2 * rnd A B - 1) * 2 ^ e * D ≤ X ∧ ((2 * rnd A B - 1) * 2 ^ e * D = X → rnd A B % 2 = 0)) := by
  obtain ⟨⟨h1, h1e⟩, h2⟩ := rnd_near A B hB
  obtain ⟨m, hm⟩ : ∃ m, rnd A B = m := ⟨_, rfl⟩
  rw [hm] at h1 h1e h2 ⊢
  have hc : ∀ t, t * 2 ^ e * D * B = t * B * (D * 2 ^ e) := fun t => by
    rw [Nat.mul_right_comm t B, ← Nat.mul_assoc t, Nat.mul_right_comm t D]
  have h0 : 0 < D * 2 ^ e := Nat.mul_pos hD (Nat.pow_pos (by omega))
  refine ⟨⟨?_, fun he => h1e ?_⟩, fun hm0 => ⟨?_, fun he => (h2 hm0).2 ?_⟩⟩
  · refine Nat.le_of_mul_le_mul_right ?_ hB
    rw [h, hc]
    exact Nat.mul_le_mul_right _ h1
  · refine Nat.eq_of_mul_eq_mul_right h0 ?_
    rw [← h, ← hc, he]
  · refine Nat.le_of_mul_le_mul_right ?_ hB
    rw [h, hc]
    exact Nat.mul_le_mul_right _ (h2 hm0).1
  · refine Nat.eq_of_mul_eq_mul_right h0 ?_
    rw [← h, ← hc, he]
end Go.Proofs.YtbbbdcohkfijoaaGreatDoor

namespace Go.Proofs.YtbbbdcohkfijoaaGreatDoor

def S1074 : Nat := 2 ^ 1074
theorem S_eq (c : Nat) (h : c = 1074) : S1074 = 2 ^ c := by subst h; rfl
/-- A fraction times 2 to the -p. -/
def rdA (N : Nat) (p : Int) : Nat := N * 2 ^ (-p).toNat
def rdB (D : Nat) (p : Int) : Nat := D * 2 ^ p.toNat
def rdM (N D : Nat) (p : Int) : Nat := rnd (rdA N p) (rdB D p)
theorem rdB_pos {D : Nat} (hD : 0 < D) (p : Int) : 0 < rdB D p := Nat.mul_pos hD (Nat.pow_pos (by omega))
theorem rd_scaled (N D : Nat) (p : Int) (hp : -1074 ≤ p) : 2 * N * S1074 * rdB D p = 2 * rdA N p * (D * 2 ^ (p + 1074).toNat) := by
  obtain ⟨c, hc⟩ : ∃ c : Nat, c = 1074 := ⟨_, rfl⟩
  rw [S_eq c hc, rdA, rdB]
  have e : 2 ^ c * 2 ^ p.toNat = 2 ^ (-p).toNat * 2 ^ (p + 1074).toNat := by
    rw [← Nat.pow_add, ← Nat.pow_add]
    congr 1
    omega
  calc 2 * N * 2 ^ c * (D * 2 ^ p.toNat) = 2 * N * D * (2 ^ c * 2 ^ p.toNat) := by ac_rfl
    _ = 2 * N * D * (2 ^ (-p).toNat * 2 ^ (p + 1074).toNat) := by rw [e]
    _ = 2 * (N * 2 ^ (-p).toNat) * (D * 2 ^ (p + 1074).toNat) := by ac_rfl
/-- The power is the least one, or there are digits enough. -/
def Low (N D : Nat) (p : Int) : Prop := p = -1074 ∨ 18014398509481983 * rdB D p ≤ 4 * rdA N p
theorem low_man {N D : Nat} {p : Int} (hD : 0 < D) (h : 18014398509481983 * rdB D p ≤ 4 * rdA N p) : 4503599627370496 ≤ rdM N D p := by
  have h1 := (rnd_near (rdA N p) (rdB D p) (rdB_pos hD p)).1.1
  have hB := rdB_pos hD p
  unfold rdM
  generalize rnd (rdA N p) (rdB D p) = m at *
  generalize rdA N p = A at *
  generalize rdB D p = B at *
  have h2 : 18014398509481983 * B ≤ (2 * (2 * m + 1)) * B := by rw [Nat.mul_assoc]; omega
  have h3 := Nat.le_of_mul_le_mul_right h2 hB
  omega
theorem read_near {N D : Nat} {p : Int} (hD : 0 < D) (hp : -1074 ≤ p) (hm : rdM N D p < 9007199254740992) (hl : Low N D p) :
    Near (2 * N * S1074) D (min ((p + 1074).toNat * 4503599627370496 + rdM N D p) 9218868437227405312) := by
  have hB := rdB_pos hD p
  have hX := rd_scaled N D p hp
  obtain ⟨⟨h1, h1e⟩, h2⟩ := rnd_scaled hB hD hX
  refine near_core hm ?_ h1 h1e (fun h => (h2 h).1) (fun h => (h2 h).2) ?_
  · rcases hl with rfl | hl
    · exact Or.inl rfl
    · exact Or.inr (low_man hD hl)
  · intro f hf hm4
    rcases hl with rfl | hl
    · exact absurd hf (by omega)
    · change rdM N D p = _ at hm4
      show (4 * rdM N D p - 1) * 2 ^ f * D ≤ _
      rw [hm4]
      refine Nat.le_of_mul_le_mul_right ?_ hB
      rw [hX, hf, Nat.pow_succ]
      have h3 : 18014398509481983 * rdB D p * (D * 2 ^ f) ≤ 4 * rdA N p * (D * 2 ^ f) := Nat.mul_le_mul_right _ hl
      calc (4 * 4503599627370496 - 1) * 2 ^ f * D * rdB D p = 18014398509481983 * rdB D p * (D * 2 ^ f) := by
            rw [show 4 * 4503599627370496 - 1 = 18014398509481983 by omega]; ac_rfl
        _ ≤ 4 * rdA N p * (D * 2 ^ f) := h3
        _ = 2 * rdA N p * (D * (2 ^ f * 2)) := by
            rw [show (4 : Nat) = 2 * 2 by omega]; ac_rfl
theorem rd_half (N D : Nat) (p : Int) : rdA N (p - 1) * rdB D p = 2 * rdA N p * rdB D (p - 1) := by
  unfold rdA rdB
  have e : 2 ^ (-(p - 1)).toNat * 2 ^ p.toNat = 2 * (2 ^ (-p).toNat * 2 ^ (p - 1).toNat) := by
    rw [← Nat.pow_add, ← Nat.pow_add, Nat.mul_comm 2, ← Nat.pow_succ]
    congr 1
    omega
  calc N * 2 ^ (-(p - 1)).toNat * (D * 2 ^ p.toNat) = N * D * (2 ^ (-(p - 1)).toNat * 2 ^ p.toNat) := by ac_rfl
    _ = N * D * (2 * (2 ^ (-p).toNat * 2 ^ (p - 1).toNat)) := by rw [e]
    _ = 2 * (N * 2 ^ (-p).toNat) * (D * 2 ^ (p - 1).toNat) := by ac_rfl
/-- Where the power below gave too many digits, there are enough. -/
theorem low_next {N D : Nat} {p : Int} (hD : 0 < D) (h : 9007199254740992 ≤ rdM N D (p - 1)) : Low N D p := by
  right
  have hB := rdB_pos hD p
  have hB' := rdB_pos hD (p - 1)
  have h1 := ((rnd_near (rdA N (p - 1)) (rdB D (p - 1)) hB').2 (by show 0 < rdM N D (p - 1); omega)).1
  change (2 * rdM N D (p - 1) - 1) * _ ≤ _ at h1
  have h2 : 18014398509481983 * rdB D (p - 1) ≤ 2 * rdA N (p - 1) := Nat.le_trans (Nat.mul_le_mul_right _ (by omega)) h1
  refine Nat.le_of_mul_le_mul_right ?_ hB'
  have h3 : 18014398509481983 * rdB D (p - 1) * rdB D p ≤ 2 * rdA N (p - 1) * rdB D p := Nat.mul_le_mul_right _ h2
  calc 18014398509481983 * rdB D p * rdB D (p - 1) = 18014398509481983 * rdB D (p - 1) * rdB D p := Nat.mul_right_comm _ _ _
    _ ≤ 2 * rdA N (p - 1) * rdB D p := h3
    _ = 2 * (rdA N (p - 1) * rdB D p) := Nat.mul_assoc _ _ _
    _ = 2 * (2 * rdA N p * rdB D (p - 1)) := by rw [rd_half]
    _ = 4 * rdA N p * rdB D (p - 1) := by rw [← Nat.mul_assoc, ← Nat.mul_assoc]
/-- At the first power there are enough. -/
theorem low_first {N D a b : Nat} (ha : 1 ≤ a) (hN : 2 ^ (a - 1) ≤ N) (hD : D < 2 ^ b) : Low N D (max ((a : Int) - (b : Int) - 53) (-1074)) := by
  by_cases h : (a : Int) - (b : Int) - 53 ≤ -1074
  · left; omega
  · right
    obtain ⟨p, hp⟩ : ∃ p, max ((a : Int) - (b : Int) - 53) (-1074) = p := ⟨_, rfl⟩
    rw [hp]
    have hp2 : p = (a : Int) - (b : Int) - 53 := by omega
    unfold rdA rdB
    have e1 : 18014398509481983 * (D * 2 ^ p.toNat) ≤ 2 ^ 54 * (2 ^ b * 2 ^ p.toNat) :=
      Nat.mul_le_mul (by decide) (Nat.mul_le_mul_right _ (Nat.le_of_lt hD))
    have e2 : 2 ^ 2 * (2 ^ (a - 1) * 2 ^ (-p).toNat) ≤ 2 ^ 2 * (N * 2 ^ (-p).toNat) := Nat.mul_le_mul_left _ (Nat.mul_le_mul_right _ hN)
    rw [← Nat.pow_add, ← Nat.pow_add] at e1 e2
    have e3 : 2 ^ (54 + (b + p.toNat)) ≤ 2 ^ (2 + (a - 1 + (-p).toNat)) := Nat.pow_le_pow_right (by omega) (by omega)
    have e4 : 2 ^ 2 * (N * 2 ^ (-p).toNat) = 4 * (N * 2 ^ (-p).toNat) := rfl
    omega
/-- Two powers above the first the digits are not too many. -/
theorem rd_stop {N D a b : Nat} {p : Int} (hb : 1 ≤ b) (hN : N < 2 ^ a) (hD : 2 ^ (b - 1) ≤ D) (hp : (a : Int) - (b : Int) - 51 ≤ p) : rdM N D p < 9007199254740992 := by
  have h1 := rnd_le (rdA N p) (rdB D p)
  have hB : 0 < rdB D p := rdB_pos (Nat.lt_of_lt_of_le (Nat.pow_pos (by omega)) hD) p
  have h2 : rdA N p / rdB D p < 4503599627370496 := by
    rw [Nat.div_lt_iff_lt_mul hB]
    unfold rdA rdB
    have e1 : N * 2 ^ (-p).toNat < 2 ^ a * 2 ^ (-p).toNat := Nat.mul_lt_mul_of_pos_right hN (Nat.pow_pos (by omega))
    have e2 : 2 ^ 52 * (2 ^ (b - 1) * 2 ^ p.toNat) ≤ 2 ^ 52 * (D * 2 ^ p.toNat) := Nat.mul_le_mul_left _ (Nat.mul_le_mul_right _ hD)
    rw [← Nat.pow_add] at e1
    rw [← Nat.pow_add, ← Nat.pow_add] at e2
    have e3 : 2 ^ (a + (-p).toNat) ≤ 2 ^ (52 + (b - 1 + p.toNat)) := Nat.pow_le_pow_right (by omega) (by omega)
    have e4 : 2 ^ 52 * (D * 2 ^ p.toNat) = 4503599627370496 * (D * 2 ^ p.toNat) := rfl
    omega
  unfold rdM
  omega
theorem near_zero {D : Nat} (_hD : 0 < D) : Near 0 D 0 :=
  ⟨fun q e => absurd e (by omega), fun q e => absurd e (by omega), fun _ => Nat.zero_le _, fun _ _ => rfl, by omega⟩
end Go.Proofs.YtbbbdcohkfijoaaGreatDoor

namespace Go.Proofs.YtbbbdcohkfijoaaGreatDoor
open Go.RowKit Go.Lib

theorem dbl_frac : Ieee.double.fractionBits = 52 := rfl
theorem word_pos (r : Nat) : Ieee.double.word false r = r := rfl
theorem log2_bd {n : Nat} (h : 0 < n) : 2 ^ n.log2 ≤ n ∧ n < 2 ^ (n.log2 + 1) := ⟨Nat.log2_self_le (by omega), Nat.lt_log2_self⟩
theorem log2_is {n k : Nat} (h1 : 2 ^ k ≤ n) (h2 : n < 2 ^ (k + 1)) : n.log2 = k := by
  have h0 : 0 < n := Nat.lt_of_lt_of_le (Nat.pow_pos (by omega)) h1
  obtain ⟨a, b⟩ := log2_bd h0
  have c1 := (Nat.pow_lt_pow_iff_right (show 1 < 2 by omega)).1 (Nat.lt_of_le_of_lt h1 b)
  have c2 := (Nat.pow_lt_pow_iff_right (show 1 < 2 by omega)).1 (Nat.lt_of_le_of_lt a h2)
  omega
theorem log2_mul {m : Nat} (j : Nat) (h : 0 < m) : (m * 2 ^ j).log2 = m.log2 + j := by
  obtain ⟨a, b⟩ := log2_bd h
  refine log2_is ?_ ?_
  · rw [Nat.pow_add]; exact Nat.mul_le_mul_right _ a
  · rw [Nat.add_right_comm, Nat.pow_add]; exact Nat.mul_lt_mul_of_pos_right b (Nat.pow_pos (by omega))
theorem log2_le52 {m : Nat} (h : 0 < m) (h2 : m < 9007199254740992) : m.log2 ≤ 52 := by
  have := (log2_bd h).1
  have h3 : 2 ^ m.log2 < 2 ^ 53 := Nat.lt_of_le_of_lt this h2
  have := (Nat.pow_lt_pow_iff_right (show 1 < 2 by omega)).1 h3
  omega
theorem log2_52 {m : Nat} (h : 4503599627370496 ≤ m) (h2 : m < 9007199254740992) : m.log2 = 52 := log2_is h h2
theorem cut_exact (m j : Nat) (hm : 0 < m) : Ieee.Toward.even.cut false (m * 2 ^ j) j = m := by
  have hp : 0 < 2 ^ j := Nat.pow_pos (by omega)
  have hl := log2_mul j hm
  have hmin : min j ((m * 2 ^ j).log2 + 2) = j := by omega
  unfold Ieee.Toward.cut
  simp only [hmin, Nat.one_shiftLeft, Nat.mul_div_cancel _ hp, Nat.mul_mod_left]
  have h1 : (2 ^ j == 0) = false := by rw [beq_eq_false_iff_ne]; omega
  simp [h1]
/-- A number that is a float is written as it. -/
theorem nearest_exact {m j e : Nat} {place : Int} (hm : 0 < m) (hm2 : m < 9007199254740992) (he : place + (j : Int) + 1074 = (e : Int)) (hc : e = 0 ∨ 4503599627370496 ≤ m) :
    Ieee.double.nearest false (m * 2 ^ j) place = min (e * 4503599627370496 + m) 9218868437227405312 := by
  have hne : m * 2 ^ j ≠ 0 := Nat.pos_iff_ne_zero.1 (Nat.mul_pos hm (Nat.pow_pos (by omega)))
  have hl := log2_mul j hm
  have hb := log2_le52 hm hm2
  have hlast : max (place + ((m * 2 ^ j).log2 : Int) - ((52 : Nat) : Int)) (-1074) = place + (j : Int) := by
    rcases hc with h | h
    · omega
    · have := log2_52 h hm2; omega
  unfold Ieee.Format.nearest
  rw [if_neg hne]
  simp only [dbl_frac, dbl_least, dbl_binade, dbl_inf, hlast]
  rw [show (place - (place + (j : Int))).toNat = 0 by omega, show (place + (j : Int) - place).toNat = j by omega, Nat.shiftLeft_zero, cut_exact m j hm, show (place + (j : Int) - -1074).toNat = e by omega, word_pos]
/-- The bits of a natural below 2^53 as a float. -/
def fw (m : Nat) : Nat := if m = 0 then 0 else (m.log2 + 1022) * 4503599627370496 + m * 2 ^ (52 - m.log2)
theorem full_bd {m : Nat} (h : 0 < m) (h2 : m < 9007199254740992) : 4503599627370496 ≤ m * 2 ^ (52 - m.log2) ∧ m * 2 ^ (52 - m.log2) < 9007199254740992 := by
  obtain ⟨a, b⟩ := log2_bd h
  have hb := log2_le52 h h2
  have c1 : 2 ^ m.log2 * 2 ^ (52 - m.log2) ≤ m * 2 ^ (52 - m.log2) := Nat.mul_le_mul_right _ a
  have c2 : m * 2 ^ (52 - m.log2) < 2 ^ (m.log2 + 1) * 2 ^ (52 - m.log2) := Nat.mul_lt_mul_of_pos_right b (Nat.pow_pos (by omega))
  rw [← Nat.pow_add, show m.log2 + (52 - m.log2) = 52 by omega] at c1
  rw [← Nat.pow_add, show m.log2 + 1 + (52 - m.log2) = 53 by omega] at c2
  exact ⟨c1, c2⟩
theorem fw_pos {m : Nat} (h : 0 < m) : fw m = (m.log2 + 1022) * 4503599627370496 + m * 2 ^ (52 - m.log2) := if_neg (by omega)
theorem fw_bd {m : Nat} (h2 : m < 9007199254740992) : fw m < 4845873199050653696 := by
  rcases Nat.eq_zero_or_pos m with rfl | h
  · decide
  · have := full_bd h h2
    have := log2_le52 h h2
    rw [fw_pos h]
    omega
theorem fw_mag {m : Nat} (h2 : m < 9007199254740992) : mag (fw m) = fw m := Nat.mod_eq_of_lt (by have := fw_bd h2; omega)
theorem fw_V {m : Nat} (h2 : m < 9007199254740992) : V (fw m) = m * S1074 := by
  rcases Nat.eq_zero_or_pos m with rfl | h
  · show V 0 = _
    rw [Nat.zero_mul]; decide
  · obtain ⟨c, hc⟩ : ∃ c : Nat, c = 1074 := ⟨_, rfl⟩
    have hb := log2_le52 h h2
    obtain ⟨f1, f2⟩ := full_bd h h2
    rw [fw_pos h, V_at _ _ (Nat.le_of_lt f2) (Or.inr f1), S_eq c hc, Nat.mul_assoc, ← Nat.pow_add]
    congr 2
    omega
theorem nearest_up {m : Nat} (hm : 0 < m) (hm2 : m < 9007199254740992) : Ieee.double.nearest false m 0 = fw m := by
  have hb := log2_le52 hm hm2
  obtain ⟨f1, f2⟩ := full_bd hm hm2
  have hlast : max ((0 : Int) + (m.log2 : Int) - ((52 : Nat) : Int)) (-1074) = (m.log2 : Int) - 52 := by omega
  rw [fw_pos hm]
  unfold Ieee.Format.nearest
  rw [if_neg (by omega)]
  simp only [dbl_frac, dbl_least, dbl_binade, dbl_inf, hlast]
  have hcut := cut_exact (m * 2 ^ (52 - m.log2)) 0 (by omega)
  rw [Nat.pow_zero, Nat.mul_one] at hcut
  rw [show ((0 : Int) - ((m.log2 : Int) - 52)).toNat = 52 - m.log2 by omega, show ((m.log2 : Int) - 52 - 0).toNat = 0 by omega, Nat.shiftLeft_eq, hcut, show ((m.log2 : Int) - 52 - -1074).toNat = m.log2 + 1022 by omega, Nat.min_eq_left (by omega), word_pos]
/-- float64(m) of a natural below 2^53. -/
theorem float_nat {m : Nat} (hm2 : m < 9007199254740992) : floatOfInt .f64 (m : Int) = fw m := by
  rcases Nat.eq_zero_or_pos m with rfl | h
  · decide
  · show Ieee.double.write (.number (decide ((m : Int) < 0)) ((m : Int)).natAbs 0) = _
    rw [show decide ((m : Int) < 0) = false from decide_eq_false (by omega), Int.natAbs_natCast]
    exact nearest_up h hm2
theorem expF_lo (r : Nat) : -1074 ≤ expF r := by unfold expF; split <;> omega
/-- A finite float other than nought is not equal to it. -/
theorem order_zero {r : Nat} (h0 : 0 < r) (h : r < 9218868437227405312) : Ieee.double.order r 0 = some .gt := by
  have hm : mag r = r := Nat.mod_eq_of_lt (by omega)
  unfold Ieee.Format.order
  rw [read_fin (by rw [hm]; exact h), hm, show Ieee.double.read 0 = .number false 0 (-1074) by decide, show (r / 9223372036854775808 % 2 == 1) = false by rw [beq_eq_false_iff_ne]; omega]
  have he : -1074 ≤ expF r := (expF_lo r)
  have hp : 0 < manF r := by unfold manF; split <;> omega
  show some (compare _ _) = _
  rw [show min (expF r) (-1074) = -1074 by omega]
  have h1 : Ieee.signed false 0 ((-1074 : Int) - -1074).toNat = 0 := by decide
  have h2 : 0 < Ieee.signed false (manF r) (expF r - -1074).toNat := by
    show (0 : Int) < ((manF r <<< _ : Nat) : Int)
    rw [Nat.shiftLeft_eq]
    have := Nat.mul_pos hp (Nat.pow_pos (n := (expF r - -1074).toNat) (show 0 < 2 by omega))
    omega
  rw [h1]
  exact congrArg some (Int.compare_eq_gt.2 h2)
theorem val_V {r : Nat} : manF r <<< (expF r - -1074).toNat = V r := by
  rw [Nat.shiftLeft_eq]
  unfold manF expF V
  split
  · rw [show ((-1074 : Int) - -1074).toNat = 0 by omega]; simp
  · congr 2
    omega
/-- Which of two floats that are finite and not below nought is the greater one. -/
theorem order_V {r s : Nat} (hr : r < 9218868437227405312) (hs : s < 9218868437227405312) : Ieee.double.order r s = some (compare (r : Int) (s : Int)) := by
  have hm : ∀ x, x < 9218868437227405312 → mag x = x := fun x h => Nat.mod_eq_of_lt (by omega)
  have hg : ∀ x, x < 9218868437227405312 → (x / 9223372036854775808 % 2 == 1) = false := fun x h => by rw [beq_eq_false_iff_ne]; omega
  unfold Ieee.Format.order
  rw [read_fin (by rw [hm r hr]; exact hr), hm r hr, read_fin (by rw [hm s hs]; exact hs), hm s hs, hg r hr, hg s hs]
  show some (compare (Ieee.signed false (manF r) (expF r - min (expF r) (expF s)).toNat) (Ieee.signed false (manF s) (expF s - min (expF r) (expF s)).toNat)) = _
  have h1 := expF_lo r
  have h2 := expF_lo s
  obtain ⟨c, hc⟩ : ∃ c : Nat, min (expF r) (expF s) + 1074 = (c : Int) := ⟨(min (expF r) (expF s) + 1074).toNat, by omega⟩
  have key : ∀ x : Nat, (expF x - -1074).toNat = (expF x - min (expF r) (expF s)).toNat + c → manF x * 2 ^ (expF x - min (expF r) (expF s)).toNat * 2 ^ c = V x := fun x hx => by
    rw [← val_V, Nat.shiftLeft_eq, hx, Nat.pow_add, Nat.mul_assoc]
  have kr := key r (by omega)
  have ks := key s (by omega)
  show some (compare ((manF r <<< _ : Nat) : Int) ((manF s <<< _ : Nat) : Int)) = _
  rw [Nat.shiftLeft_eq, Nat.shiftLeft_eq]
  generalize manF r * 2 ^ (expF r - min (expF r) (expF s)).toNat = x at *
  generalize manF s * 2 ^ (expF s - min (expF r) (expF s)).toNat = y at *
  have hp : 0 < 2 ^ c := Nat.pow_pos (by omega)
  congr 1
  rcases Nat.lt_trichotomy r s with h | h | h
  · rw [Int.compare_eq_lt.2 (show (r : Int) < (s : Int) by omega), Int.compare_eq_lt]
    have hv := V_lt h
    rw [← kr, ← ks] at hv
    have := Nat.lt_of_mul_lt_mul_right hv
    omega
  · subst h
    have : x = y := Nat.eq_of_mul_eq_mul_right hp (by rw [kr, ks])
    rw [this, Int.compare_eq_eq.2 rfl, Int.compare_eq_eq.2 rfl]
  · rw [Int.compare_eq_gt.2 (show (s : Int) < (r : Int) by omega), Int.compare_eq_gt]
    have hv := V_lt h
    rw [← kr, ← ks] at hv
    have := Nat.lt_of_mul_lt_mul_right hv
    omega
end Go.Proofs.YtbbbdcohkfijoaaGreatDoor

namespace Go.Proofs.YtbbbdcohkfijoaaGreatDoor
open Go.RowKit Go.Lib

theorem low_andNot (f k : Nat) (hf : f < 4503599627370496) (hk : k < 2048) : bits .andNot .u64 ((k * 4503599627370496 + f : Nat) : Int) 9218868437227405312 = (f : Int) := by
  have h := u64_andNot_nat (k * 4503599627370496 + f) 9218868437227405312 (by omega) (by omega)
  rw [show (18446744073709551615 : Nat) - 9218868437227405312 = 2 ^ 63 ||| (2 ^ 52 - 1) by decide, Nat.and_or_distrib_left, Nat.and_two_pow_sub_one_eq_mod] at h
  have h0 : (k * 4503599627370496 + f) &&& 2 ^ 63 = 0 := by
    apply Nat.eq_of_testBit_eq
    intro i
    rw [Nat.testBit_and, Nat.testBit_two_pow, Nat.zero_testBit]
    by_cases hi : 63 = i
    · subst hi
      rw [Nat.testBit_lt_two_pow (show k * 4503599627370496 + f < 2 ^ 63 by omega)]
      rfl
    · simp [hi]
  rw [h0, Nat.zero_or, show (k * 4503599627370496 + f) % 2 ^ 52 = f by omega] at h
  exact h
theorem or_exp (f k : Nat) (hf : f < 4503599627370496) (hk : k < 2048) : bits .or .u64 (f : Int) ((k : Int) * 4503599627370496) = (k : Int) * 4503599627370496 + (f : Int) := by
  have h := u64_or_nat f (k * 4503599627370496) (by omega) (by omega)
  rw [Nat.or_comm, show k * 4503599627370496 ||| f = k * 4503599627370496 + f from or_low (k := 52) hf] at h
  rw [Int.natCast_mul, Int.natCast_add, Int.natCast_mul] at h
  exact h
theorem and_exp : ∀ y : Nat, y < 2048 → bits .and .i64 (y : Int) 2047 = (y : Int) := by decide +kernel
set_option maxRecDepth 100000 in
set_option maxHeartbeats 1000000 in
theorem normalize_any (r : Nat) (w : World) (h1 : 4503599627370496 ≤ r) (h2 : r < 9218868437227405312) : Calls Tryz.prog 279 #[.float .f64 r] w fun e w' => e = .returned (.tuple #[.float .f64 r, .int .i64 0]) ∧ w = w' := by
  have CA := Lib.hid (abs_any r w (by omega))
  have hm : mag r = r := Nat.mod_eq_of_lt (by omega)
  rw [hm] at CA
  have ho : (FloatKind.f64.format.order r 4503599627370496 == some .lt) = false := by
    show (Ieee.double.order r 4503599627370496 == some .lt) = false
    rw [order_V h2 (by omega)]
    rcases Nat.lt_or_ge 4503599627370496 r with h | h
    · rw [Int.compare_eq_gt.2 (by omega)]; rfl
    · rw [Int.compare_eq_eq.2 (by omega)]; rfl
  clear hm
  go_enter Tryz.func279, Tryz.ntmps279
  go_wp2_with fail
  refine CA.out.mono ?_
  rintro e w' ⟨rfl, rfl⟩
  go_wp2
  go_ret2
  exact ⟨rfl, rfl⟩
set_option maxRecDepth 100000 in
theorem inf_any (w : World) : Calls Tryz.prog 280 #[.int .i64 1] w fun e w' => e = .returned (.float .f64 9218868437227405312) ∧ w = w' := by
  have h1 : ∀ W : World, (callFunc 14 #[.int .u64 9218868437227405312]).run Tryz.prog W = .ok (.value (.float .f64 9218868437227405312)) W := fun W => run_f64from 9218868437227405312 W
  go_enter Tryz.func280, Tryz.ntmps280
  go_wp2
  go_ret
  exact ⟨rfl, rfl⟩
theorem ord_zero_eq {r : Nat} (h0 : 0 < r) (h : r < 9218868437227405312) : (FloatKind.f64.format.order r 0 == some .eq) = false := by
  show (Ieee.double.order r 0 == some .eq) = false
  rw [order_zero h0 h]; rfl
theorem ord_zero_lt {r : Nat} (h0 : 0 < r) (h : r < 9218868437227405312) : (FloatKind.f64.format.order r 0 == some .lt) = false := by
  show (Ieee.double.order r 0 == some .lt) = false
  rw [order_zero h0 h]; rfl
/-- The last product of Ldexp: of 2 to the -53, and of one. -/
theorem mul_small {m : Nat} (hm : 0 < m) (h2 : m < 4503599627370496) : floatBits .mul .f64 4368491638549381120 ((m.log2 + 2) * 4503599627370496 + (m * 2 ^ (52 - m.log2) - 4503599627370496)) = some m := by
  obtain ⟨f1, f2⟩ := full_bd hm (by omega)
  have hl : m.log2 < 52 := by
    obtain ⟨a, b⟩ := log2_bd hm
    have h3 : 2 ^ m.log2 < 2 ^ 52 := Nat.lt_of_le_of_lt a h2
    exact (Nat.pow_lt_pow_iff_right (show 1 < 2 by omega)).1 h3
  obtain ⟨y, hy⟩ : ∃ y, (m.log2 + 2) * 4503599627370496 + (m * 2 ^ (52 - m.log2) - 4503599627370496) = y := ⟨_, rfl⟩
  rw [hy]
  have hmy : mag y = y := Nat.mod_eq_of_lt (by omega)
  have hman : manF y = m * 2 ^ (52 - m.log2) := by rw [manF, if_neg (by omega)]; omega
  have hexp : expF y = (m.log2 : Int) - 1073 := by rw [expF, if_neg (by omega)]; omega
  show (((Ieee.double.read 4368491638549381120).product (Ieee.double.read y)).map Ieee.double.write) = _
  rw [show Ieee.double.read 4368491638549381120 = .number false 4503599627370496 (-105) by decide, read_fin (by rw [hmy]; omega), hmy, hman, hexp, show (y / 9223372036854775808 % 2 == 1) = false by rw [beq_eq_false_iff_ne]; omega]
  show some (Ieee.double.nearest false (4503599627370496 * (m * 2 ^ (52 - m.log2))) (-105 + ((m.log2 : Int) - 1073))) = _
  have hx := nearest_exact (m := m) (j := 104 - m.log2) (e := 0) (place := -105 + ((m.log2 : Int) - 1073)) hm (by omega) (by omega) (Or.inl rfl)
  have hp : 4503599627370496 * (m * 2 ^ (52 - m.log2)) = m * 2 ^ (104 - m.log2) := by
    have e : 2 ^ 52 * 2 ^ (52 - m.log2) = 2 ^ (104 - m.log2) := by rw [← Nat.pow_add, show 52 + (52 - m.log2) = 104 - m.log2 by omega]
    rw [show (4503599627370496 : Nat) = 2 ^ 52 by decide, Nat.mul_left_comm, e]
  rw [hp, hx]
  exact congrArg some (by omega)
theorem mul_one {m k : Nat} (h1 : 4503599627370496 ≤ m) (h2 : m < 9007199254740992) (hk0 : 1 ≤ k) (hk : k ≤ 2046) : floatBits .mul .f64 4607182418800017408 (k * 4503599627370496 + (m - 4503599627370496)) = some (k * 4503599627370496 + (m - 4503599627370496)) := by
  obtain ⟨y, hy⟩ : ∃ y, k * 4503599627370496 + (m - 4503599627370496) = y := ⟨_, rfl⟩
  rw [hy]
  have hmy : mag y = y := Nat.mod_eq_of_lt (by omega)
  have hman : manF y = m := by rw [manF, if_neg (by omega)]; omega
  have hexp : expF y = (k : Int) - 1075 := by rw [expF, if_neg (by omega)]; omega
  show (((Ieee.double.read 4607182418800017408).product (Ieee.double.read y)).map Ieee.double.write) = _
  rw [show Ieee.double.read 4607182418800017408 = .number false 4503599627370496 (-52) by decide, read_fin (by rw [hmy]; omega), hmy, hman, hexp, show (y / 9223372036854775808 % 2 == 1) = false by rw [beq_eq_false_iff_ne]; omega]
  show some (Ieee.double.nearest false (4503599627370496 * m) (-52 + ((k : Int) - 1075))) = _
  have hx := nearest_exact (m := m) (j := 52) (e := k - 1) (place := -52 + ((k : Int) - 1075)) (by omega) h2 (by omega) (Or.inr h1)
  rw [Nat.mul_comm 4503599627370496 m, show m * 4503599627370496 = m * 2 ^ 52 from rfl, hx]
  exact congrArg some (by omega)

theorem from_sum (k f : Nat) (W : World) : (callFunc 14 #[.int .u64 ((k : Int) * 4503599627370496 + (f : Int))]).run Tryz.prog W = .ok (.value (.float .f64 (k * 4503599627370496 + f))) W := by
  have h := run_f64from (k * 4503599627370496 + f) W
  rwa [Int.natCast_add, Int.natCast_mul] at h
/-- The bits of m times 2 to the p. -/
def ldB (m : Nat) (p : Int) : Nat := if m = 0 then 0 else min ((p + 1074).toNat * 4503599627370496 + m) 9218868437227405312
theorem split_sum {l q : Nat} (f1 : 4503599627370496 ≤ q) : (l + 1022) * 4503599627370496 + q = (l + 1023) * 4503599627370496 + (q - 4503599627370496) := by omega
theorem split_bits {X l q f y : Nat} (h : X = (l + 1022) * 4503599627370496 + q) (hf : q - 4503599627370496 = f) (hy : l + 1023 = y) (f1 : 4503599627370496 ≤ q) : X = y * 4503599627370496 + f := by
  rw [h, ← hf, ← hy]
  exact split_sum f1
theorem ldB_low {m : Nat} (hm : 0 < m) (h : m < 4503599627370496) : ldB m (-1074) = m := by
  rw [ldB, if_neg (by omega), show ((-1074 : Int) + 1074).toNat = 0 by decide, Nat.zero_mul, Nat.zero_add]
  exact Nat.min_eq_left (by omega)
theorem ldB_inf {m : Nat} {p : Int} (_hm : 0 < m) (h : 4503599627370496 ≤ m) (hp : 972 ≤ p) : ldB m p = 9218868437227405312 := by
  obtain ⟨e, he⟩ : ∃ e, (p + 1074).toNat = e := ⟨_, rfl⟩
  rw [ldB, if_neg (by omega), he]
  exact Nat.min_eq_right (by omega)
theorem ldB_fin {m k f : Nat} {p : Int} (h : 4503599627370496 ≤ m) (h2 : m < 9007199254740992) (hk : p + 1075 = (k : Int)) (hk1 : 1 ≤ k) (hk2 : k ≤ 2046) (hf : f = m - 4503599627370496) : ldB m p = k * 4503599627370496 + f := by
  obtain ⟨e, he⟩ : ∃ e, (p + 1074).toNat = e := ⟨_, rfl⟩
  rw [ldB, if_neg (by omega), he, Nat.min_eq_left (by omega)]
  omega
set_option maxRecDepth 100000 in
set_option maxHeartbeats 1000000 in
theorem ldexp_zero (p : Int) (w : World) : Calls Tryz.prog 235 #[.float .f64 0, .int .i64 p] w fun e w' => e = .returned (.float .f64 0) ∧ w = w' := by
  have hz : (FloatKind.f64.format.order 0 0 == some .eq) = true := by decide
  go_enter Tryz.func235, Tryz.ntmps235
  go_wp2
  go_ret
  exact ⟨rfl, rfl⟩
set_option maxRecDepth 100000 in
set_option maxHeartbeats 1000000 in
theorem ldexp_pos (m : Nat) (p : Int) (w : World) (hm : 0 < m) (h2 : m < 9007199254740992) (hp : -1074 ≤ p) (hp2 : p ≤ 100000) (hc : p = -1074 ∨ 4503599627370496 ≤ m) :
    Calls Tryz.prog 235 #[.float .f64 (fw m), .int .i64 p] w fun e w' => e = .returned (.float .f64 (ldB m p)) ∧ w = w' := by
  obtain ⟨f1, f2⟩ := full_bd hm h2
  have hb := log2_le52 hm h2
  have hfb := fw_bd h2
  have hfp := fw_pos hm
  have hmg := fw_mag h2
  have hlt52 : m < 4503599627370496 → m.log2 < 52 := fun hs => by
    obtain ⟨a, b⟩ := log2_bd hm
    have h3 : 2 ^ m.log2 < 2 ^ 52 := Nat.lt_of_le_of_lt a hs
    exact (Nat.pow_lt_pow_iff_right (show 1 < 2 by omega)).1 h3
  have hge52 : 4503599627370496 ≤ m → m.log2 = 52 := fun hs => log2_52 hs h2
  have hms := fun hs => mul_small hm hs
  have hfull : m.log2 = 52 → m * 2 ^ (52 - m.log2) = m := fun e => by rw [e, Nat.sub_self, Nat.pow_zero, Nat.mul_one]
  obtain ⟨X, hX⟩ : ∃ X, fw m = X := ⟨_, rfl⟩
  rw [hX] at hfb hfp hmg
  rw [hX]
  clear hX
  obtain ⟨q, hq⟩ : ∃ q, m * 2 ^ (52 - m.log2) = q := ⟨_, rfl⟩
  rw [hq] at f1 f2 hfp hms hfull
  clear hq
  obtain ⟨l, hl⟩ : ∃ l, m.log2 = l := ⟨_, rfl⟩
  rw [hl] at hb hfp hlt52 hge52 hms hfull
  clear hl
  obtain ⟨f, hf⟩ : ∃ f, q - 4503599627370496 = f := ⟨_, rfl⟩
  obtain ⟨y, hy⟩ : ∃ y, l + 1023 = y := ⟨_, rfl⟩
  have hx : X = y * 4503599627370496 + f := split_bits hfp hf hy f1
  have hf2 : f < 4503599627370496 := by omega
  have hyb : y ≤ 1075 := by omega
  have hya : 1023 ≤ y := by omega
  have C1 := fun W => isInf_any X W (by omega)
  have C2 := fun W => isNaN_any X W
  rw [inf_no (by rw [hmg]; omega)] at C1
  rw [nan_no (by rw [hmg]; omega)] at C2
  have C3 := fun W => normalize_any X W (by omega) (by omega)
  have hz := ord_zero_eq (r := X) (by omega) (by omega)
  have hlt := ord_zero_lt (r := X) (by omega) (by omega)
  have hbits := fun W => run_f64bits X W
  have han := low_andNot f y hf2 (by omega)
  rw [← hx] at han
  have had := and_exp y (by omega)
  have hdv : (X : Int) / 4503599627370496 = (y : Int) := by omega
  have CI := Lib.hid C1
  have CN := Lib.hid C2
  have CM := Lib.hid C3
  have CF := Lib.hid (fun W => inf_any W)
  by_cases hs : m < 4503599627370496
  · have hp0 : p = -1074 := by omega
    subst hp0
    have hl := hlt52 hs
    have hms := hms hs
    have hyc : y ≤ 1074 := by omega
    obtain ⟨k, hk⟩ : ∃ k, l + 2 = k := ⟨_, rfl⟩
    have hor := or_exp f k hf2 (by omega)
    rw [hf, hk] at hms
    have hke : (-1074 : Int) + ((y : Int) - 1023) + 53 + 1023 = (k : Int) := by omega
    have hfr := fun W => from_sum k f W
    have hmul : ∀ t W, (binOp .mul t (.float .f64 4368491638549381120) (.float .f64 (k * 4503599627370496 + f))).run Tryz.prog W = .ok (.float .f64 m) W := fun t W => run_float_arith W .mul t .f64 _ _ _ hms
    have HE := Lib.hid (ldB_low hm hs)
    clear f1 f2 hb hfb hfp hmg hf hy hx hl hk hms hs hc C1 C2 C3 hm h2 hlt52 hge52 hfull hf2
    go_enter Tryz.func235, Tryz.ntmps235
    go_wp2_with fail
    refine (CI.out _).mono ?_
    rintro e w' ⟨rfl, rfl⟩
    go_wp2_with fail
    refine (CN.out _).mono ?_
    rintro e w' ⟨rfl, rfl⟩
    go_wp2_with fail
    refine (CM.out _).mono ?_
    rintro e w' ⟨rfl, rfl⟩
    go_wp2_with fail
    go_wp2
    go_ret
    exact ⟨by rw [HE.out]; rfl, rfl⟩
  · have hl := hge52 (by omega)
    have hqm := hfull hl
    have hfm : f = m - 4503599627370496 := by omega
    have hyl : y = 1075 := by omega
    by_cases hov : 972 ≤ p
    · have HE := Lib.hid (ldB_inf hm (by omega) hov)
      have hp0 : (1023 : Int) < p + ((y : Int) - 1023) := by omega
      have hp1 : ¬ p + ((y : Int) - 1023) < -1075 := by omega
      have hp3 : p + ((y : Int) - 1023) ≤ 200000 := by omega
      clear f1 f2 hb hfb hfp hmg hf hy hx hl hms hs hc C1 C2 C3 hm h2 hlt52 hge52 hfull hf2 hqm hfm hyl hov
      go_enter Tryz.func235, Tryz.ntmps235
      go_wp2_with fail
      refine (CI.out _).mono ?_
      rintro e w' ⟨rfl, rfl⟩
      go_wp2_with fail
      refine (CN.out _).mono ?_
      rintro e w' ⟨rfl, rfl⟩
      go_wp2_with fail
      refine (CM.out _).mono ?_
      rintro e w' ⟨rfl, rfl⟩
      go_wp2_with fail
      refine (CF.out _).mono ?_
      rintro e w' ⟨rfl, rfl⟩
      go_wp2
      go_ret
      exact ⟨by rw [HE.out]; rfl, rfl⟩
    · obtain ⟨k, hk⟩ : ∃ k : Nat, p + 1075 = (k : Int) := ⟨(p + 1075).toNat, by omega⟩
      have hk1 : 1 ≤ k := by omega
      have hk2 : k ≤ 2046 := by omega
      have hor := or_exp f k hf2 (by omega)
      have hmo := mul_one (m := m) (k := k) (by omega) h2 hk1 hk2
      rw [← hfm] at hmo
      have hke : p + ((y : Int) - 1023) + 1023 = (k : Int) := by omega
      have hfr := fun W => from_sum k f W
      have hmul : ∀ t W, (binOp .mul t (.float .f64 4607182418800017408) (.float .f64 (k * 4503599627370496 + f))).run Tryz.prog W = .ok (.float .f64 (k * 4503599627370496 + f)) W := fun t W => run_float_arith W .mul t .f64 _ _ _ hmo
      have HE := Lib.hid (ldB_fin (by omega) h2 hk hk1 hk2 hfm)
      have hp0 : ¬ (1023 : Int) < p + ((y : Int) - 1023) := by omega
      have hp1 : ¬ p + ((y : Int) - 1023) < -1075 := by omega
      have hp2 : ¬ p + ((y : Int) - 1023) < -1022 := by omega
      clear f1 f2 hb hfb hfp hmg hf hy hx hl hms hs hc C1 C2 C3 hm h2 hlt52 hge52 hfull hf2 hqm hfm hyl hov hmo hk
      go_enter Tryz.func235, Tryz.ntmps235
      go_wp2_with fail
      refine (CI.out _).mono ?_
      rintro e w' ⟨rfl, rfl⟩
      go_wp2_with fail
      refine (CN.out _).mono ?_
      rintro e w' ⟨rfl, rfl⟩
      go_wp2_with fail
      refine (CM.out _).mono ?_
      rintro e w' ⟨rfl, rfl⟩
      go_wp2_with fail
      go_ret
      exact ⟨by rw [HE.out]; rfl, rfl⟩
theorem ldB_any (m : Nat) (p : Int) (w : World) (h2 : m < 9007199254740992) (hp : -1074 ≤ p) (hp2 : p ≤ 100000) (hc : p = -1074 ∨ 4503599627370496 ≤ m ∨ m = 0) :
    Calls Tryz.prog 235 #[.float .f64 (fw m), .int .i64 p] w fun e w' => e = .returned (.float .f64 (ldB m p)) ∧ w = w' := by
  rcases Nat.eq_zero_or_pos m with rfl | hm
  · exact ldexp_zero p w
  · exact ldexp_pos m p w hm h2 hp hp2 (by omega)
set_option maxRecDepth 100000 in
theorem ldexp_any (m : Nat) (p : Int) (w : World) (h2 : m < 9007199254740992) (hp : -1074 ≤ p) (hp2 : p ≤ 100000) (hc : p = -1074 ∨ 4503599627370496 ≤ m ∨ m = 0) :
    Calls Tryz.prog 176 #[.float .f64 (floatOfInt .f64 (m : Int)), .int .i64 p] w fun e w' => e = .returned (.float .f64 (ldB m p)) ∧ w = w' := by
  rw [float_nat h2]
  have CL := Lib.hid (ldB_any m p w h2 hp hp2 hc)
  clear h2 hp hp2 hc
  obtain ⟨X, hX⟩ : ∃ X, fw m = X := ⟨_, rfl⟩
  rw [hX] at CL ⊢
  clear hX
  go_enter Tryz.func176, Tryz.ntmps176
  go_wp2_with fail
  refine CL.out.mono ?_
  rintro e w' ⟨rfl, rfl⟩
  go_wp2
  go_ret
  exact ⟨rfl, rfl⟩
end Go.Proofs.YtbbbdcohkfijoaaGreatDoor

namespace Go.Proofs.YtbbbdcohkfijoaaGreatDoor
open Go.RowKit Go.Lib

theorem bits_up {N : Nat} (_h : N < B32 ^ 256) : N < 2 ^ bitsN (dig B32 N) := by
  by_cases h0 : dig B32 N = []
  · have := dig_nil (by decide) h0
    rw [bitsN, if_pos h0]
    omega
  have hx := lim_dig N
  have hv := dig_vl (B := B32) (by decide) N
  obtain ⟨l, y, e0⟩ := snoc_of_ne h0
  rw [e0] at hx hv h0 ⊢
  have hll := lim_append.1 hx
  have hy : y < 4294967296 := lim_one.1 hll.2
  have e : Lib.bitLen y = Lib.bitLenAux 32 y := Lib.bitLenAux_fuel 32 y hy 64 (by omega)
  have hb : y < 2 ^ Lib.bitLen y := by
    by_cases hy0 : y = 0
    · subst hy0; decide
    · obtain ⟨a, b, c, d⟩ := bitLenAux_bounds 32 y hy hy0
      rw [← e] at d
      exact d
  have eb : bitsN (l ++ [y]) = 32 * l.length + Lib.bitLen y := by
    rw [bitsN, if_neg h0, List.length_append, List.length_singleton, Nat.add_sub_cancel, List.getD_eq_getElem?_getD, List.getElem?_append_right (Nat.le_refl _), Nat.sub_self]
    show l.length * 32 + Lib.bitLen y = _
    omega
  rw [eb, ← hv, vl_snoc, Nat.pow_add, Nat.pow_mul]
  have h1 := vl_lt hll.1
  have h2 : B32 ^ l.length * (y + 1) ≤ B32 ^ l.length * 2 ^ Lib.bitLen y := Nat.mul_le_mul_left _ hb
  rw [Nat.mul_add] at h2
  show _ < (2 ^ 32) ^ l.length * _
  have h3 : (2 ^ 32) ^ l.length = B32 ^ l.length := rfl
  rw [h3]
  omega
theorem bits_low {N : Nat} (h : 0 < N) : 2 ^ (bitsN (dig B32 N) - 1) ≤ N ∧ 1 ≤ bitsN (dig B32 N) := by
  have h0 : dig B32 N ≠ [] := fun e => by have := dig_nil (by decide) e; omega
  have := bitsN_low (lim_dig N) h0 (dig_norm (by decide) N).2
  rwa [dig_vl (by decide)] at this
theorem bits_lt {N k : Nat} (h : N < 2 ^ k) : bitsN (dig B32 N) ≤ k := by
  rcases Nat.eq_zero_or_pos N with h0 | h0
  · subst h0
    rw [show dig B32 0 = [] by decide, bitsN, if_pos rfl]
    omega
  · have := (bits_low h0).1
    have := (Nat.pow_lt_pow_iff_right (show 1 < 2 by omega)).1 (Nat.lt_of_le_of_lt this h)
    omega
/-- N / D times 10 to the k, rounded. -/
def sciM (N D : Nat) (k : Int) : Nat := rnd (N * 10 ^ k.toNat) (D * 10 ^ (-k).toNat)
/-- What Sci tells: digits just as many as asked for, rounded once; with one more power they would be too many. -/
structure SciOk (N D p : Nat) (P : Int) (M : Nat) : Prop where
  val : M = sciM N D ((p : Int) - P)
  low : 10 ^ p ≤ M
  high : M < 10 ^ (p + 1)
  more : 10 ^ (p + 1) ≤ sciM N D ((p : Int) - P + 1)
  bd : -400 ≤ P ∧ P ≤ 400
end Go.Proofs.YtbbbdcohkfijoaaGreatDoor

namespace Go.Proofs.YtbbbdcohkfijoaaGreatDoor
open Go.RowKit Go.Lib

/-- timesTwo by the opposite of p. -/
theorem timesTwo_rd (N D : Nat) (p : Int) (v : Value) (w : World) (h0 : -100000 ≤ p) (h1 : p ≤ 100000) (hA : rdA N p < B32 ^ 256) (hB : rdB D p < B32 ^ 256) (hf : Frac w v N D) :
    Calls Tryz.prog 219 #[v, .int .i64 (-p)] w fun e w' => (∃ v', e = .returned v' ∧ Frac w' v' (rdA N p) (rdB D p)) ∧ Below w.heap.size w w' := by
  unfold rdA rdB at *
  by_cases h : p ≤ 0
  · obtain ⟨k, rfl⟩ : ∃ k : Nat, p = -(k : Int) := ⟨(-p).toNat, by omega⟩
    rw [Int.neg_neg, Int.toNat_natCast] at *
    rw [show (-(k : Int)).toNat = 0 by omega, Nat.pow_zero, Nat.mul_one] at *
    exact timesTwo_up N D k v w (by omega) hA hf
  · obtain ⟨k, rfl⟩ : ∃ k : Nat, p = (k : Int) := ⟨p.toNat, by omega⟩
    rw [Int.toNat_natCast] at *
    rw [show (-(k : Int)).toNat = 0 by omega, Nat.pow_zero, Nat.mul_one] at *
    exact timesTwo_down N D k v w (by omega) (by omega) hB hf
theorem room64 : 18446744073709551616 < B32 ^ 256 := by
  have h : B32 ^ 2 < B32 ^ 256 := Nat.pow_lt_pow_right (by decide) (by omega)
  exact Nat.lt_of_le_of_lt (by decide) h
set_option maxRecDepth 100000 in
set_option maxHeartbeats 2000000 in
theorem read_core (s : ByteArray) (x K P0 : Int) (n0 N D a b : Nat) (R : Nat → Nat) (w : World) (hs : s.size ≤ 1024)
    (hx : min (max x (-1349)) 310 = K) (_hK0 : -1349 ≤ K) (_hK1 : K ≤ 310) (hP0 : -1074 ≤ P0) (hP1 : P0 ≤ 6000)
    (ha : a ≤ 6000) (hb : b ≤ 6000) (hPe : max ((a : Int) - (b : Int) - 53) (-1074) = P0)
    (hpr : parseRes s = (dig B32 n0, 0))
    (hbN : bitsN (dig B32 N) = a) (hbD : bitsN (dig B32 D) = b) (hNl : (dig B32 N).length ≤ 1000) (hDl : (dig B32 D).length ≤ 1000)
    (cT : ∀ W v, Frac W v n0 1 → Calls Tryz.prog 194 #[v, .int .i64 K] W fun e w' => (∃ v', e = .returned v' ∧ Frac w' v' N D) ∧ Below W.heap.size W w')
    (cW : ∀ j : Nat, j ≤ 2 → ∀ W v, Frac W v N D → Calls Tryz.prog 219 #[v, .int .i64 (-(P0 + (j : Int)))] W fun e w' => (∃ v', e = .returned v' ∧ Frac w' v' (rdA N (P0 + (j : Int))) (rdB D (P0 + (j : Int)))) ∧ Below W.heap.size W w')
    (cN : ∀ j : Nat, j ≤ 2 → ∀ W v, Frac W v (rdA N (P0 + (j : Int))) (rdB D (P0 + (j : Int))) → Calls Tryz.prog 220 #[v] W (Makes .u32 275 W (dig B32 (rdM N D (P0 + (j : Int))))))
    (hM : ∀ j : Nat, j ≤ 2 → rdM N D (P0 + (j : Int)) < 18446744073709551616) (hM2 : rdM N D (P0 + 2) < 9007199254740992)
    (cL : ∀ j : Nat, j ≤ 2 → (∀ i : Nat, i < j → 9007199254740992 ≤ rdM N D (P0 + (i : Int))) → rdM N D (P0 + (j : Int)) < 9007199254740992 → ∀ W, Calls Tryz.prog 176 #[.float .f64 (floatOfInt .f64 (rdM N D (P0 + (j : Int)) : Int)), .int .i64 (P0 + (j : Int))] W fun e w' => e = .returned (.float .f64 (R j)) ∧ W = w') :
    Calls Tryz.prog 158 #[.string s, .int .i64 x] w fun e w' => (∃ j : Nat, j ≤ 2 ∧ (∀ i : Nat, i < j → 9007199254740992 ≤ rdM N D (P0 + (i : Int))) ∧ rdM N D (P0 + (j : Int)) < 9007199254740992 ∧ e = .returned (.tuple #[.float .f64 (R j), .int .i64 0])) ∧ Below w.heap.size w w' := by
  have cP := parse_any s w (by omega)
  rw [hpr] at cP
  have CP := Lib.hid cP
  have CO := Lib.hid (fun (W : World) => from_small 1 W (by omega))
  have CT := Lib.hid cT
  have CW := Lib.hid cW
  have CN := Lib.hid cN
  have CL := Lib.hid cL
  have HM := Lib.hid hM
  have HM2 := Lib.hid hM2
  have cB := fun (W : World) (A : Option Addr) (c : Nat) (h : Rd .u32 W A (dig B32 N)) => bits_any A c (dig B32 N) W (lim_dig _) hNl h
  have cC := fun (W : World) (A : Option Addr) (c : Nat) (h : Rd .u32 W A (dig B32 D)) => bits_any A c (dig B32 D) W (lim_dig _) hDl h
  rw [hbN] at cB
  rw [hbD] at cC
  have CB := Lib.hid cB
  have CC := Lib.hid cC
  have hw1 : IntKind.i64.wrap ((a : Int) - (b : Int)) = (a : Int) - (b : Int) := IntWalk.i64_in _ (by omega)
  have hw2 : IntKind.i64.wrap ((a : Int) - (b : Int) - 52) = (a : Int) - (b : Int) - 52 := IntWalk.i64_in _ (by omega)
  have hw3 : IntKind.i64.wrap ((a : Int) - (b : Int) - 52 - 1) = (a : Int) - (b : Int) - 52 - 1 := IntWalk.i64_in _ (by omega)
  have hmx : max ((a : Int) - (b : Int) - 52 - 1) (-1074) = P0 := by rw [← hPe]; congr 1; omega
  have HR := Lib.hid (And.intro hw1 (And.intro hw2 (And.intro hw3 hmx)))
  clear cP cT cW cN cL cB cC hM hM2 hpr hbN hbD hNl hDl hPe hw1 hw2 hw3 hmx
  go_enter Tryz.func158, Tryz.ntmps158
  go_wp2_with fail
  refine CP.out.mono ?_
  rintro e w1 ⟨v1, rfl, o1, n1⟩
  replace o1 : Own .u32 w1 w.heap.size 275 v1 (dig B32 n0) := o1
  obtain ⟨A1, c1, rfl, e1⟩ := o1.slice_
  have Q1 := Lib.hid o1.rd
  have HB := Lib.hid n1
  clear o1 n1
  go_wp2_with fail
  refine (CO.out _).mono ?_
  rintro e w2 ⟨v2, rfl, o2, n2⟩
  obtain ⟨A2, c2, rfl, e2⟩ := o2.slice_
  have HF := Lib.hid (show Frac w2 (.agg #[.slice A1 (dig B32 n0).length c1, .slice A2 (dig B32 1).length c2]) n0 1 from ⟨A1, A2, c1, c2, rfl, e1, e2, Q1.out.below n2, o2.rd⟩)
  have HB := Lib.hid (HB.out.trans (n2.mono HB.out.size))
  clear o2 n2 Q1
  go_wp2_with fail
  refine (CT.out _ _ HF.out).mono ?_
  rintro e w3 ⟨⟨v3, rfl, Ao, Au, co, cu, rfl, e3, e4, q1, q2⟩, n3⟩
  have hB := HB.out.trans (n3.mono HB.out.size)
  have hb1 := (Below.refl w3.heap.size w3).alloc (Nat.le_refl _) (.cells #[.slice Ao (dig B32 N).length co, .slice Au (dig B32 D).length cu] 243)
  have t1 := Two.new w3 (.slice Ao (dig B32 N).length co) (.slice Au (dig B32 D).length cu) 243
  have HB := Lib.hid (hB.trans (hb1.mono hB.size))
  have hF : ∀ W, Below w3.heap.size w3 W → Frac W (.agg #[.slice Ao (dig B32 N).length co, .slice Au (dig B32 D).length cu]) N D := fun W h => ⟨Ao, Au, co, cu, rfl, e3, e4, q1.below h, q2.below h⟩
  have HF := Lib.hid hF
  have HQ1 := Lib.hid (q1.below hb1)
  have HQ2 := Lib.hid (q2.below hb1)
  have hsz : w3.heap.size ≤ (w3.alloc (.cells #[.slice Ao (dig B32 N).length co, .slice Au (dig B32 D).length cu] 243)).heap.size := by rw [World.size_alloc]; omega
  obtain ⟨W2, hW2⟩ : ∃ W2, w3.alloc (.cells #[.slice Ao (dig B32 N).length co, .slice Au (dig B32 D).length cu] 243) = W2 := ⟨_, rfl⟩
  rw [hW2] at HQ1 HQ2 t1 hb1 HB hsz
  have HW2 := Lib.hid hW2
  have HT := Lib.hid t1
  have Hb1 := Lib.hid hb1
  obtain ⟨f0, f1, z0, z1, fl⟩ := t1.facts
  clear q1 q2 hb1 t1 hB hF hW2 n3
  go_wp2_with fail
  rw [HW2.out]
  have hR := Below.refl W2.heap.size W2
  obtain ⟨hw1, hw2, hw3, hmx⟩ := HR.out
  go_region_with (first
    | (go_at_call 218; (with_reducible refine (CB.out _ _ _ (HQ1.out.below hR.drew)).mono ?_); rintro e W3 ⟨rfl, h3⟩; have b3 : Below W2.heap.size W2 W3 := h3 ▸ hR.drew; obtain ⟨f0, f1, z0, z1, _⟩ := (HT.out.below b3).facts; clear h3)
    | (go_at_call 218; (with_reducible refine (CC.out _ _ _ (HQ2.out.below b3)).mono ?_); rintro e W4 ⟨rfl, h4⟩; have b4 : Below W2.heap.size W2 W4 := h4 ▸ b3; clear h4))
  all_goals
    clear hR f0 f1 z0 z1 hw1 hw2 hw3 hmx
    have HA := Lib.hid (HF.out _ (Hb1.out.trans (b4.mono hsz)))
    have CW0 := CW.out 0 (by omega)
    have CN0 := CN.out 0 (by omega)
    have HM0 := HM.out 0 (by omega)
    simp only [Int.natCast_zero, Int.add_zero] at CW0 CN0 HM0
    obtain ⟨f0, f1, z0, z1, _⟩ := (HT.out.below b4).facts
    have hk0 : IntKind.i64.wrap (-P0) = -P0 := IntWalk.i64_in _ (by omega)
    go_wp2_with fail
    refine (CW0 _ _ HA.out).mono ?_
    rintro e w6 ⟨⟨v6, rfl, hf6⟩, h6⟩
    have HF6 := Lib.hid hf6
    have b6 : Below W2.heap.size W2 w6 := b4.trans (h6.mono b4.size)
    obtain ⟨A3, A4, c3, c4, rfl, _⟩ := hf6
    go_wp2_with fail
    refine (CN0 _ _ HF6.out).mono ?_
    rintro e w7 ⟨v7, rfl, o7, h7⟩
    obtain ⟨A7, c7, rfl, hc1, hc2⟩ := o7.slice
    have b7 : Below W2.heap.size W2 w7 := b6.trans (h7.mono b6.size)
    have hl7 := len_room (N := rdM N D P0) (Nat.lt_trans HM0 room64)
    have Q7 := Lib.hid o7.rd
    clear h6 h7 b6 b4 b3 f0 f1 z0 z1 hk0 CW0 CN0 HF6 HA o7
    go_wp2
    go_loopw [9, 10] (fun pw pt wr => ∃ (j : Nat) (A : Option Addr) (c : Nat), j ≤ 2 ∧ pw = .int .i64 (P0 + (j : Int)) ∧ pt = .slice A (dig B32 (rdM N D (P0 + (j : Int)))).length c ∧ (dig B32 (rdM N D (P0 + (j : Int)))).length ≤ c ∧ c ≤ maxLen ∧ Rd .u32 wr A (dig B32 (rdM N D (P0 + (j : Int)))) ∧ (∀ i : Nat, i < j → 9007199254740992 ≤ rdM N D (P0 + (i : Int))) ∧ Below W2.heap.size W2 wr) (fun pw _ _ => (P0 + 2 - RowKit.intOf pw).toNat)
    case atStart => exact ⟨0, A7, c7, by omega, by simp, by simp, by simpa using hc1, hc2, by simpa using Q7.out, fun i h => absurd h (Nat.not_lt_zero i), b7⟩
    case round =>
      obtain ⟨j, A, c, hj, rfl, rfl, hca, hcm, hrd, hl, bw⟩ := hrel
      have hl := Lib.hid hl
      have hMj := HM.out j hj
      have hM2 := HM2.out
      have CLj := CL.out j hj hl.out
      have HGT := Lib.hid (fun h : 9007199254740992 ≤ rdM N D (P0 + (j : Int)) => h)
      have hjl : 9007199254740992 ≤ rdM N D (P0 + (j : Int)) → j < 2 := fun h => by
        rcases Nat.lt_or_ge j 2 with h3 | h3
        · exact h3
        · obtain rfl : j = 2 := by omega
          exact absurd (Nat.lt_of_le_of_lt h hM2) (Nat.lt_irrefl _)
      have HE := Lib.hid (fun (h : rdM N D (P0 + (j : Int)) < 9007199254740992) => h)
      obtain ⟨m, hm⟩ : ∃ m, rdM N D (P0 + (j : Int)) = m := ⟨_, rfl⟩
      rw [hm] at hca hrd hMj CLj HGT HE hjl ⊢
      have hm256 : m < B32 ^ 256 := Nat.lt_trans hMj room64
      have hln := len_room hm256
      have hup := bits_up hm256
      have cBm := fun (W : World) (h : Rd .u32 W A (dig B32 m)) => bits_any A c (dig B32 m) W (lim_dig _) hln h
      have cWm := fun (W : World) (h : Rd .u32 W A (dig B32 m)) => word_any A c (dig B32 m) W (lim_dig _) hln hca hcm h
      have hlow : low64 (dig B32 m) = m := by rw [low64_mod (lim_dig m), dig_vl (by decide)]; exact Nat.mod_eq_of_lt hMj
      rw [hlow] at cWm
      have hb8 : bitsN (dig B32 m) ≤ 64 := bits_lt hMj
      have hbm : m < 9007199254740992 → bitsN (dig B32 m) ≤ 53 := fun h => bits_lt h
      obtain ⟨β, hβ⟩ : ∃ β, bitsN (dig B32 m) = β := ⟨_, rfl⟩
      rw [hβ] at hup cBm hb8 hbm
      have CBm := Lib.hid cBm
      have CWm := Lib.hid cWm
      have HRd := Lib.hid hrd
      have HM' := Lib.hid hm
      clear cBm cWm hlow hβ hm hrd hm256
      by_cases hgt : 9007199254740992 ≤ m
      · have hj1 := hjl hgt
        have hβ53 : 53 < β := by
          rcases Nat.lt_or_ge 53 β with h3 | h3
          · exact h3
          · have h4 : 2 ^ β ≤ 2 ^ 53 := Nat.pow_le_pow_right (by omega) h3
            exact absurd (Nat.lt_of_lt_of_le hup h4) (Nat.not_lt.2 hgt)
        have HG := Lib.hid (show 9007199254740992 ≤ rdM N D (P0 + (j : Int)) by rw [HM'.out]; exact hgt)
        have HA := Lib.hid (HF.out _ (Hb1.out.trans (bw.mono hsz)))
        have CW1 := CW.out (j + 1) (by omega)
        have CN1 := CN.out (j + 1) (by omega)
        have HM1 := Nat.lt_trans (HM.out (j + 1) (by omega)) room64
        rw [show P0 + ((j + 1 : Nat) : Int) = P0 + (j : Int) + 1 by omega] at CW1 CN1 HM1
        have hl1 := len_room HM1
        obtain ⟨f0, f1, z0, z1, _⟩ := (HT.out.below bw).facts
        have hk1 : IntKind.i64.wrap (-(P0 + (j : Int) + 1)) = -(P0 + (j : Int) + 1) := IntWalk.i64_in _ (by omega)
        clear hup hbm hjl hMj hM2 HM1 hgt CLj
        go_wp2_with fail
        refine (CBm.out _ HRd.out).mono ?_
        rintro e w' ⟨rfl, rfl⟩
        go_wp2_with fail
        refine (CW1 _ _ HA.out).mono ?_
        rintro e w8 ⟨⟨v8, rfl, hf8⟩, h8⟩
        have HF8 := Lib.hid hf8
        have b8 := bw.trans (h8.mono bw.size)
        obtain ⟨A4, A5, c4, c5, rfl, _⟩ := hf8
        go_wp2_with fail
        refine (CN1 _ _ HF8.out).mono ?_
        rintro e w9 ⟨v9, rfl, o9, h9⟩
        obtain ⟨A9, c9, rfl, hd1, hd2⟩ := o9.slice
        have b9 := b8.trans (h9.mono b8.size)
        have Q9 := Lib.hid o9.rd
        clear h8 h9 b8 o9
        go_wp2
        go_roundw
        case rel => exact ⟨j + 1, A9, c9, by omega, by go_num, by rw [show P0 + ((j + 1 : Nat) : Int) = P0 + (j : Int) + 1 by omega], by rw [show P0 + ((j + 1 : Nat) : Int) = P0 + (j : Int) + 1 by omega]; exact hd1, hd2, by rw [show P0 + ((j + 1 : Nat) : Int) = P0 + (j : Int) + 1 by omega]; exact Q9.out, fun i hi => by
          by_cases e : i = j
          · subst e; exact HG.out
          · exact hl.out i (by omega), b9⟩
        case measure => simp [RowKit.intOf]; omega
      · have hβ53 : ¬ 53 < β := by have := hbm (by omega); omega
        have hm53 : m < 9007199254740992 := by omega
        have CL' := Lib.hid (CLj hm53)
        have HX := Lib.hid (show rdM N D (P0 + (j : Int)) < 9007199254740992 by rw [HM'.out]; exact hm53)
        clear hup hbm hjl hM2 hgt CLj hm53
        go_wp2_with fail
        refine (CBm.out _ HRd.out).mono ?_
        rintro e w' ⟨rfl, rfl⟩
        go_wp2_with fail
        refine (CWm.out _ HRd.out).mono ?_
        rintro e w' ⟨rfl, rfl⟩
        go_wp2_with fail
        refine (CL'.out _).mono ?_
        rintro e w' ⟨rfl, rfl⟩
        go_wp2
        go_ret2
        exact ⟨⟨j, hj, hl.out, HX.out, rfl⟩, HB.out.trans (bw.mono HB.out.size)⟩
end Go.Proofs.YtbbbdcohkfijoaaGreatDoor

namespace Go.Proofs.YtbbbdcohkfijoaaGreatDoor
open Go.RowKit Go.Lib

theorem bits_room {N k : Nat} (h : N < B32 ^ k) : bitsN (dig B32 N) ≤ 32 * k := by
  refine bits_lt ?_
  rw [Nat.pow_mul]
  exact h
theorem rd_bd {N D a b : Nat} {p : Int} (hb : 1 ≤ b) (hN : N < 2 ^ a) (hD : 2 ^ (b - 1) ≤ D) (hp : (a : Int) - (b : Int) - 53 ≤ p) : rdM N D p < 18446744073709551616 := by
  have h1 := rnd_le (rdA N p) (rdB D p)
  have hB : 0 < rdB D p := rdB_pos (Nat.lt_of_lt_of_le (Nat.pow_pos (by omega)) hD) p
  have h2 : rdA N p / rdB D p < 18014398509481984 := by
    rw [Nat.div_lt_iff_lt_mul hB]
    unfold rdA rdB
    have e1 : N * 2 ^ (-p).toNat < 2 ^ a * 2 ^ (-p).toNat := Nat.mul_lt_mul_of_pos_right hN (Nat.pow_pos (by omega))
    have e2 : 2 ^ 54 * (2 ^ (b - 1) * 2 ^ p.toNat) ≤ 2 ^ 54 * (D * 2 ^ p.toNat) := Nat.mul_le_mul_left _ (Nat.mul_le_mul_right _ hD)
    rw [← Nat.pow_add] at e1
    rw [← Nat.pow_add, ← Nat.pow_add] at e2
    have e3 : 2 ^ (a + (-p).toNat) ≤ 2 ^ (54 + (b - 1 + p.toNat)) := Nat.pow_le_pow_right (by omega) (by omega)
    have e4 : 2 ^ 54 * (D * 2 ^ p.toNat) = 18014398509481984 * (D * 2 ^ p.toNat) := rfl
    omega
  unfold rdM
  omega
theorem timesTen_rd (n : Nat) (K : Int) (v : Value) (w : World) (h0 : -1349 ≤ K) (h1 : K ≤ 310) (hn : n < B32 ^ 129) (hf : Frac w v n 1) :
    Calls Tryz.prog 194 #[v, .int .i64 K] w fun e w' => (∃ v', e = .returned v' ∧ Frac w' v' (n * 10 ^ K.toNat) (10 ^ (-K).toNat)) ∧ Below w.heap.size w w' := by
  have hpow : ∀ a, a ≤ 256 → B32 ^ a ≤ B32 ^ 256 := fun a ha => Nat.pow_le_pow_right (by decide) ha
  by_cases h : 0 ≤ K
  · obtain ⟨k, rfl⟩ : ∃ k : Nat, K = (k : Int) := ⟨K.toNat, by omega⟩
    have e1 : ((k : Int)).toNat = k := by omega
    have e2 : (-(k : Int)).toNat = 0 := by omega
    rw [e1, e2, Nat.pow_zero]
    have h10 : 10 ^ k < B32 ^ 40 := ten_lt _ _ (by omega)
    exact timesTen_up n 1 k v w (by omega) (Nat.lt_of_lt_of_le h10 (hpow _ (by omega))) (Nat.lt_of_lt_of_le hn (hpow _ (by omega))) (Nat.lt_of_lt_of_le (prod_room hn h10 (n := 169) (by omega)) (hpow _ (by omega))) hf
  · obtain ⟨k, rfl⟩ : ∃ k : Nat, K = -(k : Int) := ⟨(-K).toNat, by omega⟩
    have e1 : (-(k : Int)).toNat = 0 := by omega
    have e2 : (-(-(k : Int))).toNat = k := by omega
    rw [e1, e2, Nat.pow_zero, Nat.mul_one]
    have h10 : 10 ^ k < B32 ^ 169 := ten_lt _ _ (by omega)
    have h10' := Nat.lt_of_lt_of_le h10 (hpow _ (by omega))
    have h := timesTen_down n 1 k v w (by omega) (by omega) h10' (Nat.one_lt_pow (by omega) (by decide)) (by rw [Nat.one_mul]; exact h10') hf
    rw [Nat.one_mul] at h
    exact h
/-- Read's answer at a power that is near enough. -/
theorem read_mid (s : ByteArray) (x K : Int) (w : World) (hs : s.size ≤ 1024) (hd : isDec s = true) (hx : min (max x (-1349)) 310 = K) :
    Calls Tryz.prog 158 #[.string s, .int .i64 x] w fun e w' => (∃ r, e = .returned (.tuple #[.float .f64 r, .int .i64 0]) ∧ Near (2 * (pv s.data.toList * 10 ^ K.toNat) * S1074) (10 ^ (-K).toNat) r) ∧ Below w.heap.size w w' := by
  have hK0 : -1349 ≤ K := by omega
  have hK1 : K ≤ 310 := by omega
  obtain ⟨n, hn⟩ : ∃ n, pv s.data.toList = n := ⟨_, rfl⟩
  have hnb : n < B32 ^ 129 := by
    rw [← hn]
    refine Nat.lt_trans (pv_lt (isDec_iff.1 hd).2) (ten_lt _ _ ?_)
    rw [ba_len]
    omega
  have hpow : ∀ a c, a ≤ c → B32 ^ a ≤ B32 ^ c := fun a c hac => Nat.pow_le_pow_right (by decide) hac
  have hpr : parseRes s = (dig B32 n, 0) := by rw [parseRes, if_pos hd, hn, natRes_ok (len_dig (Nat.lt_of_lt_of_le hnb (hpow _ _ (by omega))))]
  rw [hn]
  obtain ⟨N, hN⟩ : ∃ N, n * 10 ^ K.toNat = N := ⟨_, rfl⟩
  obtain ⟨D, hD⟩ : ∃ D, 10 ^ (-K).toNat = D := ⟨_, rfl⟩
  have cT := fun (W : World) (v : Value) (hf : Frac W v n 1) => timesTen_rd n K v W hK0 hK1 hnb hf
  rw [hN, hD] at cT
  have hNb : N < B32 ^ 169 := by rw [← hN]; exact prod_room hnb (ten_lt _ 40 (by omega)) (by omega)
  have hDb : D < B32 ^ 169 := by rw [← hD]; exact ten_lt _ _ (by omega)
  have hDp : 0 < D := by rw [← hD]; exact Nat.pow_pos (by omega)
  rw [hN, hD]
  have hN256 := Nat.lt_of_lt_of_le hNb (hpow 169 256 (by omega))
  have hD256 := Nat.lt_of_lt_of_le hDb (hpow 169 256 (by omega))
  obtain ⟨a, ha⟩ : ∃ a, bitsN (dig B32 N) = a := ⟨_, rfl⟩
  obtain ⟨b, hb⟩ : ∃ b, bitsN (dig B32 D) = b := ⟨_, rfl⟩
  have ha2 := bits_room hNb
  have hb2 := bits_room hDb
  have hNa := bits_up hN256
  have hDb2 := bits_up hD256
  obtain ⟨hDl, hb1⟩ := bits_low hDp
  rw [ha] at ha2 hNa
  rw [hb] at hb2 hDb2 hDl hb1
  obtain ⟨P0, hP0⟩ : ∃ P0, max ((a : Int) - (b : Int) - 53) (-1074) = P0 := ⟨_, rfl⟩
  have hPj : ∀ j : Nat, j ≤ 2 → P0 + (j : Int) ≤ 0 ∨ P0 + (j : Int) ≤ (a : Int) - (b : Int) - 51 := fun j hj => by omega
  have hA : ∀ j : Nat, j ≤ 2 → rdA N (P0 + (j : Int)) < B32 ^ 203 := fun j hj => prod_room hNb (two_lt _ 34 (by omega)) (by omega)
  have hB : ∀ j : Nat, j ≤ 2 → rdB D (P0 + (j : Int)) < B32 ^ 203 := fun j hj => by
    rcases hPj j hj with h | h
    · rw [rdB, show (P0 + (j : Int)).toNat = 0 by omega, Nat.pow_zero, Nat.mul_one]
      exact Nat.lt_of_lt_of_le hDb (hpow _ _ (by omega))
    · have h3 : rdB D (P0 + (j : Int)) < 2 ^ b * 2 ^ (P0 + (j : Int)).toNat := Nat.mul_lt_mul_of_pos_right hDb2 (Nat.pow_pos (by omega))
      rw [← Nat.pow_add] at h3
      exact Nat.lt_trans h3 (two_lt _ _ (by omega))
  have hM2 : rdM N D (P0 + 2) < 9007199254740992 := rd_stop hb1 hNa hDl (by omega)
  have low : ∀ j : Nat, j ≤ 2 → (∀ i : Nat, i < j → 9007199254740992 ≤ rdM N D (P0 + (i : Int))) → 0 < N → Low N D (P0 + (j : Int)) := fun j hj hl hN0 => by
    rcases Nat.eq_zero_or_pos j with rfl | hjp
    · obtain ⟨h1, h2⟩ := bits_low hN0
      rw [ha] at h1 h2
      have := low_first h2 h1 hDb2
      rw [hP0] at this
      rw [Int.natCast_zero, Int.add_zero]
      exact this
    · refine low_next hDp ?_
      have := hl (j - 1) (by omega)
      rwa [show P0 + ((j - 1 : Nat) : Int) = P0 + (j : Int) - 1 by omega] at this
  have zero : N = 0 → ∀ p, rdM N D p = 0 := fun h p => by
    have hBp := rdB_pos hDp p
    rw [rdM, rdA, h, Nat.zero_mul, rnd, Nat.zero_div, Nat.zero_mod, if_neg (by omega)]
  refine (read_core s x K P0 n N D a b (fun j => ldB (rdM N D (P0 + (j : Int))) (P0 + (j : Int))) w hs hx hK0 hK1 (by omega) (by omega) (by omega) (by omega) hP0 hpr ha hb (len_room hN256) (len_room hD256) cT
    (fun j hj W v hf => timesTwo_rd N D _ v W (by omega) (by omega) (Nat.lt_of_lt_of_le (hA j hj) (hpow _ _ (by omega))) (Nat.lt_of_lt_of_le (hB j hj) (hpow _ _ (by omega))) hf)
    (fun j hj W v hf => nearest_any _ _ v W (Nat.lt_of_lt_of_le (hA j hj) (hpow _ _ (by omega))) (Nat.lt_of_lt_of_le (hB j hj) (hpow _ _ (by omega))) (rdB_pos hDp _) hf)
    (fun j hj => rd_bd hb1 hNa hDl (by omega)) hM2
    (fun j hj hl hm W => ldexp_any _ _ W hm (by omega) (by omega) ?_)).mono ?_
  · rcases Nat.eq_zero_or_pos N with h0 | h0
    · exact Or.inr (Or.inr (zero h0 _))
    · rcases low j hj hl h0 with h | h
      · exact Or.inl h
      · exact Or.inr (Or.inl (low_man hDp h))
  · rintro e w' ⟨⟨j, hj, hl, hm, rfl⟩, hB'⟩
    refine ⟨⟨_, rfl, ?_⟩, hB'⟩
    rcases Nat.eq_zero_or_pos N with h0 | h0
    · rw [ldB, if_pos (zero h0 _), h0, Nat.mul_zero, Nat.zero_mul]
      exact near_zero hDp
    · have hlw := low j hj hl h0
      have hnr := read_near hDp (p := P0 + (j : Int)) (by omega) hm hlw
      by_cases hm0 : rdM N D (P0 + (j : Int)) = 0
      · have he : (P0 + (j : Int) + 1074).toNat = 0 := by
          rcases hlw with h | h
          · rw [h]; decide
          · have := low_man hDp h
            omega
        rw [ldB, if_pos hm0]
        rw [hm0, he] at hnr
        exact hnr
      · rw [ldB, if_neg hm0]
        exact hnr
end Go.Proofs.YtbbbdcohkfijoaaGreatDoor

namespace Go.Proofs.YtbbbdcohkfijoaaGreatDoor
open Go.RowKit Go.Lib

theorem big310 (c d : Nat) (hc : c = 310) (hd : d = 1025) : 2 ^ d ≤ 10 ^ c := by
  have h : 2 ^ 205 ≤ 10 ^ 62 := by decide
  have h2 := Nat.pow_le_pow_left h 5
  rwa [← Nat.pow_mul, ← Nat.pow_mul, show 205 * 5 = d by omega, show 62 * 5 = c by omega] at h2
theorem big325 (c d : Nat) (hc : c = 325) (hd : d = 1075) : 2 ^ d ≤ 10 ^ c := by
  have h : 2 ^ 215 ≤ 10 ^ 65 := by decide
  have h2 := Nat.pow_le_pow_left h 5
  rwa [← Nat.pow_mul, ← Nat.pow_mul, show 215 * 5 = d by omega, show 65 * 5 = c by omega] at h2
theorem V_inf (c : Nat) (hc : c = 2046) : V 9218868437227405312 = 4503599627370496 * 2 ^ c := by
  have h := V_at c 4503599627370496 (by omega) (Or.inr (by omega))
  rwa [show c * 4503599627370496 + 4503599627370496 = 9218868437227405312 by omega] at h
/-- What is as great as ten to the 310 is infinity. -/
theorem near_top {n r : Nat} (hn : 0 < n) (c : Nat) (hc : c = 310) (h : Near (2 * (n * 10 ^ c) * S1074) 1 r) : r = 9218868437227405312 := by
  rcases Nat.lt_or_ge r 9218868437227405312 with hlt | hge
  · exfalso
    have h1 := h.hi hlt
    have h2 := V_lt hlt
    have h3 := V_le (show r + 1 ≤ 9218868437227405312 by omega)
    obtain ⟨f, hf⟩ : ∃ f : Nat, f = 1074 := ⟨_, rfl⟩
    rw [S_eq f hf] at h1
    obtain ⟨d, hd⟩ : ∃ d : Nat, d = 1025 := ⟨_, rfl⟩
    have h4 := big310 c d hc hd
    have h5 := V_inf (d - 51 + f - 2) (by omega)
    have h6 : 4503599627370496 * 2 ^ (d - 51 + f - 2) = 2 ^ (d - 1) * 2 ^ f := by
      rw [show (4503599627370496 : Nat) = 2 ^ 52 by decide, ← Nat.pow_add, ← Nat.pow_add, show 52 + (d - 51 + f - 2) = d - 1 + f by omega]
    have h7 : 2 ^ d = 2 * 2 ^ (d - 1) := by rw [← Nat.pow_succ', show (d - 1).succ = d by omega]
    have h8 : 2 * (1 * 2 ^ (d - 1)) * 2 ^ f ≤ 2 * (n * 10 ^ c) * 2 ^ f := Nat.mul_le_mul_right _ (Nat.mul_le_mul_left _ (Nat.mul_le_mul hn (by omega)))
    rw [Nat.one_mul, Nat.mul_assoc] at h8
    rw [h5, h6] at h2 h3
    rw [Nat.mul_one] at h1
    generalize 2 ^ (d - 1) * 2 ^ f = z at *
    omega
  · exact Nat.le_antisymm h.top hge
theorem near_inf {X : Nat} {X' : Nat} (h : Near X 1 9218868437227405312) (hx : X ≤ X') : Near X' 1 9218868437227405312 :=
  ⟨fun q hq => Nat.le_trans (h.lo q hq) hx, fun _ _ _ => rfl, fun h => absurd h (by omega), fun h => absurd h (by omega), Nat.le_refl _⟩
/-- What is less than ten to the -325 is nought. -/
theorem near_low {n r : Nat} (c t : Nat) (hc : c = 1349) (ht : t = 1024) (hn : n < 10 ^ t) (h : Near (2 * n * S1074) (10 ^ c) r) : r = 0 := by
  rcases Nat.eq_zero_or_pos r with h0 | h0
  · exact h0
  · exfalso
    have h1 := h.lo (r - 1) (by omega)
    have h2 := V_lt h0
    obtain ⟨f, hf⟩ : ∃ f : Nat, f = 1074 := ⟨_, rfl⟩
    rw [S_eq f hf] at h1
    have h4 := big325 (c - t) (f + 1) (by omega) (by omega)
    have h5 : 10 ^ c = 10 ^ t * 10 ^ (c - t) := by rw [← Nat.pow_add]; congr 1; omega
    have h6 : 1 * 10 ^ c ≤ (V (r - 1) + V r) * 10 ^ c := Nat.mul_le_mul_right _ (by omega)
    have h7 : 2 * n * 2 ^ f < 2 * 10 ^ t * 2 ^ f := Nat.mul_lt_mul_of_pos_right (by omega) (Nat.pow_pos (by omega))
    have h8 : 10 ^ t * 2 ^ (f + 1) ≤ 10 ^ t * 10 ^ (c - t) := Nat.mul_le_mul_left _ h4
    have h9 : 2 * 10 ^ t * 2 ^ f = 10 ^ t * 2 ^ (f + 1) := by rw [Nat.pow_succ, Nat.mul_comm 2, Nat.mul_assoc, Nat.mul_comm 2]
    rw [h5] at h6 h1
    generalize 10 ^ t * 10 ^ (c - t) = z at *
    generalize 10 ^ t * 2 ^ (f + 1) = y at *
    omega
/-- The powers beyond those that Read takes make no difference. -/
theorem near_unclamp {n r : Nat} {x K : Int} (t : Nat) (ht : t = 1024) (hn : n < 10 ^ t) (hx : min (max x (-1349)) 310 = K) (h : Near (2 * (n * 10 ^ K.toNat) * S1074) (10 ^ (-K).toNat) r) :
    Near (2 * (n * 10 ^ x.toNat) * S1074) (10 ^ (-x).toNat) r := by
  rcases Nat.eq_zero_or_pos n with h0 | h0
  · subst h0
    have : r = 0 := by
      rw [Nat.zero_mul, Nat.mul_zero, Nat.zero_mul] at h
      exact h.uniq (Nat.pow_pos (by omega)) (Nat.pow_pos (by omega)) rfl (near_zero (Nat.pow_pos (by omega)))
    subst this
    rw [Nat.zero_mul, Nat.mul_zero, Nat.zero_mul]
    exact near_zero (Nat.pow_pos (by omega))
  by_cases h1 : 310 < x
  · have hK : K = 310 := by omega
    rw [hK, show ((310 : Int)).toNat = 310 by decide, show (-(310 : Int)).toNat = 0 by decide, Nat.pow_zero] at h
    rw [show (-x).toNat = 0 by omega, Nat.pow_zero]
    obtain ⟨c, hc⟩ : ∃ c : Nat, c = 310 := ⟨_, rfl⟩
    rw [← hc] at h
    have hr := near_top h0 c hc h
    subst hr
    refine near_inf h ?_
    exact Nat.mul_le_mul_right _ (Nat.mul_le_mul_left _ (Nat.mul_le_mul_left _ (Nat.pow_le_pow_right (by omega) (by omega))))
  by_cases h2 : x < -1349
  · have hK : K = -1349 := by omega
    rw [hK, show (-(-1349 : Int)).toNat = 1349 by decide, show (-1349 : Int).toNat = 0 by decide, Nat.pow_zero, Nat.mul_one] at h
    rw [show x.toNat = 0 by omega, Nat.pow_zero, Nat.mul_one]
    obtain ⟨c, hc⟩ : ∃ c : Nat, c = 1349 := ⟨_, rfl⟩
    rw [← hc] at h
    have hr := near_low c t hc ht hn h
    subst hr
    refine ⟨fun q e => absurd e (by omega), fun q e => absurd e (by omega), fun _ => ?_, fun _ _ => rfl, by omega⟩
    exact Nat.le_trans (h.hi (by omega)) (Nat.mul_le_mul_left _ (Nat.pow_le_pow_right (by omega) (by omega)))
  · have : K = x := by omega
    subst this
    exact h
/-- Read: the nearest float to the digits times the power of ten. -/
theorem read_yes (s : ByteArray) (x : Int) (w : World) (hs : s.size ≤ 1024) (hd : isDec s = true) :
    Calls Tryz.prog 158 #[.string s, .int .i64 x] w fun e w' => (∃ r, e = .returned (.tuple #[.float .f64 r, .int .i64 0]) ∧ Near (2 * (pv s.data.toList * 10 ^ x.toNat) * S1074) (10 ^ (-x).toNat) r) ∧ Below w.heap.size w w' := by
  refine (read_mid s x _ w hs hd rfl).mono ?_
  rintro e w' ⟨⟨r, rfl, h⟩, hB⟩
  obtain ⟨t, ht⟩ : ∃ t : Nat, t = 1024 := ⟨_, rfl⟩
  refine ⟨⟨r, rfl, near_unclamp t ht ?_ rfl h⟩, hB⟩
  refine Nat.lt_of_lt_of_le (pv_lt (isDec_iff.1 hd).2) (Nat.pow_le_pow_right (by omega) ?_)
  rw [ba_len, ht]
  exact hs
end Go.Proofs.YtbbbdcohkfijoaaGreatDoor

namespace Go.Proofs.YtbbbdcohkfijoaaGreatDoor

theorem rnd_mono {A B A' B' : Nat} (hB : 0 < B) (hB' : 0 < B') (h : A * B' ≤ A' * B) : rnd A B ≤ rnd A' B' := by
  obtain ⟨-, h1⟩ := rnd_near A B hB
  obtain ⟨⟨h2, h2e⟩, -⟩ := rnd_near A' B' hB'
  generalize rnd A B = m at *
  generalize rnd A' B' = m' at *
  rcases Nat.lt_or_ge m' m with hlt | hge
  · exfalso
    obtain ⟨h1, h1e⟩ := h1 (by omega)
    have e1 : (2 * m - 1) * B * B' ≤ 2 * A * B' := Nat.mul_le_mul_right _ h1
    have e2 : 2 * A' * B ≤ (2 * m' + 1) * B' * B := Nat.mul_le_mul_right _ h2
    rw [Nat.mul_right_comm _ B' B] at e2
    have e3 : 2 * A * B' ≤ 2 * A' * B := by rw [Nat.mul_assoc, Nat.mul_assoc]; omega
    have e4 : (2 * m - 1) * B * B' ≤ (2 * m' + 1) * B * B' := by omega
    have e5 := Nat.le_of_mul_le_mul_right (Nat.le_of_mul_le_mul_right e4 hB') hB
    have e6 : 2 * m - 1 = 2 * m' + 1 := by omega
    rw [e6] at h1 h1e e1
    have e7 : 2 * A * B' = (2 * m' + 1) * B * B' := by omega
    have e8 : 2 * A' * B = (2 * m' + 1) * B' * B := by rw [Nat.mul_right_comm _ B' B]; omega
    have p1 := h1e (Nat.eq_of_mul_eq_mul_right hB' e7).symm
    have p2 := h2e (Nat.eq_of_mul_eq_mul_right hB e8)
    omega
  · exact hge
theorem sci_mono {N D : Nat} {k l : Int} (hD : 0 < D) (h : k ≤ l) : sciM N D k ≤ sciM N D l := by
  refine rnd_mono (Nat.mul_pos hD (Nat.pow_pos (by omega))) (Nat.mul_pos hD (Nat.pow_pos (by omega))) ?_
  have e : 10 ^ k.toNat * 10 ^ (-l).toNat ≤ 10 ^ l.toNat * 10 ^ (-k).toNat := by
    rw [← Nat.pow_add, ← Nat.pow_add]
    exact Nat.pow_le_pow_right (by omega) (by omega)
  calc N * 10 ^ k.toNat * (D * 10 ^ (-l).toNat) = N * D * (10 ^ k.toNat * 10 ^ (-l).toNat) := by ac_rfl
    _ ≤ N * D * (10 ^ l.toNat * 10 ^ (-k).toNat) := Nat.mul_le_mul_left _ e
    _ = N * 10 ^ l.toNat * (D * 10 ^ (-k).toNat) := by ac_rfl
theorem SciOk.uniq {N D p M M' : Nat} {P P' : Int} (hD : 0 < D) (h : SciOk N D p P M) (h' : SciOk N D p P' M') : P = P' ∧ M = M' := by
  have key : ∀ {P P' : Int} {M M' : Nat}, SciOk N D p P M → SciOk N D p P' M' → ¬ P < P' := fun {P P' M M'} h h' hlt => by
    have h1 := sci_mono (N := N) hD (show (p : Int) - P' + 1 ≤ (p : Int) - P by omega)
    have h2 := h'.more
    have h3 := h.high
    rw [h.val] at h3
    omega
  have e : P = P' := by
    have := key h h'
    have := key h' h
    omega
  subst e
  exact ⟨rfl, by rw [h.val, h'.val]⟩
end Go.Proofs.YtbbbdcohkfijoaaGreatDoor

namespace Go.Proofs.YtbbbdcohkfijoaaGreatDoor
open Go.RowKit Go.Lib

/-- What stands ahead of the digits that are written already. -/
def ahead (m : Nat) : List UInt8 := if m < 10 then [] else decs (m / 10)
end Go.Proofs.YtbbbdcohkfijoaaGreatDoor

namespace Go.Proofs.YtbbbdcohkfijoaaGreatDoor
open Go.RowKit Go.Lib

/-- What Read answers, with a name for the float. -/
def ReadEnd (w : World) (X D : Nat) (e : Ending) (w' : World) : Prop := ∃ r, e = .returned (.tuple #[.float .f64 r, .int .i64 0]) ∧ Hid (Near X D r) ∧ Below w.heap.size w w'
theorem read_end (s : ByteArray) (n : Nat) (x : Int) (w : World) (hs : s.size ≤ 1024) (hd : isDec s = true) (hn : pv s.data.toList = n) :
    Calls Tryz.prog 158 #[.string s, .int .i64 x] w (ReadEnd w (2 * (n * 10 ^ x.toNat) * S1074) (10 ^ (-x).toNat)) := by
  refine (read_yes s x w hs hd).mono ?_
  rintro e w' ⟨⟨r, rfl, h⟩, hB⟩
  rw [hn] at h
  exact ⟨r, rfl, Lib.hid h, hB⟩
end Go.Proofs.YtbbbdcohkfijoaaGreatDoor

namespace Go.Proofs.YtbbbdcohkfijoaaGreatDoor
open Go.RowKit Go.Lib

/-- Is it a decimal digit? -/
def isD (c : UInt8) : Bool := decide (48 ≤ c.toNat) && decide (c.toNat ≤ 57)
theorem isD_iff {c : UInt8} : isD c = true ↔ 48 ≤ c.toNat ∧ c.toNat ≤ 57 := by simp [isD]
/-- How many digits a text begins with. -/
def nDig (l : List UInt8) : Nat := (l.takeWhile isD).length
theorem nDig_at {l : List UInt8} {k : Nat} (hk : k ≤ l.length) (h : ∀ j (hj : j < l.length), j < k → isD l[j] = true) (hs : ∀ hj : k < l.length, isD l[k] = false) : nDig l = k := by
  induction l generalizing k with
  | nil => simp at hk; subst hk; rfl
  | cons c l ih =>
    rcases Nat.eq_zero_or_pos k with rfl | hk0
    · have := hs (by simp)
      simp only [List.getElem_cons_zero] at this
      unfold nDig
      rw [List.takeWhile_cons, this]
      rfl
    · obtain ⟨k, rfl⟩ : ∃ m, k = m + 1 := ⟨k - 1, by omega⟩
      have hc := h 0 (by simp) (by omega)
      simp only [List.getElem_cons_zero] at hc
      have := ih (k := k) (by simpa using hk) (fun j hj hjk => by have := h (j + 1) (by simpa using hj) (by omega); simpa using this) (fun hj => by have := hs (by simpa using hj); simpa using this)
      unfold nDig at this ⊢
      rw [List.takeWhile_cons, hc]
      simp [this]
theorem ba_byte (S : ByteArray) {l : List UInt8} (h : S.data.toList = l) (j : Nat) (hj : j < S.size) : l[j]? = some (S[j]'hj) := by
  rw [← h, Array.getElem?_toList, Array.getElem?_eq_getElem hj]
  rfl
set_option maxRecDepth 100000 in
set_option maxHeartbeats 2000000 in
theorem cutDigits_any (s : ByteArray) (w : World) (hs : s.size ≤ 4611686018427387904) :
    Calls Tryz.prog 160 #[.string s] w fun e w' => e = .returned (.tuple #[.string (s.extract 0 (nDig s.data.toList)), .string (s.extract (nDig s.data.toList) s.size)]) ∧ Below w.heap.size w w' := by
  obtain ⟨l, hl⟩ : ∃ l, s.data.toList = l := ⟨_, rfl⟩
  have hlen : l.length = s.size := by rw [← hl, ba_len]
  have HBY := Lib.hid (fun j hj => ba_byte s hl j hj)
  rw [hl]
  have HLEN := Lib.hid hlen
  clear hl hlen
  go_enter Tryz.func160, Tryz.ntmps160
  go_wp2
  go_loop [4] (fun iv => ∃ k : Nat, iv = .int .i64 (k : Int) ∧ k ≤ s.size ∧ ∀ j (hj : j < l.length), j < k → isD l[j] = true) (fun iv => s.size - (RowKit.intOf iv).toNat)
  case atStart => exact ⟨0, rfl, Nat.zero_le _, fun j _ hj => absurd hj (Nat.not_lt_zero j)⟩
  case round =>
    obtain ⟨k, rfl, hk, h0⟩ := hrel
    have H0 := Lib.hid h0
    clear h0
    have g0 : (0 : Int) ≤ (k : Int) := by omega
    have g1 : (k : Int) ≤ (s.size : Int) := by omega
    by_cases hlt : k < s.size
    · obtain ⟨z, hz⟩ : ∃ z, (s[k]'hlt).toNat = z := ⟨_, rfl⟩
      have hzi : ((s[k]'hlt).toNat : Int) = (z : Int) := by omega
      have hby : ∀ hj : k < l.length, l[k] = s[k]'hlt := fun hj => by
        have h := HBY.out k hlt
        rw [List.getElem?_eq_getElem hj] at h
        exact Option.some.inj h
      have HBK := Lib.hid hby
      have HZ := Lib.hid hz
      clear hby hz
      by_cases hd : 48 ≤ z ∧ z ≤ 57
      · obtain ⟨d1, d2⟩ := hd
        have d1i : (48 : Int) ≤ (z : Int) := by omega
        have d2i : (z : Int) ≤ 57 := by omega
        go_wp2_with fail
        go_round
        case rel => exact ⟨k + 1, by go_num, by omega, fun j hj hjk => by
          rcases Nat.lt_or_ge j k with h | h
          · exact H0.out j hj h
          · obtain rfl : j = k := by omega
            rw [HBK.out hj, isD_iff, HZ.out]
            exact ⟨d1, d2⟩⟩
        case measure => simp [RowKit.intOf]; omega
      · have HN := Lib.hid (show nDig l = k from nDig_at (by rw [HLEN.out]; exact hk) H0.out (fun hj => by
          rw [HBK.out hj]
          cases hc : isD (s[k]'hlt) with
          | false => rfl
          | true => rw [isD_iff, HZ.out] at hc; exact absurd hc hd))
        have hcase : ¬ (48 : Int) ≤ (z : Int) ∨ ((48 : Int) ≤ (z : Int) ∧ ¬ (z : Int) ≤ 57) := by omega
        clear hd
        rcases hcase with h1 | ⟨h1, h2⟩
        all_goals
          go_wp2_with fail
          go_quiet (fail)
          go_wp2_with fail
          go_ret2
          exact ⟨by rw [HN.out]; rfl, below_drewN (Below.refl _ _) _⟩
    · have HN := Lib.hid (show nDig l = k from nDig_at (by rw [HLEN.out]; exact hk) H0.out (fun hj => by have := HLEN.out; omega))
      go_wp2_with fail
      go_quiet (fail)
      go_wp2_with fail
      go_ret2
      exact ⟨by rw [HN.out]; rfl, below_drewN (Below.refl _ _) _⟩
/-- The number that digits write, or the bound, if that is less. -/
def cntZ (l : List UInt8) (b : Nat) : Nat := min (pv l) b
theorem cnt_step {a b p d : Nat} (hd : d ≤ 9) (h : a = min p b) : min (a * 10 + d) b = min (p * 10 + d) b := by
  subst h
  rcases Nat.le_total p b with h | h
  · rw [Nat.min_eq_left h]
  · rw [Nat.min_eq_right h, Nat.min_eq_right (by omega), Nat.min_eq_right (by omega)]
set_option maxRecDepth 100000 in
set_option maxHeartbeats 2000000 in
theorem count_any (s : ByteArray) (b : Nat) (w : World) (hs : s.size ≤ 4611686018427387904) (hd : Dec s.data.toList) (hb : b ≤ 1099511627776) :
    Calls Tryz.prog 223 #[.string s, .int .i64 (b : Int)] w fun e w' => e = .returned (.int .i64 (cntZ s.data.toList b : Nat)) ∧ w = w' := by
  obtain ⟨l, hl⟩ : ∃ l, s.data.toList = l := ⟨_, rfl⟩
  have hlen : l.length = s.size := by rw [← hl, ba_len]
  have HBY := Lib.hid (fun j hj => ba_byte s hl j hj)
  rw [hl] at hd ⊢
  have HLEN := Lib.hid hlen
  have HD := Lib.hid hd
  clear hl hlen hd
  go_enter Tryz.func223, Tryz.ntmps223
  go_wp2
  go_loop [5, 9] (fun nv iv => ∃ k a : Nat, iv = .int .i64 (k : Int) ∧ nv = .int .i64 (a : Int) ∧ k ≤ s.size ∧ a = min (pv (l.take k)) b) (fun _ iv => s.size - (RowKit.intOf iv).toNat)
  case atStart => exact ⟨0, 0, rfl, rfl, Nat.zero_le _, by rw [List.take_zero, pv_nil, Nat.zero_min]⟩
  case round =>
    obtain ⟨k, a, rfl, rfl, hk, ha⟩ := hrel
    have hab : a ≤ b := by omega
    have HA := Lib.hid ha
    clear ha
    by_cases hlt : k < s.size
    · obtain ⟨z, hz⟩ : ∃ z, (s[k]'hlt).toNat = z := ⟨_, rfl⟩
      have hkl : k < l.length := by rw [HLEN.out]; exact hlt
      have hby : l[k] = s[k]'hlt := by
        have h := HBY.out k hlt
        rw [List.getElem?_eq_getElem hkl] at h
        exact Option.some.inj h
      have hzb := HD.out (s[k]'hlt) (by rw [← hby]; exact List.getElem_mem _)
      rw [hz] at hzb
      obtain ⟨z1, z2⟩ := hzb
      have hzi : ((s[k]'hlt).toNat : Int) = (z : Int) := by omega
      obtain ⟨m, hm⟩ : ∃ m : Nat, min ((a : Int) * 10 + ((z : Int) - 48)) (b : Int) = (m : Int) := ⟨(min ((a : Int) * 10 + ((z : Int) - 48)) (b : Int)).toNat, by omega⟩
      have HM := Lib.hid (show m = min (pv (l.take (k + 1))) b by
        have e : l.take (k + 1) = l.take k ++ [l[k]] := List.take_succ_eq_append_getElem hkl
        rw [e, pv_snoc, hby, hz, ← cnt_step (a := a) (by omega) HA.out]
        omega)
      clear hby hz
      go_wp2_with fail
      go_round
      case rel => exact ⟨k + 1, m, by go_num, rfl, by omega, HM.out⟩
      case measure => simp [RowKit.intOf]; omega
    · have HE := Lib.hid (show a = cntZ l b by
        have h := HA.out
        rw [List.take_of_length_le (by rw [HLEN.out]; omega)] at h
        exact h)
      go_wp2_with fail
      go_ret
      exact ⟨by rw [HE.out]; rfl, rfl⟩
end Go.Proofs.YtbbbdcohkfijoaaGreatDoor

namespace Go.Proofs.YtbbbdcohkfijoaaGreatDoor
open Go.RowKit Go.Lib

/-- Is there a minus ahead, and what stands behind the sign? -/
def sgnL : List UInt8 → Bool × List UInt8
  | 45 :: l => (true, l)
  | 43 :: l => (false, l)
  | l => (false, l)
theorem pre_one (c : UInt8) (l : List UInt8) : Lib.hasPrefix l [c] = (l.head? == some c) := by
  cases l with
  | nil => rfl
  | cons x l => simp [Lib.hasPrefix, List.isPrefixOf, Bool.beq_comm]
set_option maxRecDepth 100000 in
set_option maxHeartbeats 1000000 in
theorem cutSign_any (s : ByteArray) (w : World) : Calls Tryz.prog 157 #[.string s] w fun e w' => e = .returned (.tuple #[.bool (sgnL s.data.toList).1, .string ⟨(sgnL s.data.toList).2.toArray⟩]) ∧ w = w' := by
  have c1 := fun W => Tryz.strings_CutPrefix s ⟨#[45]⟩ W
  have c2 := fun W => Tryz.strings_TrimPrefix s ⟨#[43]⟩ W
  obtain ⟨l, hl⟩ : ∃ l, s.data.toList = l := ⟨_, rfl⟩
  rw [hl] at c1 c2 ⊢
  change ∀ W : World, Calls Tryz.prog 161 #[.string s, .string ⟨#[45]⟩] W fun e w' => e = .returned (.tuple #[.string ⟨(Lib.trimPrefix l [45]).toArray⟩, .bool (Lib.hasPrefix l [45])]) ∧ w' = W at c1
  change ∀ W : World, Calls Tryz.prog 215 #[.string s, .string ⟨#[43]⟩] W fun e w' => e = .returned (.string ⟨(Lib.trimPrefix l [43]).toArray⟩) ∧ w' = W at c2
  unfold Lib.trimPrefix at c1
  rw [pre_one] at c1
  by_cases h1 : l.head? = some 45
  · obtain ⟨t, rfl⟩ : ∃ t, l = 45 :: t := by cases l with | nil => cases h1 | cons x t => exact ⟨t, by rw [Option.some.inj h1]⟩
    have C1 := Lib.hid (show ∀ W : World, Calls Tryz.prog 161 #[.string s, .string ⟨#[45]⟩] W fun e w' => e = .returned (.tuple #[.string ⟨t.toArray⟩, .bool true]) ∧ w' = W from c1)
    have HR := Lib.hid (show sgnL (45 :: t) = (true, t) from rfl)
    clear c1 c2 h1
    go_enter Tryz.func157, Tryz.ntmps157
    go_wp2_with fail
    refine (C1.out _).mono ?_
    rintro e w' ⟨rfl, rfl⟩
    go_wp2_with fail
    go_ret2
    exact ⟨by rw [HR.out]; rfl, rfl⟩
  · have e1 : (l.head? == some 45) = false := by rw [beq_eq_false_iff_ne]; exact h1
    rw [e1] at c1
    have C1 := Lib.hid (show ∀ W : World, Calls Tryz.prog 161 #[.string s, .string ⟨#[45]⟩] W fun e w' => e = .returned (.tuple #[.string ⟨l.toArray⟩, .bool false]) ∧ w' = W from c1)
    have hr : (sgnL l).1 = false ∧ (sgnL l).2 = Lib.trimPrefix l [43] := by
      unfold Lib.trimPrefix
      rw [pre_one]
      unfold sgnL
      split
      · exact absurd rfl h1
      · exact ⟨rfl, rfl⟩
      · rename_i h2 h3
        refine ⟨rfl, ?_⟩
        rw [if_neg]
        intro h
        cases l with
        | nil => cases h
        | cons x t =>
          have : x = 43 := Option.some.inj (eq_of_beq h)
          subst this
          exact h3 t rfl
    have HR := Lib.hid hr
    obtain ⟨r, hre⟩ : ∃ r, Lib.trimPrefix l [43] = r := ⟨_, rfl⟩
    rw [hre] at c2 HR
    have C2 := Lib.hid c2
    clear c1 c2 h1 e1 hr hre
    go_enter Tryz.func157, Tryz.ntmps157
    go_wp2_with fail
    refine (C1.out _).mono ?_
    rintro e w' ⟨rfl, rfl⟩
    go_wp2_with fail
    refine (C2.out _).mono ?_
    rintro e w' ⟨rfl, rfl⟩
    go_wp2_with fail
    go_ret2
    exact ⟨by rw [HR.out.1, HR.out.2]; rfl, rfl⟩
/-- What a digit of base sixteen counts; 16: it is none. -/
def hexV (c : Nat) : Nat := if 48 ≤ c ∧ c ≤ 57 then c - 48 else if 97 ≤ c ∧ c ≤ 102 then c - 87 else if 65 ≤ c ∧ c ≤ 70 then c - 55 else 16
def hexR (c : Nat) : Nat := if hexV c = 16 then 0 else hexV c
end Go.Proofs.YtbbbdcohkfijoaaGreatDoor
