/- Several texts in one (Contracts of layer 3: Sci of a number other than nought; Contracts of layer 3: Read's main way; Contracts of layer 3: Read; Contracts of layer 3: Read of any power: the nearest float; Plain: Sci's digits are told by their conditions; floats in order. No walk here; Contracts of layer 3: what its laws share: same, digits one by one; Contracts of layer 3: what its laws share: naturals as floats, digits; Contracts of layer 4: cutDigits, count, cutSign, hexDigit; Contracts of layer 4: cutSign, hexDigit, Trunc; Contracts of layer 4: cutExp). -/
import Derived.WalkSpells
import Derived.Deep.QuietTactic
import Derived.BigQuiet
import Derived.Test.YtddfigbpckhfbaaGreatDoorQpt4
namespace Go.Proofs.YtddfigbpckhfbaaGreatDoor
open Go.RowKit Go.Lib

theorem bits_up {N : Nat} (_h : N < B32 ^ 256) : N < 2 ^ bitsN (dig B32 N) := by
  by_cases h0 : dig B32 N = []
  · have := dig_nil (by decide) h0
    rw [bitsN, if_pos h0]
    omega
  have hx := lim_dig N
  have hv := dig_vl (B := B32) (by decide) N
  obtain ⟨l, y, e0⟩ := snoc_of_ne h0
  rw [e0] at hx hv h0 ⊢
  have hll := lim_append.1 hx
  have hy : y < 4294967296 := lim_one.1 hll.2
  have e : Lib.bitLen y = Lib.bitLenAux 32 y := Lib.bitLenAux_fuel 32 y hy 64 (by omega)
  have hb : y < 2 ^ Lib.bitLen y := by
    by_cases hy0 : y = 0
    · subst hy0; decide
    · obtain ⟨a, b, c, d⟩ := bitLenAux_bounds 32 y hy hy0
      rw [← e] at d
      exact d
  have eb : bitsN (l ++ [y]) = 32 * l.length + Lib.bitLen y := by
    rw [bitsN, if_neg h0, List.length_append, List.length_singleton, Nat.add_sub_cancel, List.getD_eq_getElem?_getD, List.getElem?_append_right (Nat.le_refl _), Nat.sub_self]
    show l.length * 32 + Lib.bitLen y = _
    omega
  rw [eb, ← hv, vl_snoc, Nat.pow_add, Nat.pow_mul]
  have h1 := vl_lt hll.1
  have h2 : B32 ^ l.length * (y + 1) ≤ B32 ^ l.length * 2 ^ Lib.bitLen y := Nat.mul_le_mul_left _ hb
  rw [Nat.mul_add] at h2
  show _ < (2 ^ 32) ^ l.length * _
  have h3 : (2 ^ 32) ^ l.length = B32 ^ l.length := rfl
  rw [h3]
  omega
theorem bits_low {N : Nat} (h : 0 < N) : 2 ^ (bitsN (dig B32 N) - 1) ≤ N ∧ 1 ≤ bitsN (dig B32 N) := by
  have h0 : dig B32 N ≠ [] := fun e => by have := dig_nil (by decide) e; omega
  have := bitsN_low (lim_dig N) h0 (dig_norm (by decide) N).2
  rwa [dig_vl (by decide)] at this
theorem bits_lt {N k : Nat} (h : N < 2 ^ k) : bitsN (dig B32 N) ≤ k := by
  rcases Nat.eq_zero_or_pos N with h0 | h0
  · subst h0
    rw [show dig B32 0 = [] by decide, bitsN, if_pos rfl]
    omega
  · have := (bits_low h0).1
    have := (Nat.pow_lt_pow_iff_right (show 1 < 2 by omega)).1 (Nat.lt_of_le_of_lt this h)
    omega
theorem bits_two {m : Nat} (h : 2 ^ m < B32 ^ 256) : bitsN (dig B32 (2 ^ m)) = m + 1 := by
  have h1 := bits_up h
  have h2 := (bits_low (N := 2 ^ m) (Nat.pow_pos (by omega))).1
  have h3 := (Nat.pow_lt_pow_iff_right (show 1 < 2 by omega)).1 h1
  have h4 := (Nat.pow_le_pow_iff_right (show 1 < 2 by omega)).1 h2
  omega

/-- N / D times 10 to the k, rounded. -/
def sciM (N D : Nat) (k : Int) : Nat := rnd (N * 10 ^ k.toNat) (D * 10 ^ (-k).toNat)
theorem sciD_eq (N D : Nat) (k : Int) : sciD N D k = decs (sciM N D k) := rfl
theorem decs_le {n k : Nat} (hk : 1 ≤ k) : (decs n).length ≤ k ↔ n < 10 ^ k := by
  unfold decs
  split
  · rename_i h
    subst h
    exact ⟨fun _ => Nat.pow_pos (by omega), fun _ => hk⟩
  · rw [List.length_map, List.length_reverse]
    exact dig_len_le (by decide) n k
theorem sci_half (N D : Nat) (k : Int) : N * 10 ^ (k + 1).toNat * (D * 10 ^ (-k).toNat) = 10 * (N * 10 ^ k.toNat) * (D * 10 ^ (-(k + 1)).toNat) := by
  have e : 10 ^ (k + 1).toNat * 10 ^ (-k).toNat = 10 * (10 ^ k.toNat * 10 ^ (-(k + 1)).toNat) := by
    rw [← Nat.pow_add, ← Nat.pow_add, Nat.mul_comm 10, ← Nat.pow_succ]
    congr 1
    omega
  calc N * 10 ^ (k + 1).toNat * (D * 10 ^ (-k).toNat) = N * D * (10 ^ (k + 1).toNat * 10 ^ (-k).toNat) := by ac_rfl
    _ = N * D * (10 * (10 ^ k.toNat * 10 ^ (-(k + 1)).toNat)) := by rw [e]
    _ = 10 * (N * 10 ^ k.toNat) * (D * 10 ^ (-(k + 1)).toNat) := by ac_rfl
/-- Where one digit more was too many, there are enough. -/
theorem sci_enough {N D T : Nat} {k : Int} (hD : 0 < D) (hT : 0 < T) (h : 10 * T ≤ sciM N D (k + 1)) : T ≤ sciM N D k := by
  have hB : 0 < D * 10 ^ (-k).toNat := Nat.mul_pos hD (Nat.pow_pos (by omega))
  have hB' : 0 < D * 10 ^ (-(k + 1)).toNat := Nat.mul_pos hD (Nat.pow_pos (by omega))
  have hh := sci_half N D k
  have h1 := ((rnd_near (N * 10 ^ (k + 1).toNat) (D * 10 ^ (-(k + 1)).toNat) hB').2 (by show 0 < sciM N D (k + 1); omega)).1
  have h2 := (rnd_near (N * 10 ^ k.toNat) (D * 10 ^ (-k).toNat) hB).1.1
  change (2 * sciM N D (k + 1) - 1) * _ ≤ _ at h1
  change _ ≤ (2 * sciM N D k + 1) * _ at h2
  generalize N * 10 ^ (k + 1).toNat = A' at *
  generalize D * 10 ^ (-(k + 1)).toNat = B' at *
  generalize N * 10 ^ k.toNat = A at *
  generalize D * 10 ^ (-k).toNat = B at *
  generalize sciM N D (k + 1) = M' at *
  generalize sciM N D k = M at *
  have h3 : (20 * T - 1) * B' ≤ 2 * A' := Nat.le_trans (Nat.mul_le_mul_right _ (by omega)) h1
  have h4 : (20 * T - 1) * B' * B ≤ 2 * A' * B := Nat.mul_le_mul_right _ h3
  have h5 : 2 * A' * B = 20 * A * B' := by rw [Nat.mul_assoc, hh, ← Nat.mul_assoc, ← Nat.mul_assoc]
  have h6 : 20 * A * B' ≤ 10 * (2 * M + 1) * B * B' := Nat.mul_le_mul_right _ (by rw [Nat.mul_assoc 10]; omega)
  have h7 : (20 * T - 1) * B' * B = (20 * T - 1) * B * B' := Nat.mul_right_comm _ _ _
  have h8 : (20 * T - 1) * B * B' ≤ 10 * (2 * M + 1) * B * B' := by omega
  have h9 := Nat.le_of_mul_le_mul_right (Nat.le_of_mul_le_mul_right h8 hB') hB
  omega
/-- What Sci tells: digits just as many as asked for, rounded once; with one more power they would be too many. -/
structure SciOk (N D p : Nat) (P : Int) (M : Nat) : Prop where
  val : M = sciM N D ((p : Int) - P)
  low : 10 ^ p ≤ M
  high : M < 10 ^ (p + 1)
  more : 10 ^ (p + 1) ≤ sciM N D ((p : Int) - P + 1)
  bd : -400 ≤ P ∧ P ≤ 400
theorem rnd_ge {A B T : Nat} (hB : 0 < B) (h : T * B ≤ A) : T ≤ rnd A B := by
  have h1 : T ≤ A / B := (Nat.le_div_iff_mul_le hB).2 h
  unfold rnd
  split <;> omega
theorem sci_first (N m bN p : Nat) (hN : 2 ^ (bN - 1) ≤ N) (hb : 1 ≤ bN) (h0 : -1100 ≤ (bN : Int) - ((m + 1 : Nat) : Int)) (h1 : (bN : Int) - ((m + 1 : Nat) : Int) ≤ 1100) :
    10 ^ (p + 1) ≤ sciM N (2 ^ m) ((p : Int) - tenP ((bN : Int) - ((m + 1 : Nat) : Int)) + 1) := by
  obtain ⟨k, hk⟩ : ∃ k : Int, k = (p : Int) - tenP ((bN : Int) - ((m + 1 : Nat) : Int)) + 1 := ⟨_, rfl⟩
  rw [← hk]
  refine rnd_ge (Nat.mul_pos (Nat.pow_pos (by omega)) (Nat.pow_pos (by omega))) ?_
  -- 10 ^ (p + 1) * (2 ^ m * 10 ^ (-k)) ≤ N * 10 ^ k
  by_cases hi : m + 1 ≤ bN
  · obtain ⟨i, hi⟩ : ∃ i, bN = m + 1 + i := ⟨bN - (m + 1), by omega⟩
    rw [show (bN : Int) - ((m + 1 : Nat) : Int) = (i : Int) by omega] at h0 h1 hk
    obtain ⟨q, hq, hle, -⟩ := tenP_up (i := i) (by omega)
    rw [hq] at hk
    have e1 : 10 ^ q * 2 ^ m ≤ N := by
      refine Nat.le_trans ?_ hN
      rw [show bN - 1 = i + m by omega, Nat.pow_add]
      exact Nat.mul_le_mul_right _ hle
    have e2 : 10 ^ (p + 1) * 10 ^ (-k).toNat = 10 ^ q * 10 ^ k.toNat := by
      rw [← Nat.pow_add, ← Nat.pow_add]
      congr 1
      omega
    calc 10 ^ (p + 1) * (2 ^ m * 10 ^ (-k).toNat) = 10 ^ (p + 1) * 10 ^ (-k).toNat * 2 ^ m := by ac_rfl
      _ = 10 ^ q * 2 ^ m * 10 ^ k.toNat := by rw [e2]; ac_rfl
      _ ≤ N * 10 ^ k.toNat := Nat.mul_le_mul_right _ e1
  · obtain ⟨i, hi⟩ : ∃ i, m + 1 = bN + i := ⟨m + 1 - bN, by omega⟩
    rw [show (bN : Int) - ((m + 1 : Nat) : Int) = -(i : Int) by omega] at h0 h1 hk
    obtain ⟨q, hq, hle, -⟩ := tenP_down (i := i) (by omega) (by omega)
    rw [hq] at hk
    have e1 : 2 ^ m ≤ N * 10 ^ (q + 1) := by
      refine Nat.le_trans ?_ (Nat.mul_le_mul hN hle)
      rw [← Nat.pow_add]
      exact Nat.pow_le_pow_right (by omega) (by omega)
    have hk2 : k = ((p + q + 2 : Nat) : Int) := by omega
    rw [hk2, Int.toNat_natCast, show (-((p + q + 2 : Nat) : Int)).toNat = 0 by omega, Nat.pow_zero, Nat.mul_one, show p + q + 2 = (q + 1) + (p + 1) by omega, Nat.pow_add 10 (q + 1), ← Nat.mul_assoc, Nat.mul_comm (10 ^ (p + 1))]
    exact Nat.mul_le_mul_right _ e1
theorem order_nz {b : Nat} (h0 : 0 < mag b) (h : mag b < 9218868437227405312) : (FloatKind.f64.format.order b 0 == some .eq) = false := by
  show (Ieee.double.order b 0 == some .eq) = false
  unfold Ieee.Format.order
  rw [read_fin h, show Ieee.double.read 0 = .number false 0 (-1074) by decide]
  have hp : 0 < manF (mag b) := by unfold manF; split <;> omega
  have he : -1074 ≤ expF (mag b) := (expF_bd h).1
  show (some (compare (Ieee.signed _ _ _) (Ieee.signed false 0 _)) == some .eq) = false
  rw [show min (expF (mag b)) (-1074) = -1074 by omega]
  have h1 : Ieee.signed false 0 ((-1074 : Int) - -1074).toNat = 0 := by decide
  rw [h1]
  have hs : 0 < manF (mag b) <<< (expF (mag b) - -1074).toNat := by
    rw [Nat.shiftLeft_eq]
    exact Nat.mul_pos hp (Nat.pow_pos (by omega))
  generalize (b / 9223372036854775808 % 2 == 1) = s
  have h2 : Ieee.signed s (manF (mag b)) (expF (mag b) - -1074).toNat ≠ 0 := by
    cases s
    · show ((manF (mag b) <<< _ : Nat) : Int) ≠ 0
      omega
    · show -((manF (mag b) <<< _ : Nat) : Int) ≠ 0
      omega
  rw [beq_eq_false_iff_ne]
  intro e
  exact h2 (Int.compare_eq_eq.1 (Option.some.inj e))
theorem sci_yes (b p : Nat) (w : World) (hb : b < 18446744073709551616) (h0 : 0 < mag b) (h : mag b < 9218868437227405312) (hp : p ≤ 200) :
    Calls Tryz.prog 251 #[.float .f64 b, .int .i64 p] w fun e w' => (∃ (P : Int) (M : Nat), SciOk (amN (mag b)) (amD (mag b)) p P M ∧ e = .returned (.tuple #[.string ⟨(decs M).toArray⟩, .int .i64 P, .int .i64 0])) ∧ Below w.heap.size w w' := by
  have he := expF_bd h
  have hN := amN_room h
  have hD := amD_room h
  have hD0 := amD_pos (mag b)
  have hN0 : 0 < amN (mag b) := Nat.mul_pos (by unfold manF; split <;> omega) (Nat.pow_pos (by omega))
  have hpow : ∀ a c, a ≤ c → B32 ^ a ≤ B32 ^ c := fun a c hac => Nat.pow_le_pow_right (by decide) hac
  have hN256 := Nat.lt_of_lt_of_le hN (hpow 33 256 (by omega))
  have hD256 := Nat.lt_of_lt_of_le hD (hpow 34 256 (by omega))
  obtain ⟨m, hm⟩ : ∃ m, (-expF (mag b)).toNat = m := ⟨_, rfl⟩
  have hDm : amD (mag b) = 2 ^ m := by rw [amD, hm]
  obtain ⟨bN, hbN⟩ : ∃ bN, bitsN (dig B32 (amN (mag b))) = bN := ⟨_, rfl⟩
  have hbD : bitsN (dig B32 (amD (mag b))) = m + 1 := by rw [hDm]; exact bits_two (by rw [← hDm]; exact hD256)
  have hup := bits_up hN256
  obtain ⟨hlow, hbN1⟩ := bits_low hN0
  rw [hbN] at hup hlow hbN1
  have hbN2 : bN ≤ 53 + (expF (mag b)).toNat := by
    rw [← hbN]
    refine bits_lt ?_
    rw [Nat.pow_add]
    exact Nat.mul_lt_mul_of_pos_right manF_lt (Nat.pow_pos (by omega))
  have k0 : -1100 ≤ (bN : Int) - ((m + 1 : Nat) : Int) := by omega
  have k1 : (bN : Int) - ((m + 1 : Nat) : Int) ≤ 1100 := by omega
  obtain ⟨P0, hP0⟩ : ∃ P0, tenP ((bN : Int) - ((m + 1 : Nat) : Int)) = P0 := ⟨_, rfl⟩
  have hPb : -380 ≤ P0 ∧ P0 ≤ 380 := by rw [← hP0]; unfold tenP; omega
  have hst := sci_stop (amN (mag b)) m bN p hup k0 k1
  have hfi := sci_first (amN (mag b)) m bN p hlow hbN1 k0 k1
  rw [hP0, ← hDm] at hst hfi
  have hsz : ∀ j : Nat, (decs (sciM (amN (mag b)) (amD (mag b)) ((p : Int) - (P0 + (j : Int))))).length ≤ 2000 := fun j => by
    refine (decs_le (by omega)).2 ?_
    refine Nat.lt_of_le_of_lt (rnd_le _ _) ?_
    have h10 : 10 ^ ((p : Int) - (P0 + (j : Int))).toNat < B32 ^ 76 := ten_lt _ _ (by omega)
    have h2 := prod_room hN h10 (n := 109) (by omega)
    have h3 := Nat.div_le_self (amN (mag b) * 10 ^ ((p : Int) - (P0 + (j : Int))).toNat) (amD (mag b) * 10 ^ (-((p : Int) - (P0 + (j : Int)))).toNat)
    have h4 : ∀ c d, c = 2000 → d = 109 → B32 ^ d < 10 ^ c := fun c d hc hd => by
      have : B32 ^ d < (10 ^ 10) ^ d := Nat.pow_lt_pow_left (by decide) (by omega)
      rw [← Nat.pow_mul] at this
      exact Nat.lt_of_lt_of_le this (Nat.pow_le_pow_right (by omega) (by omega))
    have h5 := h4 2000 109 rfl rfl
    revert h2 h5
    generalize B32 ^ 109 = u
    generalize 10 ^ 2000 = v
    intro h2 h5
    omega
  refine (sci_core b p (amN (mag b)) (amD (mag b)) bN (m + 1) P0 (fun j => ⟨(decs (sciM (amN (mag b)) (amD (mag b)) ((p : Int) - (P0 + (j : Int))))).toArray⟩) w hp hPb.1 hPb.2 (order_nz h0 h) (Nat.lt_of_lt_of_le hN (hpow 33 34 (by omega))) hD hD0 (fun j => rfl) (fun j => by show (decs _).toArray.size ≤ _; rw [List.size_toArray]; exact hsz j) (by show (decs _).toArray.size ≤ _; rw [List.size_toArray]; exact hst) hbN hbD (by omega) (by omega) (len_room hN256) (len_room hD256) (amount_yes b w hb h) (fun W => by rw [← hP0]; exact tens_any _ W k0 k1)).mono ?_
  rintro e w' ⟨⟨j, hl, hj, rfl⟩, hB⟩
  refine ⟨⟨P0 + (j : Int), sciM (amN (mag b)) (amD (mag b)) ((p : Int) - (P0 + (j : Int))), ?_, rfl⟩, hB⟩
  change (decs _).toArray.size ≤ _ at hj
  rw [List.size_toArray] at hj
  have hmore : 10 ^ (p + 1) ≤ sciM (amN (mag b)) (amD (mag b)) ((p : Int) - (P0 + (j : Int)) + 1) := by
    rcases Nat.eq_zero_or_pos j with rfl | hjp
    · rw [Int.natCast_zero, Int.add_zero]
      exact hfi
    · have h2 := hl (j - 1) (by omega)
      change p + 1 < (decs _).toArray.size at h2
      rw [List.size_toArray] at h2
      rw [show (p : Int) - (P0 + (j : Int)) + 1 = (p : Int) - (P0 + ((j - 1 : Nat) : Int)) by omega]
      rcases Nat.lt_or_ge (sciM (amN (mag b)) (amD (mag b)) ((p : Int) - (P0 + ((j - 1 : Nat) : Int)))) (10 ^ (p + 1)) with h3 | h3
      · have := (decs_le (k := p + 1) (by omega)).2 h3
        omega
      · exact h3
  refine ⟨rfl, sci_enough hD0 (Nat.pow_pos (by omega)) (by rw [Nat.mul_comm, ← Nat.pow_succ]; exact hmore), (decs_le (by omega)).1 hj, hmore, ?_⟩
  have hj2 : j ≤ 2 := by
    rcases Nat.lt_or_ge 2 j with h3 | h3
    · have h2 := hl 2 h3
      change p + 1 < (decs _).toArray.size at h2
      rw [List.size_toArray] at h2
      exact absurd hst (by rw [sciD_eq]; exact Nat.not_le.2 h2)
    · exact h3
  omega
end Go.Proofs.YtddfigbpckhfbaaGreatDoor

namespace Go.Proofs.YtddfigbpckhfbaaGreatDoor
open Go.RowKit Go.Lib

/-- timesTwo by the opposite of p. -/
theorem timesTwo_rd (N D : Nat) (p : Int) (v : Value) (w : World) (h0 : -100000 ≤ p) (h1 : p ≤ 100000) (hA : rdA N p < B32 ^ 256) (hB : rdB D p < B32 ^ 256) (hf : Frac w v N D) :
    Calls Tryz.prog 159 #[v, .int .i64 (-p)] w fun e w' => (∃ v', e = .returned v' ∧ Frac w' v' (rdA N p) (rdB D p)) ∧ Below w.heap.size w w' := by
  unfold rdA rdB at *
  by_cases h : p ≤ 0
  · obtain ⟨k, rfl⟩ : ∃ k : Nat, p = -(k : Int) := ⟨(-p).toNat, by omega⟩
    rw [Int.neg_neg, Int.toNat_natCast] at *
    rw [show (-(k : Int)).toNat = 0 by omega, Nat.pow_zero, Nat.mul_one] at *
    exact timesTwo_up N D k v w (by omega) hA hf
  · obtain ⟨k, rfl⟩ : ∃ k : Nat, p = (k : Int) := ⟨p.toNat, by omega⟩
    rw [Int.toNat_natCast] at *
    rw [show (-(k : Int)).toNat = 0 by omega, Nat.pow_zero, Nat.mul_one] at *
    exact timesTwo_down N D k v w (by omega) (by omega) hB hf
theorem room64 : 18446744073709551616 < B32 ^ 256 := by
  have h : B32 ^ 2 < B32 ^ 256 := Nat.pow_lt_pow_right (by decide) (by omega)
  exact Nat.lt_of_le_of_lt (by decide) h
set_option maxRecDepth 100000 in
set_option maxHeartbeats 2000000 in
theorem read_core (s : ByteArray) (x K P0 : Int) (n0 N D a b : Nat) (R : Nat → Nat) (w : World) (hs : s.size ≤ 1024)
    (hx : min (max x (-1349)) 310 = K) (_hK0 : -1349 ≤ K) (_hK1 : K ≤ 310) (hP0 : -1074 ≤ P0) (hP1 : P0 ≤ 6000)
    (ha : a ≤ 6000) (hb : b ≤ 6000) (hPe : max ((a : Int) - (b : Int) - 53) (-1074) = P0)
    (hpr : parseRes s = (dig B32 n0, 0))
    (hbN : bitsN (dig B32 N) = a) (hbD : bitsN (dig B32 D) = b) (hNl : (dig B32 N).length ≤ 1000) (hDl : (dig B32 D).length ≤ 1000)
    (cT : ∀ W v, Frac W v n0 1 → Calls Tryz.prog 157 #[v, .int .i64 K] W fun e w' => (∃ v', e = .returned v' ∧ Frac w' v' N D) ∧ Below W.heap.size W w')
    (cW : ∀ j : Nat, j ≤ 2 → ∀ W v, Frac W v N D → Calls Tryz.prog 159 #[v, .int .i64 (-(P0 + (j : Int)))] W fun e w' => (∃ v', e = .returned v' ∧ Frac w' v' (rdA N (P0 + (j : Int))) (rdB D (P0 + (j : Int)))) ∧ Below W.heap.size W w')
    (cN : ∀ j : Nat, j ≤ 2 → ∀ W v, Frac W v (rdA N (P0 + (j : Int))) (rdB D (P0 + (j : Int))) → Calls Tryz.prog 160 #[v] W (Makes .u32 206 W (dig B32 (rdM N D (P0 + (j : Int))))))
    (hM : ∀ j : Nat, j ≤ 2 → rdM N D (P0 + (j : Int)) < 18446744073709551616) (hM2 : rdM N D (P0 + 2) < 9007199254740992)
    (cL : ∀ j : Nat, j ≤ 2 → (∀ i : Nat, i < j → 9007199254740992 ≤ rdM N D (P0 + (i : Int))) → rdM N D (P0 + (j : Int)) < 9007199254740992 → ∀ W, Calls Tryz.prog 130 #[.float .f64 (floatOfInt .f64 (rdM N D (P0 + (j : Int)) : Int)), .int .i64 (P0 + (j : Int))] W fun e w' => e = .returned (.float .f64 (R j)) ∧ W = w') :
    Calls Tryz.prog 110 #[.string s, .int .i64 x] w fun e w' => (∃ j : Nat, j ≤ 2 ∧ (∀ i : Nat, i < j → 9007199254740992 ≤ rdM N D (P0 + (i : Int))) ∧ rdM N D (P0 + (j : Int)) < 9007199254740992 ∧ e = .returned (.tuple #[.float .f64 (R j), .int .i64 0])) ∧ Below w.heap.size w w' := by
  have cP := parse_any s w (by omega)
  rw [hpr] at cP
  have CP := Lib.hid cP
  have CO := Lib.hid (fun (W : World) => from_small 1 W (by omega))
  have CT := Lib.hid cT
  have CW := Lib.hid cW
  have CN := Lib.hid cN
  have CL := Lib.hid cL
  have HM := Lib.hid hM
  have HM2 := Lib.hid hM2
  have cB := fun (W : World) (A : Option Addr) (c : Nat) (h : Rd .u32 W A (dig B32 N)) => bits_any A c (dig B32 N) W (lim_dig _) hNl h
  have cC := fun (W : World) (A : Option Addr) (c : Nat) (h : Rd .u32 W A (dig B32 D)) => bits_any A c (dig B32 D) W (lim_dig _) hDl h
  rw [hbN] at cB
  rw [hbD] at cC
  have CB := Lib.hid cB
  have CC := Lib.hid cC
  have hw1 : IntKind.i64.wrap ((a : Int) - (b : Int)) = (a : Int) - (b : Int) := IntWalk.i64_in _ (by omega)
  have hw2 : IntKind.i64.wrap ((a : Int) - (b : Int) - 52) = (a : Int) - (b : Int) - 52 := IntWalk.i64_in _ (by omega)
  have hw3 : IntKind.i64.wrap ((a : Int) - (b : Int) - 52 - 1) = (a : Int) - (b : Int) - 52 - 1 := IntWalk.i64_in _ (by omega)
  have hmx : max ((a : Int) - (b : Int) - 52 - 1) (-1074) = P0 := by rw [← hPe]; congr 1; omega
  have HR := Lib.hid (And.intro hw1 (And.intro hw2 (And.intro hw3 hmx)))
  clear cP cT cW cN cL cB cC hM hM2 hpr hbN hbD hNl hDl hPe hw1 hw2 hw3 hmx
  go_enter Tryz.func110, Tryz.ntmps110
  go_wp2_with fail
  refine CP.out.mono ?_
  rintro e w1 ⟨v1, rfl, o1, n1⟩
  replace o1 : Own .u32 w1 w.heap.size 206 v1 (dig B32 n0) := o1
  obtain ⟨A1, c1, rfl, e1⟩ := o1.slice_
  have Q1 := Lib.hid o1.rd
  have HB := Lib.hid n1
  clear o1 n1
  go_wp2_with fail
  refine (CO.out _).mono ?_
  rintro e w2 ⟨v2, rfl, o2, n2⟩
  obtain ⟨A2, c2, rfl, e2⟩ := o2.slice_
  have HF := Lib.hid (show Frac w2 (.agg #[.slice A1 (dig B32 n0).length c1, .slice A2 (dig B32 1).length c2]) n0 1 from ⟨A1, A2, c1, c2, rfl, e1, e2, Q1.out.below n2, o2.rd⟩)
  have HB := Lib.hid (HB.out.trans (n2.mono HB.out.size))
  clear o2 n2 Q1
  go_wp2_with fail
  refine (CT.out _ _ HF.out).mono ?_
  rintro e w3 ⟨⟨v3, rfl, Ao, Au, co, cu, rfl, e3, e4, q1, q2⟩, n3⟩
  have hB := HB.out.trans (n3.mono HB.out.size)
  have hb1 := (Below.refl w3.heap.size w3).alloc (Nat.le_refl _) (.cells #[.slice Ao (dig B32 N).length co, .slice Au (dig B32 D).length cu] 193)
  have t1 := Two.new w3 (.slice Ao (dig B32 N).length co) (.slice Au (dig B32 D).length cu) 193
  have HB := Lib.hid (hB.trans (hb1.mono hB.size))
  have hF : ∀ W, Below w3.heap.size w3 W → Frac W (.agg #[.slice Ao (dig B32 N).length co, .slice Au (dig B32 D).length cu]) N D := fun W h => ⟨Ao, Au, co, cu, rfl, e3, e4, q1.below h, q2.below h⟩
  have HF := Lib.hid hF
  have HQ1 := Lib.hid (q1.below hb1)
  have HQ2 := Lib.hid (q2.below hb1)
  have hsz : w3.heap.size ≤ (w3.alloc (.cells #[.slice Ao (dig B32 N).length co, .slice Au (dig B32 D).length cu] 193)).heap.size := by rw [World.size_alloc]; omega
  obtain ⟨W2, hW2⟩ : ∃ W2, w3.alloc (.cells #[.slice Ao (dig B32 N).length co, .slice Au (dig B32 D).length cu] 193) = W2 := ⟨_, rfl⟩
  rw [hW2] at HQ1 HQ2 t1 hb1 HB hsz
  have HW2 := Lib.hid hW2
  have HT := Lib.hid t1
  have Hb1 := Lib.hid hb1
  obtain ⟨f0, f1, z0, z1, fl⟩ := t1.facts
  clear q1 q2 hb1 t1 hB hF hW2 n3
  go_wp2_with fail
  rw [HW2.out]
  have hR := Below.refl W2.heap.size W2
  obtain ⟨hw1, hw2, hw3, hmx⟩ := HR.out
  go_region_with (first
    | (go_at_call 158; (with_reducible refine (CB.out _ _ _ (HQ1.out.below hR.drew)).mono ?_); rintro e W3 ⟨rfl, h3⟩; have b3 : Below W2.heap.size W2 W3 := h3 ▸ hR.drew; obtain ⟨f0, f1, z0, z1, _⟩ := (HT.out.below b3).facts; clear h3)
    | (go_at_call 158; (with_reducible refine (CC.out _ _ _ (HQ2.out.below b3)).mono ?_); rintro e W4 ⟨rfl, h4⟩; have b4 : Below W2.heap.size W2 W4 := h4 ▸ b3; clear h4))
  all_goals
    clear hR f0 f1 z0 z1 hw1 hw2 hw3 hmx
    have HA := Lib.hid (HF.out _ (Hb1.out.trans (b4.mono hsz)))
    have CW0 := CW.out 0 (by omega)
    have CN0 := CN.out 0 (by omega)
    have HM0 := HM.out 0 (by omega)
    simp only [Int.natCast_zero, Int.add_zero] at CW0 CN0 HM0
    obtain ⟨f0, f1, z0, z1, _⟩ := (HT.out.below b4).facts
    have hk0 : IntKind.i64.wrap (-P0) = -P0 := IntWalk.i64_in _ (by omega)
    go_wp2_with fail
    refine (CW0 _ _ HA.out).mono ?_
    rintro e w6 ⟨⟨v6, rfl, hf6⟩, h6⟩
    have HF6 := Lib.hid hf6
    have b6 : Below W2.heap.size W2 w6 := b4.trans (h6.mono b4.size)
    obtain ⟨A3, A4, c3, c4, rfl, _⟩ := hf6
    go_wp2_with fail
    refine (CN0 _ _ HF6.out).mono ?_
    rintro e w7 ⟨v7, rfl, o7, h7⟩
    obtain ⟨A7, c7, rfl, hc1, hc2⟩ := o7.slice
    have b7 : Below W2.heap.size W2 w7 := b6.trans (h7.mono b6.size)
    have hl7 := len_room (N := rdM N D P0) (Nat.lt_trans HM0 room64)
    have Q7 := Lib.hid o7.rd
    clear h6 h7 b6 b4 b3 f0 f1 z0 z1 hk0 CW0 CN0 HF6 HA o7
    go_wp2
    go_loopw [9, 10] (fun pw pt wr => ∃ (j : Nat) (A : Option Addr) (c : Nat), j ≤ 2 ∧ pw = .int .i64 (P0 + (j : Int)) ∧ pt = .slice A (dig B32 (rdM N D (P0 + (j : Int)))).length c ∧ (dig B32 (rdM N D (P0 + (j : Int)))).length ≤ c ∧ c ≤ maxLen ∧ Rd .u32 wr A (dig B32 (rdM N D (P0 + (j : Int)))) ∧ (∀ i : Nat, i < j → 9007199254740992 ≤ rdM N D (P0 + (i : Int))) ∧ Below W2.heap.size W2 wr) (fun pw _ _ => (P0 + 2 - RowKit.intOf pw).toNat)
    case atStart => exact ⟨0, A7, c7, by omega, by simp, by simp, by simpa using hc1, hc2, by simpa using Q7.out, fun i h => absurd h (Nat.not_lt_zero i), b7⟩
    case round =>
      obtain ⟨j, A, c, hj, rfl, rfl, hca, hcm, hrd, hl, bw⟩ := hrel
      have hl := Lib.hid hl
      have hMj := HM.out j hj
      have hM2 := HM2.out
      have CLj := CL.out j hj hl.out
      have HGT := Lib.hid (fun h : 9007199254740992 ≤ rdM N D (P0 + (j : Int)) => h)
      have hjl : 9007199254740992 ≤ rdM N D (P0 + (j : Int)) → j < 2 := fun h => by
        rcases Nat.lt_or_ge j 2 with h3 | h3
        · exact h3
        · obtain rfl : j = 2 := by omega
          exact absurd (Nat.lt_of_le_of_lt h hM2) (Nat.lt_irrefl _)
      have HE := Lib.hid (fun (h : rdM N D (P0 + (j : Int)) < 9007199254740992) => h)
      obtain ⟨m, hm⟩ : ∃ m, rdM N D (P0 + (j : Int)) = m := ⟨_, rfl⟩
      rw [hm] at hca hrd hMj CLj HGT HE hjl ⊢
      have hm256 : m < B32 ^ 256 := Nat.lt_trans hMj room64
      have hln := len_room hm256
      have hup := bits_up hm256
      have cBm := fun (W : World) (h : Rd .u32 W A (dig B32 m)) => bits_any A c (dig B32 m) W (lim_dig _) hln h
      have cWm := fun (W : World) (h : Rd .u32 W A (dig B32 m)) => word_any A c (dig B32 m) W (lim_dig _) hln hca hcm h
      have hlow : low64 (dig B32 m) = m := by rw [low64_mod (lim_dig m), dig_vl (by decide)]; exact Nat.mod_eq_of_lt hMj
      rw [hlow] at cWm
      have hb8 : bitsN (dig B32 m) ≤ 64 := bits_lt hMj
      have hbm : m < 9007199254740992 → bitsN (dig B32 m) ≤ 53 := fun h => bits_lt h
      obtain ⟨β, hβ⟩ : ∃ β, bitsN (dig B32 m) = β := ⟨_, rfl⟩
      rw [hβ] at hup cBm hb8 hbm
      have CBm := Lib.hid cBm
      have CWm := Lib.hid cWm
      have HRd := Lib.hid hrd
      have HM' := Lib.hid hm
      clear cBm cWm hlow hβ hm hrd hm256
      by_cases hgt : 9007199254740992 ≤ m
      · have hj1 := hjl hgt
        have hβ53 : 53 < β := by
          rcases Nat.lt_or_ge 53 β with h3 | h3
          · exact h3
          · have h4 : 2 ^ β ≤ 2 ^ 53 := Nat.pow_le_pow_right (by omega) h3
            exact absurd (Nat.lt_of_lt_of_le hup h4) (Nat.not_lt.2 hgt)
        have HG := Lib.hid (show 9007199254740992 ≤ rdM N D (P0 + (j : Int)) by rw [HM'.out]; exact hgt)
        have HA := Lib.hid (HF.out _ (Hb1.out.trans (bw.mono hsz)))
        have CW1 := CW.out (j + 1) (by omega)
        have CN1 := CN.out (j + 1) (by omega)
        have HM1 := Nat.lt_trans (HM.out (j + 1) (by omega)) room64
        rw [show P0 + ((j + 1 : Nat) : Int) = P0 + (j : Int) + 1 by omega] at CW1 CN1 HM1
        have hl1 := len_room HM1
        obtain ⟨f0, f1, z0, z1, _⟩ := (HT.out.below bw).facts
        have hk1 : IntKind.i64.wrap (-(P0 + (j : Int) + 1)) = -(P0 + (j : Int) + 1) := IntWalk.i64_in _ (by omega)
        clear hup hbm hjl hMj hM2 HM1 hgt CLj
        go_wp2_with fail
        refine (CBm.out _ HRd.out).mono ?_
        rintro e w' ⟨rfl, rfl⟩
        go_wp2_with fail
        refine (CW1 _ _ HA.out).mono ?_
        rintro e w8 ⟨⟨v8, rfl, hf8⟩, h8⟩
        have HF8 := Lib.hid hf8
        have b8 := bw.trans (h8.mono bw.size)
        obtain ⟨A4, A5, c4, c5, rfl, _⟩ := hf8
        go_wp2_with fail
        refine (CN1 _ _ HF8.out).mono ?_
        rintro e w9 ⟨v9, rfl, o9, h9⟩
        obtain ⟨A9, c9, rfl, hd1, hd2⟩ := o9.slice
        have b9 := b8.trans (h9.mono b8.size)
        have Q9 := Lib.hid o9.rd
        clear h8 h9 b8 o9
        go_wp2
        go_roundw
        case rel => exact ⟨j + 1, A9, c9, by omega, by go_num, by rw [show P0 + ((j + 1 : Nat) : Int) = P0 + (j : Int) + 1 by omega], by rw [show P0 + ((j + 1 : Nat) : Int) = P0 + (j : Int) + 1 by omega]; exact hd1, hd2, by rw [show P0 + ((j + 1 : Nat) : Int) = P0 + (j : Int) + 1 by omega]; exact Q9.out, fun i hi => by
          by_cases e : i = j
          · subst e; exact HG.out
          · exact hl.out i (by omega), b9⟩
        case measure => simp [RowKit.intOf]; omega
      · have hβ53 : ¬ 53 < β := by have := hbm (by omega); omega
        have hm53 : m < 9007199254740992 := by omega
        have CL' := Lib.hid (CLj hm53)
        have HX := Lib.hid (show rdM N D (P0 + (j : Int)) < 9007199254740992 by rw [HM'.out]; exact hm53)
        clear hup hbm hjl hM2 hgt CLj hm53
        go_wp2_with fail
        refine (CBm.out _ HRd.out).mono ?_
        rintro e w' ⟨rfl, rfl⟩
        go_wp2_with fail
        refine (CWm.out _ HRd.out).mono ?_
        rintro e w' ⟨rfl, rfl⟩
        go_wp2_with fail
        refine (CL'.out _).mono ?_
        rintro e w' ⟨rfl, rfl⟩
        go_wp2
        go_ret2
        exact ⟨⟨j, hj, hl.out, HX.out, rfl⟩, HB.out.trans (bw.mono HB.out.size)⟩
end Go.Proofs.YtddfigbpckhfbaaGreatDoor

namespace Go.Proofs.YtddfigbpckhfbaaGreatDoor
open Go.RowKit Go.Lib

theorem bits_room {N k : Nat} (h : N < B32 ^ k) : bitsN (dig B32 N) ≤ 32 * k := by
  refine bits_lt ?_
  rw [Nat.pow_mul]
  exact h
theorem rd_bd {N D a b : Nat} {p : Int} (hb : 1 ≤ b) (hN : N < 2 ^ a) (hD : 2 ^ (b - 1) ≤ D) (hp : (a : Int) - (b : Int) - 53 ≤ p) : rdM N D p < 18446744073709551616 := by
  have h1 := rnd_le (rdA N p) (rdB D p)
  have hB : 0 < rdB D p := rdB_pos (Nat.lt_of_lt_of_le (Nat.pow_pos (by omega)) hD) p
  have h2 : rdA N p / rdB D p < 18014398509481984 := by
    rw [Nat.div_lt_iff_lt_mul hB]
    unfold rdA rdB
    have e1 : N * 2 ^ (-p).toNat < 2 ^ a * 2 ^ (-p).toNat := Nat.mul_lt_mul_of_pos_right hN (Nat.pow_pos (by omega))
    have e2 : 2 ^ 54 * (2 ^ (b - 1) * 2 ^ p.toNat) ≤ 2 ^ 54 * (D * 2 ^ p.toNat) := Nat.mul_le_mul_left _ (Nat.mul_le_mul_right _ hD)
    rw [← Nat.pow_add] at e1
    rw [← Nat.pow_add, ← Nat.pow_add] at e2
    have e3 : 2 ^ (a + (-p).toNat) ≤ 2 ^ (54 + (b - 1 + p.toNat)) := Nat.pow_le_pow_right (by omega) (by omega)
    have e4 : 2 ^ 54 * (D * 2 ^ p.toNat) = 18014398509481984 * (D * 2 ^ p.toNat) := rfl
    omega
  unfold rdM
  omega
theorem timesTen_rd (n : Nat) (K : Int) (v : Value) (w : World) (h0 : -1349 ≤ K) (h1 : K ≤ 310) (hn : n < B32 ^ 129) (hf : Frac w v n 1) :
    Calls Tryz.prog 157 #[v, .int .i64 K] w fun e w' => (∃ v', e = .returned v' ∧ Frac w' v' (n * 10 ^ K.toNat) (10 ^ (-K).toNat)) ∧ Below w.heap.size w w' := by
  have hpow : ∀ a, a ≤ 256 → B32 ^ a ≤ B32 ^ 256 := fun a ha => Nat.pow_le_pow_right (by decide) ha
  by_cases h : 0 ≤ K
  · obtain ⟨k, rfl⟩ : ∃ k : Nat, K = (k : Int) := ⟨K.toNat, by omega⟩
    have e1 : ((k : Int)).toNat = k := by omega
    have e2 : (-(k : Int)).toNat = 0 := by omega
    rw [e1, e2, Nat.pow_zero]
    have h10 : 10 ^ k < B32 ^ 40 := ten_lt _ _ (by omega)
    exact timesTen_up n 1 k v w (by omega) (Nat.lt_of_lt_of_le h10 (hpow _ (by omega))) (Nat.lt_of_lt_of_le hn (hpow _ (by omega))) (Nat.lt_of_lt_of_le (prod_room hn h10 (n := 169) (by omega)) (hpow _ (by omega))) hf
  · obtain ⟨k, rfl⟩ : ∃ k : Nat, K = -(k : Int) := ⟨(-K).toNat, by omega⟩
    have e1 : (-(k : Int)).toNat = 0 := by omega
    have e2 : (-(-(k : Int))).toNat = k := by omega
    rw [e1, e2, Nat.pow_zero, Nat.mul_one]
    have h10 : 10 ^ k < B32 ^ 169 := ten_lt _ _ (by omega)
    have h10' := Nat.lt_of_lt_of_le h10 (hpow _ (by omega))
    have h := timesTen_down n 1 k v w (by omega) (by omega) h10' (Nat.one_lt_pow (by omega) (by decide)) (by rw [Nat.one_mul]; exact h10') hf
    rw [Nat.one_mul] at h
    exact h
/-- Read's answer at a power that is near enough. -/
theorem read_mid (s : ByteArray) (x K : Int) (w : World) (hs : s.size ≤ 1024) (hd : isDec s = true) (hx : min (max x (-1349)) 310 = K) :
    Calls Tryz.prog 110 #[.string s, .int .i64 x] w fun e w' => (∃ r, e = .returned (.tuple #[.float .f64 r, .int .i64 0]) ∧ Near (2 * (pv s.data.toList * 10 ^ K.toNat) * S1074) (10 ^ (-K).toNat) r) ∧ Below w.heap.size w w' := by
  have hK0 : -1349 ≤ K := by omega
  have hK1 : K ≤ 310 := by omega
  obtain ⟨n, hn⟩ : ∃ n, pv s.data.toList = n := ⟨_, rfl⟩
  have hnb : n < B32 ^ 129 := by
    rw [← hn]
    refine Nat.lt_trans (pv_lt (isDec_iff.1 hd).2) (ten_lt _ _ ?_)
    rw [ba_len]
    omega
  have hpow : ∀ a c, a ≤ c → B32 ^ a ≤ B32 ^ c := fun a c hac => Nat.pow_le_pow_right (by decide) hac
  have hpr : parseRes s = (dig B32 n, 0) := by rw [parseRes, if_pos hd, hn, natRes_ok (len_dig (Nat.lt_of_lt_of_le hnb (hpow _ _ (by omega))))]
  rw [hn]
  obtain ⟨N, hN⟩ : ∃ N, n * 10 ^ K.toNat = N := ⟨_, rfl⟩
  obtain ⟨D, hD⟩ : ∃ D, 10 ^ (-K).toNat = D := ⟨_, rfl⟩
  have cT := fun (W : World) (v : Value) (hf : Frac W v n 1) => timesTen_rd n K v W hK0 hK1 hnb hf
  rw [hN, hD] at cT
  have hNb : N < B32 ^ 169 := by rw [← hN]; exact prod_room hnb (ten_lt _ 40 (by omega)) (by omega)
  have hDb : D < B32 ^ 169 := by rw [← hD]; exact ten_lt _ _ (by omega)
  have hDp : 0 < D := by rw [← hD]; exact Nat.pow_pos (by omega)
  rw [hN, hD]
  have hN256 := Nat.lt_of_lt_of_le hNb (hpow 169 256 (by omega))
  have hD256 := Nat.lt_of_lt_of_le hDb (hpow 169 256 (by omega))
  obtain ⟨a, ha⟩ : ∃ a, bitsN (dig B32 N) = a := ⟨_, rfl⟩
  obtain ⟨b, hb⟩ : ∃ b, bitsN (dig B32 D) = b := ⟨_, rfl⟩
  have ha2 := bits_room hNb
  have hb2 := bits_room hDb
  have hNa := bits_up hN256
  have hDb2 := bits_up hD256
  obtain ⟨hDl, hb1⟩ := bits_low hDp
  rw [ha] at ha2 hNa
  rw [hb] at hb2 hDb2 hDl hb1
  obtain ⟨P0, hP0⟩ : ∃ P0, max ((a : Int) - (b : Int) - 53) (-1074) = P0 := ⟨_, rfl⟩
  have hPj : ∀ j : Nat, j ≤ 2 → P0 + (j : Int) ≤ 0 ∨ P0 + (j : Int) ≤ (a : Int) - (b : Int) - 51 := fun j hj => by omega
  have hA : ∀ j : Nat, j ≤ 2 → rdA N (P0 + (j : Int)) < B32 ^ 203 := fun j hj => prod_room hNb (two_lt _ 34 (by omega)) (by omega)
  have hB : ∀ j : Nat, j ≤ 2 → rdB D (P0 + (j : Int)) < B32 ^ 203 := fun j hj => by
    rcases hPj j hj with h | h
    · rw [rdB, show (P0 + (j : Int)).toNat = 0 by omega, Nat.pow_zero, Nat.mul_one]
      exact Nat.lt_of_lt_of_le hDb (hpow _ _ (by omega))
    · have h3 : rdB D (P0 + (j : Int)) < 2 ^ b * 2 ^ (P0 + (j : Int)).toNat := Nat.mul_lt_mul_of_pos_right hDb2 (Nat.pow_pos (by omega))
      rw [← Nat.pow_add] at h3
      exact Nat.lt_trans h3 (two_lt _ _ (by omega))
  have hM2 : rdM N D (P0 + 2) < 9007199254740992 := rd_stop hb1 hNa hDl (by omega)
  have low : ∀ j : Nat, j ≤ 2 → (∀ i : Nat, i < j → 9007199254740992 ≤ rdM N D (P0 + (i : Int))) → 0 < N → Low N D (P0 + (j : Int)) := fun j hj hl hN0 => by
    rcases Nat.eq_zero_or_pos j with rfl | hjp
    · obtain ⟨h1, h2⟩ := bits_low hN0
      rw [ha] at h1 h2
      have := low_first h2 h1 hDb2
      rw [hP0] at this
      rw [Int.natCast_zero, Int.add_zero]
      exact this
    · refine low_next hDp ?_
      have := hl (j - 1) (by omega)
      rwa [show P0 + ((j - 1 : Nat) : Int) = P0 + (j : Int) - 1 by omega] at this
  have zero : N = 0 → ∀ p, rdM N D p = 0 := fun h p => by
    have hBp := rdB_pos hDp p
    rw [rdM, rdA, h, Nat.zero_mul, rnd, Nat.zero_div, Nat.zero_mod, if_neg (by omega)]
  refine (read_core s x K P0 n N D a b (fun j => ldB (rdM N D (P0 + (j : Int))) (P0 + (j : Int))) w hs hx hK0 hK1 (by omega) (by omega) (by omega) (by omega) hP0 hpr ha hb (len_room hN256) (len_room hD256) cT
    (fun j hj W v hf => timesTwo_rd N D _ v W (by omega) (by omega) (Nat.lt_of_lt_of_le (hA j hj) (hpow _ _ (by omega))) (Nat.lt_of_lt_of_le (hB j hj) (hpow _ _ (by omega))) hf)
    (fun j hj W v hf => nearest_any _ _ v W (Nat.lt_of_lt_of_le (hA j hj) (hpow _ _ (by omega))) (Nat.lt_of_lt_of_le (hB j hj) (hpow _ _ (by omega))) (rdB_pos hDp _) hf)
    (fun j hj => rd_bd hb1 hNa hDl (by omega)) hM2
    (fun j hj hl hm W => ldexp_any _ _ W hm (by omega) (by omega) ?_)).mono ?_
  · rcases Nat.eq_zero_or_pos N with h0 | h0
    · exact Or.inr (Or.inr (zero h0 _))
    · rcases low j hj hl h0 with h | h
      · exact Or.inl h
      · exact Or.inr (Or.inl (low_man hDp h))
  · rintro e w' ⟨⟨j, hj, hl, hm, rfl⟩, hB'⟩
    refine ⟨⟨_, rfl, ?_⟩, hB'⟩
    rcases Nat.eq_zero_or_pos N with h0 | h0
    · rw [ldB, if_pos (zero h0 _), h0, Nat.mul_zero, Nat.zero_mul]
      exact near_zero hDp
    · have hlw := low j hj hl h0
      have hnr := read_near hDp (p := P0 + (j : Int)) (by omega) hm hlw
      by_cases hm0 : rdM N D (P0 + (j : Int)) = 0
      · have he : (P0 + (j : Int) + 1074).toNat = 0 := by
          rcases hlw with h | h
          · rw [h]; decide
          · have := low_man hDp h
            omega
        rw [ldB, if_pos hm0]
        rw [hm0, he] at hnr
        exact hnr
      · rw [ldB, if_neg hm0]
        exact hnr
end Go.Proofs.YtddfigbpckhfbaaGreatDoor

namespace Go.Proofs.YtddfigbpckhfbaaGreatDoor
open Go.RowKit Go.Lib

theorem big310 (c d : Nat) (hc : c = 310) (hd : d = 1025) : 2 ^ d ≤ 10 ^ c := by
  have h : 2 ^ 205 ≤ 10 ^ 62 := by decide
  have h2 := Nat.pow_le_pow_left h 5
  rwa [← Nat.pow_mul, ← Nat.pow_mul, show 205 * 5 = d by omega, show 62 * 5 = c by omega] at h2
theorem big325 (c d : Nat) (hc : c = 325) (hd : d = 1075) : 2 ^ d ≤ 10 ^ c := by
  have h : 2 ^ 215 ≤ 10 ^ 65 := by decide
  have h2 := Nat.pow_le_pow_left h 5
  rwa [← Nat.pow_mul, ← Nat.pow_mul, show 215 * 5 = d by omega, show 65 * 5 = c by omega] at h2
theorem V_inf (c : Nat) (hc : c = 2046) : V 9218868437227405312 = 4503599627370496 * 2 ^ c := by
  have h := V_at c 4503599627370496 (by omega) (Or.inr (by omega))
  rwa [show c * 4503599627370496 + 4503599627370496 = 9218868437227405312 by omega] at h
/-- What is as great as ten to the 310 is infinity. -/
theorem near_top {n r : Nat} (hn : 0 < n) (c : Nat) (hc : c = 310) (h : Near (2 * (n * 10 ^ c) * S1074) 1 r) : r = 9218868437227405312 := by
  rcases Nat.lt_or_ge r 9218868437227405312 with hlt | hge
  · exfalso
    have h1 := h.hi hlt
    have h2 := V_lt hlt
    have h3 := V_le (show r + 1 ≤ 9218868437227405312 by omega)
    obtain ⟨f, hf⟩ : ∃ f : Nat, f = 1074 := ⟨_, rfl⟩
    rw [S_eq f hf] at h1
    obtain ⟨d, hd⟩ : ∃ d : Nat, d = 1025 := ⟨_, rfl⟩
    have h4 := big310 c d hc hd
    have h5 := V_inf (d - 51 + f - 2) (by omega)
    have h6 : 4503599627370496 * 2 ^ (d - 51 + f - 2) = 2 ^ (d - 1) * 2 ^ f := by
      rw [show (4503599627370496 : Nat) = 2 ^ 52 by decide, ← Nat.pow_add, ← Nat.pow_add, show 52 + (d - 51 + f - 2) = d - 1 + f by omega]
    have h7 : 2 ^ d = 2 * 2 ^ (d - 1) := by rw [← Nat.pow_succ', show (d - 1).succ = d by omega]
    have h8 : 2 * (1 * 2 ^ (d - 1)) * 2 ^ f ≤ 2 * (n * 10 ^ c) * 2 ^ f := Nat.mul_le_mul_right _ (Nat.mul_le_mul_left _ (Nat.mul_le_mul hn (by omega)))
    rw [Nat.one_mul, Nat.mul_assoc] at h8
    rw [h5, h6] at h2 h3
    rw [Nat.mul_one] at h1
    generalize 2 ^ (d - 1) * 2 ^ f = z at *
    omega
  · exact Nat.le_antisymm h.top hge
theorem near_inf {X : Nat} {X' : Nat} (h : Near X 1 9218868437227405312) (hx : X ≤ X') : Near X' 1 9218868437227405312 :=
  ⟨fun q hq => Nat.le_trans (h.lo q hq) hx, fun _ _ _ => rfl, fun h => absurd h (by omega), fun h => absurd h (by omega), Nat.le_refl _⟩
/-- What is less than ten to the -325 is nought. -/
theorem near_low {n r : Nat} (c t : Nat) (hc : c = 1349) (ht : t = 1024) (hn : n < 10 ^ t) (h : Near (2 * n * S1074) (10 ^ c) r) : r = 0 := by
  rcases Nat.eq_zero_or_pos r with h0 | h0
  · exact h0
  · exfalso
    have h1 := h.lo (r - 1) (by omega)
    have h2 := V_lt h0
    obtain ⟨f, hf⟩ : ∃ f : Nat, f = 1074 := ⟨_, rfl⟩
    rw [S_eq f hf] at h1
    have h4 := big325 (c - t) (f + 1) (by omega) (by omega)
    have h5 : 10 ^ c = 10 ^ t * 10 ^ (c - t) := by rw [← Nat.pow_add]; congr 1; omega
    have h6 : 1 * 10 ^ c ≤ (V (r - 1) + V r) * 10 ^ c := Nat.mul_le_mul_right _ (by omega)
    have h7 : 2 * n * 2 ^ f < 2 * 10 ^ t * 2 ^ f := Nat.mul_lt_mul_of_pos_right (by omega) (Nat.pow_pos (by omega))
    have h8 : 10 ^ t * 2 ^ (f + 1) ≤ 10 ^ t * 10 ^ (c - t) := Nat.mul_le_mul_left _ h4
    have h9 : 2 * 10 ^ t * 2 ^ f = 10 ^ t * 2 ^ (f + 1) := by rw [Nat.pow_succ, Nat.mul_comm 2, Nat.mul_assoc, Nat.mul_comm 2]
    rw [h5] at h6 h1
    generalize 10 ^ t * 10 ^ (c - t) = z at *
    generalize 10 ^ t * 2 ^ (f + 1) = y at *
    omega
/-- The powers beyond those that Read takes make no difference. -/
theorem near_unclamp {n r : Nat} {x K : Int} (t : Nat) (ht : t = 1024) (hn : n < 10 ^ t) (hx : min (max x (-1349)) 310 = K) (h : Near (2 * (n * 10 ^ K.toNat) * S1074) (10 ^ (-K).toNat) r) :
    Near (2 * (n * 10 ^ x.toNat) * S1074) (10 ^ (-x).toNat) r := by
  rcases Nat.eq_zero_or_pos n with h0 | h0
  · subst h0
    have : r = 0 := by
      rw [Nat.zero_mul, Nat.mul_zero, Nat.zero_mul] at h
      exact h.uniq (Nat.pow_pos (by omega)) (Nat.pow_pos (by omega)) rfl (near_zero (Nat.pow_pos (by omega)))
    subst this
    rw [Nat.zero_mul, Nat.mul_zero, Nat.zero_mul]
    exact near_zero (Nat.pow_pos (by omega))
  by_cases h1 : 310 < x
  · have hK : K = 310 := by omega
    rw [hK, show ((310 : Int)).toNat = 310 by decide, show (-(310 : Int)).toNat = 0 by decide, Nat.pow_zero] at h
    rw [show (-x).toNat = 0 by omega, Nat.pow_zero]
    obtain ⟨c, hc⟩ : ∃ c : Nat, c = 310 := ⟨_, rfl⟩
    rw [← hc] at h
    have hr := near_top h0 c hc h
    subst hr
    refine near_inf h ?_
    exact Nat.mul_le_mul_right _ (Nat.mul_le_mul_left _ (Nat.mul_le_mul_left _ (Nat.pow_le_pow_right (by omega) (by omega))))
  by_cases h2 : x < -1349
  · have hK : K = -1349 := by omega
    rw [hK, show (-(-1349 : Int)).toNat = 1349 by decide, show (-1349 : Int).toNat = 0 by decide, Nat.pow_zero, Nat.mul_one] at h
    rw [show x.toNat = 0 by omega, Nat.pow_zero, Nat.mul_one]
    obtain ⟨c, hc⟩ : ∃ c : Nat, c = 1349 := ⟨_, rfl⟩
    rw [← hc] at h
    have hr := near_low c t hc ht hn h
    subst hr
    refine ⟨fun q e => absurd e (by omega), fun q e => absurd e (by omega), fun _ => ?_, fun _ _ => rfl, by omega⟩
    exact Nat.le_trans (h.hi (by omega)) (Nat.mul_le_mul_left _ (Nat.pow_le_pow_right (by omega) (by omega)))
  · have : K = x := by omega
    subst this
    exact h
/-- Read: the nearest float to the digits times the power of ten. -/
theorem read_yes (s : ByteArray) (x : Int) (w : World) (hs : s.size ≤ 1024) (hd : isDec s = true) :
    Calls Tryz.prog 110 #[.string s, .int .i64 x] w fun e w' => (∃ r, e = .returned (.tuple #[.float .f64 r, .int .i64 0]) ∧ Near (2 * (pv s.data.toList * 10 ^ x.toNat) * S1074) (10 ^ (-x).toNat) r) ∧ Below w.heap.size w w' := by
  refine (read_mid s x _ w hs hd rfl).mono ?_
  rintro e w' ⟨⟨r, rfl, h⟩, hB⟩
  obtain ⟨t, ht⟩ : ∃ t : Nat, t = 1024 := ⟨_, rfl⟩
  refine ⟨⟨r, rfl, near_unclamp t ht ?_ rfl h⟩, hB⟩
  refine Nat.lt_of_lt_of_le (pv_lt (isDec_iff.1 hd).2) (Nat.pow_le_pow_right (by omega) ?_)
  rw [ba_len, ht]
  exact hs
end Go.Proofs.YtddfigbpckhfbaaGreatDoor

namespace Go.Proofs.YtddfigbpckhfbaaGreatDoor

theorem rnd_mono {A B A' B' : Nat} (hB : 0 < B) (hB' : 0 < B') (h : A * B' ≤ A' * B) : rnd A B ≤ rnd A' B' := by
  obtain ⟨-, h1⟩ := rnd_near A B hB
  obtain ⟨⟨h2, h2e⟩, -⟩ := rnd_near A' B' hB'
  generalize rnd A B = m at *
  generalize rnd A' B' = m' at *
  rcases Nat.lt_or_ge m' m with hlt | hge
  · exfalso
    obtain ⟨h1, h1e⟩ := h1 (by omega)
    have e1 : (2 * m - 1) * B * B' ≤ 2 * A * B' := Nat.mul_le_mul_right _ h1
    have e2 : 2 * A' * B ≤ (2 * m' + 1) * B' * B := Nat.mul_le_mul_right _ h2
    rw [Nat.mul_right_comm _ B' B] at e2
    have e3 : 2 * A * B' ≤ 2 * A' * B := by rw [Nat.mul_assoc, Nat.mul_assoc]; omega
    have e4 : (2 * m - 1) * B * B' ≤ (2 * m' + 1) * B * B' := by omega
    have e5 := Nat.le_of_mul_le_mul_right (Nat.le_of_mul_le_mul_right e4 hB') hB
    have e6 : 2 * m - 1 = 2 * m' + 1 := by omega
    rw [e6] at h1 h1e e1
    have e7 : 2 * A * B' = (2 * m' + 1) * B * B' := by omega
    have e8 : 2 * A' * B = (2 * m' + 1) * B' * B := by rw [Nat.mul_right_comm _ B' B]; omega
    have p1 := h1e (Nat.eq_of_mul_eq_mul_right hB' e7).symm
    have p2 := h2e (Nat.eq_of_mul_eq_mul_right hB e8)
    omega
  · exact hge
theorem sci_mono {N D : Nat} {k l : Int} (hD : 0 < D) (h : k ≤ l) : sciM N D k ≤ sciM N D l := by
  refine rnd_mono (Nat.mul_pos hD (Nat.pow_pos (by omega))) (Nat.mul_pos hD (Nat.pow_pos (by omega))) ?_
  have e : 10 ^ k.toNat * 10 ^ (-l).toNat ≤ 10 ^ l.toNat * 10 ^ (-k).toNat := by
    rw [← Nat.pow_add, ← Nat.pow_add]
    exact Nat.pow_le_pow_right (by omega) (by omega)
  calc N * 10 ^ k.toNat * (D * 10 ^ (-l).toNat) = N * D * (10 ^ k.toNat * 10 ^ (-l).toNat) := by ac_rfl
    _ ≤ N * D * (10 ^ l.toNat * 10 ^ (-k).toNat) := Nat.mul_le_mul_left _ e
    _ = N * 10 ^ l.toNat * (D * 10 ^ (-k).toNat) := by ac_rfl
theorem SciOk.uniq {N D p M M' : Nat} {P P' : Int} (hD : 0 < D) (h : SciOk N D p P M) (h' : SciOk N D p P' M') : P = P' ∧ M = M' := by
  have key : ∀ {P P' : Int} {M M' : Nat}, SciOk N D p P M → SciOk N D p P' M' → ¬ P < P' := fun {P P' M M'} h h' hlt => by
    have h1 := sci_mono (N := N) hD (show (p : Int) - P' + 1 ≤ (p : Int) - P by omega)
    have h2 := h'.more
    have h3 := h.high
    rw [h.val] at h3
    omega
  have e : P = P' := by
    have := key h h'
    have := key h' h
    omega
  subst e
  exact ⟨rfl, by rw [h.val, h'.val]⟩
end Go.Proofs.YtddfigbpckhfbaaGreatDoor

namespace Go.Proofs.YtddfigbpckhfbaaGreatDoor
open Go.RowKit Go.Lib

theorem decs_step {m : Nat} (h : 10 ≤ m) : decs m = decs (m / 10) ++ [db (m % 10)] := by
  have h0 : m / 10 ≠ 0 := by omega
  have e : dig 10 m = m % 10 :: dig 10 (m / 10) := by
    refine dig_eq (by decide) ⟨lim_cons.2 ⟨Nat.mod_lt _ (by omega), (dig_norm (by decide) _).1⟩, ?_⟩ ?_
    · have := (dig_norm (B := 10) (by decide) (m / 10)).2
      have hn : dig 10 (m / 10) ≠ [] := fun e => h0 (dig_nil (by decide) e)
      unfold Top at *
      rw [List.getLast?_cons]
      rw [List.getLast?_eq_some_getLast hn] at this ⊢
      exact this
    · rw [vl_cons, dig_vl (by decide)]
      omega
  rw [decs, if_neg (by omega), e, decs, if_neg h0]
  simp
theorem decs_one {m : Nat} (h : m < 10) : decs m = [db (m % 10)] := by
  have : ∀ m : Nat, m < 10 → decs m = [db (m % 10)] := by decide
  exact this m h
/-- What stands ahead of the digits that are written already. -/
def ahead (m : Nat) : List UInt8 := if m < 10 then [] else decs (m / 10)
theorem ahead_step (m : Nat) : ahead m ++ [db (m % 10)] = decs m := by
  unfold ahead
  split
  · rw [decs_one (by assumption)]; rfl
  · rw [decs_step (m := m) (by omega)]
end Go.Proofs.YtddfigbpckhfbaaGreatDoor

namespace Go.Proofs.YtddfigbpckhfbaaGreatDoor
open Go.RowKit Go.Lib

theorem V_am {r : Nat} : V r * amD r = amN r * S1074 := by
  obtain ⟨c, hc⟩ : ∃ c : Nat, c = 1074 := ⟨_, rfl⟩
  rw [← val_V, Nat.shiftLeft_eq, amN, amD, S_eq c hc, Nat.mul_assoc, Nat.mul_assoc, ← Nat.pow_add, ← Nat.pow_add]
  have := expF_lo r
  rw [show (expF r - -1074).toNat + (-expF r).toNat = (expF r).toNat + c by omega]
theorem S_pos : 0 < S1074 := by
  obtain ⟨c, hc⟩ : ∃ c : Nat, c = 1074 := ⟨_, rfl⟩
  rw [S_eq c hc]
  exact Nat.pow_pos (by omega)
theorem dec_decs (n : Nat) : Dec (decs n) := by
  induction n using Nat.strongRecOn with
  | _ n ih =>
    rw [← ahead_step]
    intro c hc
    rcases List.mem_append.1 hc with h | h
    · unfold ahead at h
      split at h
      · exact absurd h (by simp)
      · exact ih _ (by omega) c h
    · rw [List.mem_singleton.1 h, db_toNat (Nat.mod_lt _ (by omega))]
      omega
theorem dec_noughts (k : Nat) : Dec (List.replicate k (48 : UInt8)) := fun c hc => by
  rw [(List.mem_replicate.1 hc).2]
  decide
/-- What Read answers, with a name for the float. -/
def ReadEnd (w : World) (X D : Nat) (e : Ending) (w' : World) : Prop := ∃ r, e = .returned (.tuple #[.float .f64 r, .int .i64 0]) ∧ Hid (Near X D r) ∧ Below w.heap.size w w'
theorem read_end (s : ByteArray) (n : Nat) (x : Int) (w : World) (hs : s.size ≤ 1024) (hd : isDec s = true) (hn : pv s.data.toList = n) :
    Calls Tryz.prog 110 #[.string s, .int .i64 x] w (ReadEnd w (2 * (n * 10 ^ x.toNat) * S1074) (10 ^ (-x).toNat)) := by
  refine (read_yes s x w hs hd).mono ?_
  rintro e w' ⟨⟨r, rfl, h⟩, hB⟩
  rw [hn] at h
  exact ⟨r, rfl, Lib.hid h, hB⟩
theorem decs_len_of {M p : Nat} (h1 : 10 ^ p ≤ M) (h2 : M < 10 ^ (p + 1)) : (decs M).length = p + 1 := by
  have a := (decs_le (n := M) (k := p + 1) (by omega)).2 h2
  rcases Nat.eq_zero_or_pos p with rfl | hp
  · have : 1 ≤ (decs M).length := by rw [← ahead_step, List.length_append]; simp
    omega
  · rcases Nat.lt_or_ge p (decs M).length with h3 | h3
    · omega
    · exact absurd ((decs_le hp).1 h3) (by omega)
end Go.Proofs.YtddfigbpckhfbaaGreatDoor

namespace Go.Proofs.YtddfigbpckhfbaaGreatDoor
open Go.RowKit Go.Lib

/-- Is it a decimal digit? -/
def isD (c : UInt8) : Bool := decide (48 ≤ c.toNat) && decide (c.toNat ≤ 57)
theorem isD_iff {c : UInt8} : isD c = true ↔ 48 ≤ c.toNat ∧ c.toNat ≤ 57 := by simp [isD]
/-- How many digits a text begins with. -/
def nDig (l : List UInt8) : Nat := (l.takeWhile isD).length
theorem nDig_at {l : List UInt8} {k : Nat} (hk : k ≤ l.length) (h : ∀ j (hj : j < l.length), j < k → isD l[j] = true) (hs : ∀ hj : k < l.length, isD l[k] = false) : nDig l = k := by
  induction l generalizing k with
  | nil => simp at hk; subst hk; rfl
  | cons c l ih =>
    rcases Nat.eq_zero_or_pos k with rfl | hk0
    · have := hs (by simp)
      simp only [List.getElem_cons_zero] at this
      unfold nDig
      rw [List.takeWhile_cons, this]
      rfl
    · obtain ⟨k, rfl⟩ : ∃ m, k = m + 1 := ⟨k - 1, by omega⟩
      have hc := h 0 (by simp) (by omega)
      simp only [List.getElem_cons_zero] at hc
      have := ih (k := k) (by simpa using hk) (fun j hj hjk => by have := h (j + 1) (by simpa using hj) (by omega); simpa using this) (fun hj => by have := hs (by simpa using hj); simpa using this)
      unfold nDig at this ⊢
      rw [List.takeWhile_cons, hc]
      simp [this]
theorem ba_byte (S : ByteArray) {l : List UInt8} (h : S.data.toList = l) (j : Nat) (hj : j < S.size) : l[j]? = some (S[j]'hj) := by
  rw [← h, Array.getElem?_toList, Array.getElem?_eq_getElem hj]
  rfl
set_option maxRecDepth 100000 in
set_option maxHeartbeats 2000000 in
theorem cutDigits_any (s : ByteArray) (w : World) (hs : s.size ≤ 4611686018427387904) :
    Calls Tryz.prog 112 #[.string s] w fun e w' => e = .returned (.tuple #[.string (s.extract 0 (nDig s.data.toList)), .string (s.extract (nDig s.data.toList) s.size)]) ∧ Below w.heap.size w w' := by
  obtain ⟨l, hl⟩ : ∃ l, s.data.toList = l := ⟨_, rfl⟩
  have hlen : l.length = s.size := by rw [← hl, ba_len]
  have HBY := Lib.hid (fun j hj => ba_byte s hl j hj)
  rw [hl]
  have HLEN := Lib.hid hlen
  clear hl hlen
  go_enter Tryz.func112, Tryz.ntmps112
  go_wp2
  go_loop [4] (fun iv => ∃ k : Nat, iv = .int .i64 (k : Int) ∧ k ≤ s.size ∧ ∀ j (hj : j < l.length), j < k → isD l[j] = true) (fun iv => s.size - (RowKit.intOf iv).toNat)
  case atStart => exact ⟨0, rfl, Nat.zero_le _, fun j _ hj => absurd hj (Nat.not_lt_zero j)⟩
  case round =>
    obtain ⟨k, rfl, hk, h0⟩ := hrel
    have H0 := Lib.hid h0
    clear h0
    have g0 : (0 : Int) ≤ (k : Int) := by omega
    have g1 : (k : Int) ≤ (s.size : Int) := by omega
    by_cases hlt : k < s.size
    · obtain ⟨z, hz⟩ : ∃ z, (s[k]'hlt).toNat = z := ⟨_, rfl⟩
      have hzi : ((s[k]'hlt).toNat : Int) = (z : Int) := by omega
      have hby : ∀ hj : k < l.length, l[k] = s[k]'hlt := fun hj => by
        have h := HBY.out k hlt
        rw [List.getElem?_eq_getElem hj] at h
        exact Option.some.inj h
      have HBK := Lib.hid hby
      have HZ := Lib.hid hz
      clear hby hz
      by_cases hd : 48 ≤ z ∧ z ≤ 57
      · obtain ⟨d1, d2⟩ := hd
        have d1i : (48 : Int) ≤ (z : Int) := by omega
        have d2i : (z : Int) ≤ 57 := by omega
        go_wp2_with fail
        go_round
        case rel => exact ⟨k + 1, by go_num, by omega, fun j hj hjk => by
          rcases Nat.lt_or_ge j k with h | h
          · exact H0.out j hj h
          · obtain rfl : j = k := by omega
            rw [HBK.out hj, isD_iff, HZ.out]
            exact ⟨d1, d2⟩⟩
        case measure => simp [RowKit.intOf]; omega
      · have HN := Lib.hid (show nDig l = k from nDig_at (by rw [HLEN.out]; exact hk) H0.out (fun hj => by
          rw [HBK.out hj]
          cases hc : isD (s[k]'hlt) with
          | false => rfl
          | true => rw [isD_iff, HZ.out] at hc; exact absurd hc hd))
        have hcase : ¬ (48 : Int) ≤ (z : Int) ∨ ((48 : Int) ≤ (z : Int) ∧ ¬ (z : Int) ≤ 57) := by omega
        clear hd
        rcases hcase with h1 | ⟨h1, h2⟩
        all_goals
          go_wp2_with fail
          go_quiet (fail)
          go_wp2_with fail
          go_ret2
          exact ⟨by rw [HN.out]; rfl, below_drewN (Below.refl _ _) _⟩
    · have HN := Lib.hid (show nDig l = k from nDig_at (by rw [HLEN.out]; exact hk) H0.out (fun hj => by have := HLEN.out; omega))
      go_wp2_with fail
      go_quiet (fail)
      go_wp2_with fail
      go_ret2
      exact ⟨by rw [HN.out]; rfl, below_drewN (Below.refl _ _) _⟩
/-- The number that digits write, or the bound, if that is less. -/
def cntZ (l : List UInt8) (b : Nat) : Nat := min (pv l) b
theorem cnt_step {a b p d : Nat} (hd : d ≤ 9) (h : a = min p b) : min (a * 10 + d) b = min (p * 10 + d) b := by
  subst h
  rcases Nat.le_total p b with h | h
  · rw [Nat.min_eq_left h]
  · rw [Nat.min_eq_right h, Nat.min_eq_right (by omega), Nat.min_eq_right (by omega)]
set_option maxRecDepth 100000 in
set_option maxHeartbeats 2000000 in
theorem count_any (s : ByteArray) (b : Nat) (w : World) (hs : s.size ≤ 4611686018427387904) (hd : Dec s.data.toList) (hb : b ≤ 1099511627776) :
    Calls Tryz.prog 163 #[.string s, .int .i64 (b : Int)] w fun e w' => e = .returned (.int .i64 (cntZ s.data.toList b : Nat)) ∧ w = w' := by
  obtain ⟨l, hl⟩ : ∃ l, s.data.toList = l := ⟨_, rfl⟩
  have hlen : l.length = s.size := by rw [← hl, ba_len]
  have HBY := Lib.hid (fun j hj => ba_byte s hl j hj)
  rw [hl] at hd ⊢
  have HLEN := Lib.hid hlen
  have HD := Lib.hid hd
  clear hl hlen hd
  go_enter Tryz.func163, Tryz.ntmps163
  go_wp2
  go_loop [5, 9] (fun nv iv => ∃ k a : Nat, iv = .int .i64 (k : Int) ∧ nv = .int .i64 (a : Int) ∧ k ≤ s.size ∧ a = min (pv (l.take k)) b) (fun _ iv => s.size - (RowKit.intOf iv).toNat)
  case atStart => exact ⟨0, 0, rfl, rfl, Nat.zero_le _, by rw [List.take_zero, pv_nil, Nat.zero_min]⟩
  case round =>
    obtain ⟨k, a, rfl, rfl, hk, ha⟩ := hrel
    have hab : a ≤ b := by omega
    have HA := Lib.hid ha
    clear ha
    by_cases hlt : k < s.size
    · obtain ⟨z, hz⟩ : ∃ z, (s[k]'hlt).toNat = z := ⟨_, rfl⟩
      have hkl : k < l.length := by rw [HLEN.out]; exact hlt
      have hby : l[k] = s[k]'hlt := by
        have h := HBY.out k hlt
        rw [List.getElem?_eq_getElem hkl] at h
        exact Option.some.inj h
      have hzb := HD.out (s[k]'hlt) (by rw [← hby]; exact List.getElem_mem _)
      rw [hz] at hzb
      obtain ⟨z1, z2⟩ := hzb
      have hzi : ((s[k]'hlt).toNat : Int) = (z : Int) := by omega
      obtain ⟨m, hm⟩ : ∃ m : Nat, min ((a : Int) * 10 + ((z : Int) - 48)) (b : Int) = (m : Int) := ⟨(min ((a : Int) * 10 + ((z : Int) - 48)) (b : Int)).toNat, by omega⟩
      have HM := Lib.hid (show m = min (pv (l.take (k + 1))) b by
        have e : l.take (k + 1) = l.take k ++ [l[k]] := List.take_succ_eq_append_getElem hkl
        rw [e, pv_snoc, hby, hz, ← cnt_step (a := a) (by omega) HA.out]
        omega)
      clear hby hz
      go_wp2_with fail
      go_round
      case rel => exact ⟨k + 1, m, by go_num, rfl, by omega, HM.out⟩
      case measure => simp [RowKit.intOf]; omega
    · have HE := Lib.hid (show a = cntZ l b by
        have h := HA.out
        rw [List.take_of_length_le (by rw [HLEN.out]; omega)] at h
        exact h)
      go_wp2_with fail
      go_ret
      exact ⟨by rw [HE.out]; rfl, rfl⟩
end Go.Proofs.YtddfigbpckhfbaaGreatDoor

namespace Go.Proofs.YtddfigbpckhfbaaGreatDoor
open Go.RowKit Go.Lib

/-- Is there a minus ahead, and what stands behind the sign? -/
def sgnL : List UInt8 → Bool × List UInt8
  | 45 :: l => (true, l)
  | 43 :: l => (false, l)
  | l => (false, l)
theorem pre_one (c : UInt8) (l : List UInt8) : Lib.hasPrefix l [c] = (l.head? == some c) := by
  cases l with
  | nil => rfl
  | cons x l => simp [Lib.hasPrefix, List.isPrefixOf, Bool.beq_comm]
set_option maxRecDepth 100000 in
set_option maxHeartbeats 1000000 in
theorem cutSign_any (s : ByteArray) (w : World) : Calls Tryz.prog 109 #[.string s] w fun e w' => e = .returned (.tuple #[.bool (sgnL s.data.toList).1, .string ⟨(sgnL s.data.toList).2.toArray⟩]) ∧ w = w' := by
  have c1 := fun W => Tryz.strings_CutPrefix s ⟨#[45]⟩ W
  have c2 := fun W => Tryz.strings_TrimPrefix s ⟨#[43]⟩ W
  obtain ⟨l, hl⟩ : ∃ l, s.data.toList = l := ⟨_, rfl⟩
  rw [hl] at c1 c2 ⊢
  change ∀ W : World, Calls Tryz.prog 113 #[.string s, .string ⟨#[45]⟩] W fun e w' => e = .returned (.tuple #[.string ⟨(Lib.trimPrefix l [45]).toArray⟩, .bool (Lib.hasPrefix l [45])]) ∧ w' = W at c1
  change ∀ W : World, Calls Tryz.prog 154 #[.string s, .string ⟨#[43]⟩] W fun e w' => e = .returned (.string ⟨(Lib.trimPrefix l [43]).toArray⟩) ∧ w' = W at c2
  unfold Lib.trimPrefix at c1
  rw [pre_one] at c1
  by_cases h1 : l.head? = some 45
  · obtain ⟨t, rfl⟩ : ∃ t, l = 45 :: t := by cases l with | nil => cases h1 | cons x t => exact ⟨t, by rw [Option.some.inj h1]⟩
    have C1 := Lib.hid (show ∀ W : World, Calls Tryz.prog 113 #[.string s, .string ⟨#[45]⟩] W fun e w' => e = .returned (.tuple #[.string ⟨t.toArray⟩, .bool true]) ∧ w' = W from c1)
    have HR := Lib.hid (show sgnL (45 :: t) = (true, t) from rfl)
    clear c1 c2 h1
    go_enter Tryz.func109, Tryz.ntmps109
    go_wp2_with fail
    refine (C1.out _).mono ?_
    rintro e w' ⟨rfl, rfl⟩
    go_wp2_with fail
    go_ret2
    exact ⟨by rw [HR.out]; rfl, rfl⟩
  · have e1 : (l.head? == some 45) = false := by rw [beq_eq_false_iff_ne]; exact h1
    rw [e1] at c1
    have C1 := Lib.hid (show ∀ W : World, Calls Tryz.prog 113 #[.string s, .string ⟨#[45]⟩] W fun e w' => e = .returned (.tuple #[.string ⟨l.toArray⟩, .bool false]) ∧ w' = W from c1)
    have hr : (sgnL l).1 = false ∧ (sgnL l).2 = Lib.trimPrefix l [43] := by
      unfold Lib.trimPrefix
      rw [pre_one]
      unfold sgnL
      split
      · exact absurd rfl h1
      · exact ⟨rfl, rfl⟩
      · rename_i h2 h3
        refine ⟨rfl, ?_⟩
        rw [if_neg]
        intro h
        cases l with
        | nil => cases h
        | cons x t =>
          have : x = 43 := Option.some.inj (eq_of_beq h)
          subst this
          exact h3 t rfl
    have HR := Lib.hid hr
    obtain ⟨r, hre⟩ : ∃ r, Lib.trimPrefix l [43] = r := ⟨_, rfl⟩
    rw [hre] at c2 HR
    have C2 := Lib.hid c2
    clear c1 c2 h1 e1 hr hre
    go_enter Tryz.func109, Tryz.ntmps109
    go_wp2_with fail
    refine (C1.out _).mono ?_
    rintro e w' ⟨rfl, rfl⟩
    go_wp2_with fail
    refine (C2.out _).mono ?_
    rintro e w' ⟨rfl, rfl⟩
    go_wp2_with fail
    go_ret2
    exact ⟨by rw [HR.out.1, HR.out.2]; rfl, rfl⟩
/-- What a digit of base sixteen counts; 16: it is none. -/
def hexV (c : Nat) : Nat := if 48 ≤ c ∧ c ≤ 57 then c - 48 else if 97 ≤ c ∧ c ≤ 102 then c - 87 else if 65 ≤ c ∧ c ≤ 70 then c - 55 else 16
def hexR (c : Nat) : Nat := if hexV c = 16 then 0 else hexV c
end Go.Proofs.YtddfigbpckhfbaaGreatDoor

namespace Go.Proofs.YtddfigbpckhfbaaGreatDoor
open Go.RowKit Go.Lib

theorem nDig_take (l : List UInt8) : l.take (nDig l) = l.takeWhile isD := by
  have h : l.takeWhile isD ++ l.dropWhile isD = l := List.takeWhile_append_dropWhile
  unfold nDig
  conv => lhs; rw [← h]
  rw [List.take_left' ?_]
  rw [h]
theorem nDig_drop (l : List UInt8) : l.drop (nDig l) = l.dropWhile isD := by
  have h : l.takeWhile isD ++ l.dropWhile isD = l := List.takeWhile_append_dropWhile
  unfold nDig
  conv => lhs; rw [← h]
  rw [List.drop_left' ?_]
  rw [h]
theorem dec_takeWhile (l : List UInt8) : Dec (l.takeWhile isD) := fun c hc => isD_iff.1 (List.all_eq_true.1 List.all_takeWhile c hc)
/-- cutDigits, told by lists. -/
theorem cutDigits_l (s : ByteArray) (w : World) (hs : s.size ≤ 4611686018427387904) :
    Calls Tryz.prog 112 #[.string s] w fun e w' => e = .returned (.tuple #[.string ⟨(s.data.toList.takeWhile isD).toArray⟩, .string ⟨(s.data.toList.dropWhile isD).toArray⟩]) ∧ Below w.heap.size w w' := by
  have h := cutDigits_any s w hs
  have e1 : s.extract 0 (nDig s.data.toList) = ⟨(s.data.toList.takeWhile isD).toArray⟩ := by
    apply ByteArray.ext
    apply Array.ext'
    rw [Lib.extract_data, List.drop_zero, Nat.sub_zero, nDig_take]
  have e2 : s.extract (nDig s.data.toList) s.size = ⟨(s.data.toList.dropWhile isD).toArray⟩ := by
    apply ByteArray.ext
    apply Array.ext'
    rw [Lib.extract_data, List.take_of_length_le (by rw [List.length_drop, ba_len]; exact Nat.le_refl _), nDig_drop]
  rwa [e1, e2] at h
/-- The exponent that a text begins with, and what stands behind it. -/
def expL (l : List UInt8) : Int × List UInt8 :=
  match l with
  | [] => (0, [])
  | c :: t =>
    if c = 101 ∨ c = 69 then
      if (sgnL t).2.takeWhile isD = [] then (0, c :: t)
      else (if (sgnL t).1 = true then -(cntZ ((sgnL t).2.takeWhile isD) 1099511627776 : Int) else (cntZ ((sgnL t).2.takeWhile isD) 100000 : Int), (sgnL t).2.dropWhile isD)
    else (0, c :: t)
def ExpEnd (w : World) (l : List UInt8) (e : Ending) (w' : World) : Prop := e = .returned (.tuple #[.int .i64 (expL l).1, .string ⟨(expL l).2.toArray⟩]) ∧ Below w.heap.size w w'
theorem sgnL_len (t : List UInt8) : (sgnL t).2.length ≤ t.length := by
  unfold sgnL
  split <;> simp
theorem ba_of (s : ByteArray) {l : List UInt8} (h : s.data.toList = l) : s = ⟨l.toArray⟩ := by
  rw [← h]
set_option maxRecDepth 100000 in
set_option maxHeartbeats 2000000 in
theorem cutExp_any (s : ByteArray) (w : World) (hs : s.size ≤ 4611686018427387904) :
    Calls Tryz.prog 114 #[.string s] w (ExpEnd w s.data.toList) := by
  obtain ⟨l, hl⟩ : ∃ l, s.data.toList = l := ⟨_, rfl⟩
  have hlen : l.length = s.size := by rw [← hl, ba_len]
  have hsl := ba_of s hl
  rw [hl]
  cases l with
  | nil =>
    have HE := Lib.hid (show expL [] = (0, []) from rfl)
    subst hsl
    clear hl hlen
    go_enter Tryz.func114, Tryz.ntmps114
    go_wp2_with fail
    go_ret2
    exact ⟨by rw [HE.out]; rfl, Below.refl _ _⟩
  | cons c t =>
    have hne : ¬ s.toList = [] := by rw [Lib.toList_data, hl]; simp
    have hemp : s.toList.isEmpty = false := by rw [Lib.toList_data, hl]; rfl
    have hs1 : 0 < s.size := by rw [← hlen]; simp
    have hby : (s[0]'hs1) = c := by
      have h := ba_byte s hl 0 hs1
      exact (Option.some.inj h).symm
    obtain ⟨z, hz⟩ : ∃ z, c.toNat = z := ⟨_, rfl⟩
    have hzi : (((s[0]'hs1).toNat : Nat) : Int) = (z : Int) := by rw [hby, hz]
    have HSL := Lib.hid hsl
    by_cases hc : z = 101 ∨ z = 69
    · have hcc : c = 101 ∨ c = 69 := by
        rcases hc with h | h
        · exact Or.inl (UInt8.toNat_inj.1 (by rw [hz, h]; rfl))
        · exact Or.inr (UInt8.toNat_inj.1 (by rw [hz, h]; rfl))
      have htl : t.length + 1 = s.size := by rw [← hlen]; rfl
      obtain ⟨T, hT⟩ : ∃ T : ByteArray, s.extract 1 s.size = T := ⟨_, rfl⟩
      have hTl : T.data.toList = t := by
        rw [← hT, Lib.extract_data, hl, List.take_of_length_le (by rw [List.length_drop, List.length_cons]; omega)]
        rfl
      have c1 := fun W => cutSign_any T W
      rw [hTl] at c1
      have hsg := sgnL_len t
      have hex : expL (c :: t) = if (sgnL t).2.takeWhile isD = [] then (0, c :: t) else (if (sgnL t).1 = true then -(cntZ ((sgnL t).2.takeWhile isD) 1099511627776 : Int) else (cntZ ((sgnL t).2.takeWhile isD) 100000 : Int), (sgnL t).2.dropWhile isD) := by
        show (if c = 101 ∨ c = 69 then _ else _) = _
        rw [if_pos hcc]
      obtain ⟨b, hb⟩ : ∃ b, (sgnL t).1 = b := ⟨_, rfl⟩
      obtain ⟨r, hr⟩ : ∃ r, (sgnL t).2 = r := ⟨_, rfl⟩
      rw [hb, hr] at c1 hex
      rw [hr] at hsg
      obtain ⟨RB, hRB⟩ : ∃ RB : ByteArray, (⟨r.toArray⟩ : ByteArray) = RB := ⟨_, rfl⟩
      have hRl : RB.data.toList = r := by rw [← hRB]
      have hRs : RB.size ≤ 4611686018427387904 := by rw [← ba_len, hRl]; omega
      rw [hRB] at c1
      have c2 := fun W => cutDigits_l RB W hRs
      rw [hRl] at c2
      have hdd := dec_takeWhile r
      have hdlen : (r.takeWhile isD).length ≤ r.length := (List.takeWhile_prefix isD).length_le
      obtain ⟨dg, hdg⟩ : ∃ dg, r.takeWhile isD = dg := ⟨_, rfl⟩
      rw [hdg] at c2 hex hdd hdlen
      obtain ⟨rs, hrs⟩ : ∃ rs, r.dropWhile isD = rs := ⟨_, rfl⟩
      rw [hrs] at c2 hex
      obtain ⟨DB, hDB⟩ : ∃ DB : ByteArray, (⟨dg.toArray⟩ : ByteArray) = DB := ⟨_, rfl⟩
      have hDl : DB.data.toList = dg := by rw [← hDB]
      have hDs : DB.size ≤ 4611686018427387904 := by rw [← ba_len, hDl]; omega
      rw [hDB] at c2
      obtain ⟨RS, hRS⟩ : ∃ RS : ByteArray, (⟨rs.toArray⟩ : ByteArray) = RS := ⟨_, rfl⟩
      rw [hRS] at c2
      have c3 := fun W => count_any DB 1099511627776 W hDs (by rw [hDl]; exact hdd) (by omega)
      have c4 := fun W => count_any DB 100000 W hDs (by rw [hDl]; exact hdd) (by omega)
      rw [hDl] at c3 c4
      have C1 := Lib.hid c1
      have C2 := Lib.hid c2
      have C3 := Lib.hid c3
      have C4 := Lib.hid c4
      have HEX := Lib.hid hex
      have HRS := Lib.hid hRS
      have hsI : (1 : Int) ≤ (s.size : Int) := by omega
      have hlst : DB.toList = dg := by rw [Lib.toList_data, hDl]
      obtain ⟨v3, hv3⟩ : ∃ v : Nat, cntZ dg 1099511627776 = v := ⟨_, rfl⟩
      have hv3b : v3 ≤ 1099511627776 := by rw [← hv3]; exact Nat.min_le_right _ _
      have HV3 := Lib.hid hv3
      have HDL := Lib.hid hlst
      have hZ : ((z : Int) != 101) = false ∨ (((z : Int) != 101) = true ∧ ((z : Int) != 69) = false) := by
        rcases hc with h | h
        · left; rw [bne_eq_false_iff_eq]; omega
        · right; rw [bne_iff_ne, bne_eq_false_iff_eq]; omega
      by_cases hd0 : dg = []
      · have e1 : DB.toList = [] := by rw [hlst, hd0]
        have e2 : DB.toList.isEmpty = true := by rw [e1]; rfl
        have HE := Lib.hid (show expL (c :: t) = (0, c :: t) by rw [hex, if_pos hd0])
        clear hl hlen hby hz hsl hc hcc hTl c1 c2 c3 c4 hsg hex hb hr hRB hRl hRs hdd hdlen hdg hrs hDB hDl hDs hRS hlst hv3 hd0 e1 htl
        rcases hZ with h1 | ⟨h1, h2⟩
        all_goals
          go_enter Tryz.func114, Tryz.ntmps114
          go_wp2_with fail
          refine (C1.out _).mono ?_
          rintro e w' ⟨rfl, rfl⟩
          go_wp2_with fail
          refine (C2.out _).mono ?_
          rintro e w2 ⟨rfl, hB⟩
          go_wp2_with fail
          go_ret2
          exact ⟨by rw [HE.out, HSL.out]; rfl, hB⟩
      · have e2 : DB.toList.isEmpty = false := by rw [hlst]; cases dg with | nil => exact absurd rfl hd0 | cons x y => rfl
        have e1 : ¬ DB.toList = [] := by rw [hlst]; exact hd0
        rw [if_neg hd0] at hex
        cases b with
        | true =>
          have HE := Lib.hid (show expL (c :: t) = (-(v3 : Int), rs) by rw [hex, if_pos rfl, hv3])
          rw [hv3] at c3
          have C3 := Lib.hid c3
          clear hl hlen hby hz hsl hc hcc hTl c1 c2 c3 c4 hsg hex hb hr hRB hRl hRs hdd hdlen hdg hrs hDB hDl hDs hRS hlst hv3 hd0 htl
          rcases hZ with h1 | ⟨h1, h2⟩
          all_goals
            go_enter Tryz.func114, Tryz.ntmps114
            go_wp2_with fail
            refine (C1.out _).mono ?_
            rintro e w' ⟨rfl, rfl⟩
            go_wp2_with fail
            refine (C2.out _).mono ?_
            rintro e w2 ⟨rfl, hB⟩
            go_wp2_with fail
            refine (C3.out _).mono ?_
            rintro e w' ⟨rfl, rfl⟩
            go_wp2_with fail
            go_ret2
            exact ⟨by rw [HE.out, HRS.out]; rfl, hB⟩
        | false =>
          have HE := Lib.hid (show expL (c :: t) = ((cntZ dg 100000 : Int), rs) by rw [hex, if_neg (by decide)])
          clear hl hlen hby hz hsl hc hcc hTl c1 c2 c3 c4 hsg hex hb hr hRB hRl hRs hdd hdlen hdg hrs hDB hDl hDs hRS hlst hv3 hd0 htl
          rcases hZ with h1 | ⟨h1, h2⟩
          all_goals
            go_enter Tryz.func114, Tryz.ntmps114
            go_wp2_with fail
            refine (C1.out _).mono ?_
            rintro e w' ⟨rfl, rfl⟩
            go_wp2_with fail
            refine (C2.out _).mono ?_
            rintro e w2 ⟨rfl, hB⟩
            go_wp2_with fail
            refine (C4.out _).mono ?_
            rintro e w' ⟨rfl, rfl⟩
            go_wp2_with fail
            go_ret2
            exact ⟨by rw [HE.out, HRS.out]; rfl, hB⟩
    · have HE := Lib.hid (show expL (c :: t) = (0, c :: t) by
        show (if c = 101 ∨ c = 69 then _ else _) = _
        rw [if_neg]
        rintro (h | h)
        · subst h; exact hc (Or.inl hz.symm)
        · subst h; exact hc (Or.inr hz.symm))
      have h1 : ((z : Int) != 101) = true := by rw [bne_iff_ne]; omega
      have h2 : ((z : Int) != 69) = true := by rw [bne_iff_ne]; omega
      clear hl hlen hby hz hsl hc
      go_enter Tryz.func114, Tryz.ntmps114
      go_wp2_with fail
      go_ret2
      exact ⟨by rw [HE.out, HSL.out]; rfl, Below.refl _ _⟩
end Go.Proofs.YtddfigbpckhfbaaGreatDoor
