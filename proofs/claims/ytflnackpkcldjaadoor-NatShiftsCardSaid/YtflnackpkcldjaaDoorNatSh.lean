/- What the law NatShifts wants to know. -/
import Derived.Test.YtflnackpkcldjaaDoorNatRj
namespace Go.Proofs.YtflnackpkcldjaaDoor
open Go.RowKit Go.Lib

theorem ws_z {lo hi : Nat} (_ : lo < 4294967296) (_ : hi < 4294967296) (hlo : lo = 0) (hhi : hi = 0) : dig B32 (lo + 4294967296 * hi) = [] := by subst hlo hhi; rfl
theorem ws_l {lo hi : Nat} (h1 : lo < 4294967296) (_ : hi < 4294967296) (hlo : 0 < lo) (hhi : hi = 0) : dig B32 (lo + 4294967296 * hi) = [lo] :=
  dig_eq (by decide) ⟨lim_one.2 h1, (top_snoc (l := [])).2 (by omega)⟩ (by simp [vl]; omega)
theorem ws_h {lo hi : Nat} (h1 : lo < 4294967296) (h2 : hi < 4294967296) (hhi : 0 < hi) : dig B32 (lo + 4294967296 * hi) = [lo, hi] :=
  dig_eq (by decide) ⟨lim_cons.2 ⟨h1, lim_one.2 h2⟩, (top_snoc (l := [lo])).2 (by omega)⟩ (by simp [vl])
theorem word_room {lo hi : Nat} (h1 : lo < 4294967296) (h2 : hi < 4294967296) : lo + 4294967296 * hi < B32 ^ 256 := by
  have h : B32 ^ 2 ≤ B32 ^ 256 := Nat.pow_le_pow_right (by decide) (by omega)
  have h3 : lo + 4294967296 * hi < B32 ^ 2 := by show _ < 18446744073709551616; omega
  omega
theorem top_bits {xs : List Nat} (hx : Lim B32 xs) (h0 : ¬ xs = []) (ht : Top xs) : ∃ y b : Nat, y < 4294967296 ∧ 1 ≤ b ∧ b ≤ 32 ∧ bitsN xs = (xs.length - 1) * 32 + b ∧ y / 2 ^ b = 0 ∧ y / 2 ^ (b - 1) = 1 ∧ ∃ hl : 1 ≤ xs.length, xs[xs.length - 1]'(by omega) = y := by
  have hl : 1 ≤ xs.length := List.length_pos_iff.2 h0
  obtain ⟨y, hye, hyk⟩ := lim32 hx (xs.length - 1) (by omega)
  have hy0 : y ≠ 0 := by rw [← hye]; exact (top_get (by omega)).1 ht
  have e : Lib.bitLen y = Lib.bitLenAux 32 y := Lib.bitLenAux_fuel 32 y hyk 64 (by omega)
  obtain ⟨a, b, c, d⟩ := bitLenAux_bounds 32 y hyk hy0
  rw [← e] at a b c d
  refine ⟨y, Lib.bitLen y, hyk, a, b, by rw [bitsN, if_neg h0, getD_of (by omega), hye], Nat.div_eq_of_lt d, ?_, hl, hye⟩
  refine Nat.div_eq_of_lt_le (by omega) ?_
  have : 2 ^ Lib.bitLen y = 2 * 2 ^ (Lib.bitLen y - 1) := by rw [← Nat.pow_succ', show (Lib.bitLen y - 1).succ = Lib.bitLen y by omega]
  show y < (1 + 1) * _
  omega
/-- A number is less than two to the number of its binary digits. -/
theorem bitsN_room {xs : List Nat} (hx : Lim B32 xs) (h0 : ¬ xs = []) (hl : xs.length ≤ 256) : vl B32 xs < 2 ^ bitsN xs ∧ bitsN xs ≤ 8192 := by
  have hlp : 1 ≤ xs.length := List.length_pos_iff.2 h0
  obtain ⟨l, y, rfl⟩ := snoc_of_ne h0
  have hll := lim_append.1 hx
  have hy : y < 4294967296 := lim_one.1 hll.2
  have e : Lib.bitLen y = Lib.bitLenAux 32 y := Lib.bitLenAux_fuel 32 y hy 64 (by omega)
  have hb : y < 2 ^ Lib.bitLen y ∧ Lib.bitLen y ≤ 32 := by
    by_cases hy0 : y = 0
    · subst hy0; decide
    · obtain ⟨a, b, c, d⟩ := bitLenAux_bounds 32 y hy hy0
      rw [← e] at b d
      exact ⟨d, b⟩
  have eb : bitsN (l ++ [y]) = 32 * l.length + Lib.bitLen y := by
    rw [bitsN, if_neg h0, List.length_append, List.length_singleton, Nat.add_sub_cancel, List.getD_eq_getElem?_getD, List.getElem?_append_right (Nat.le_refl _), Nat.sub_self]
    show l.length * 32 + Lib.bitLen y = _
    omega
  rw [eb]
  rw [List.length_append, List.length_singleton] at hl
  refine ⟨?_, by omega⟩
  rw [vl_snoc, Nat.pow_add, Nat.pow_mul]
  have h1 := vl_lt hll.1
  have h2 : B32 ^ l.length * (y + 1) ≤ B32 ^ l.length * 2 ^ Lib.bitLen y := Nat.mul_le_mul_left _ hb.1
  rw [Nat.mul_add] at h2
  show _ < (2 ^ 32) ^ l.length * _
  have h3 : (2 ^ 32) ^ l.length = B32 ^ l.length := rfl
  rw [h3]
  omega
theorem shl_room' {xs : List Nat} {K k : Nat} (hk : k = 8192) (h : vl B32 xs < 2 ^ bitsN xs) (hK : K + bitsN xs ≤ k) : vl B32 xs * 2 ^ K < B32 ^ 256 := by
  rw [← two_room (a := 32) (b := 256) (m := B32) hk (by decide)]
  have h1 : vl B32 xs * 2 ^ K < 2 ^ bitsN xs * 2 ^ K := Nat.mul_lt_mul_of_pos_right h (Nat.pow_pos (by omega))
  rw [← Nat.pow_add] at h1
  exact Nat.lt_of_lt_of_le h1 (Nat.pow_le_pow_right (by omega) (by omega))
theorem shl_room {xs : List Nat} {K : Nat} (h : vl B32 xs < 2 ^ bitsN xs ∧ bitsN xs ≤ 8192) (hK : K + bitsN xs ≤ 8192) : vl B32 xs * 2 ^ K < B32 ^ 256 := shl_room' (k := 8192) rfl h.1 hK
end Go.Proofs.YtflnackpkcldjaaDoor
