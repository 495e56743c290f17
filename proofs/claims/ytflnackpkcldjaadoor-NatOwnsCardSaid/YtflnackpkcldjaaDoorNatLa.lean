/- What the laws of layer 2 call: the definition's Valid, same. -/
import Derived.Test.YtflnackpkcldjaaDoorNatZ
namespace Go.Proofs.YtflnackpkcldjaaDoor
open Go.RowKit Go.Lib

set_option maxRecDepth 100000 in
set_option maxHeartbeats 1000000 in
theorem refValid_any (A : Option Addr) (ca : Nat) (xs : List Nat) (w : World) (hxn : xs.length ≤ 140737488351232) (hx : Lim B32 xs) (hr : Rd .u32 w A xs) :
    Calls Tryd.prog 11 #[.slice A xs.length ca] w fun e w' => e = .returned (.bool (vld xs)) ∧ w = w' := by
  by_cases h1 : xs.length ≤ 256
  · by_cases h0 : xs.length = 0
    · have hv : vld xs = true := by
        have : xs = [] := List.eq_nil_of_length_eq_zero h0
        subst this
        exact vld_iff.2 ⟨Nat.zero_le _, top_nil⟩
      rw [hv]
      have hb : ((xs.length : Int) == 0) = true := by simp [h0]
      have H0 := Lib.hid h0; clear h0
      go_enter Tryd.func11, Tryd.ntmps11
      go_wp2
      go_ret
      exact ⟨rfl, rfl⟩
    · have hb : ((xs.length : Int) == 0) = false := by rw [beq_eq_false_iff_ne]; omega
      obtain ⟨g, o, rfl, hc⟩ := hr (xs.length - 1) (by omega)
      obtain ⟨x, hxe, hxk⟩ := lim32 hx (xs.length - 1) (by omega)
      rw [hxe] at hc
      have hv : vld xs = (x != 0) := by
        have ht := top_get (xs := xs) (by omega)
        rw [hxe] at ht
        by_cases hx0 : x = 0
        · rw [vld_no.2 (fun h => absurd hx0 (ht.1 h.2))]; simp [hx0]
        · rw [vld_iff.2 ⟨h1, ht.2 hx0⟩]; simp [hx0]
      rw [hv]
      clear hxe hv
      by_cases hx0 : x = 0
      · subst hx0
        go_enter Tryd.func11, Tryd.ntmps11
        go_wp2
        go_ret
        exact ⟨rfl, rfl⟩
      · have e1 : (x != 0) = true := by simp [hx0]
        have e2 : ((x : Int) != 0) = true := by simp; omega
        rw [e1]
        go_enter Tryd.func11, Tryd.ntmps11
        go_wp2
        go_ret
        exact ⟨rfl, rfl⟩
  · rw [vld_no.2 (fun h => h1 h.1)]
    go_enter Tryd.func11, Tryd.ntmps11
    go_wp2
    go_ret
    exact ⟨rfl, rfl⟩

set_option maxRecDepth 100000 in
set_option maxHeartbeats 1000000 in
theorem same_yes (A A' : Option Addr) (ca cb : Nat) (xs : List Nat) (w : World) (hxn : xs.length ≤ 140737488351232) (hra : Rd .u32 w A xs) (hrb : Rd .u32 w A' xs) :
    Calls Tryd.prog 31 #[.slice A xs.length ca, .slice A' xs.length cb] w fun e w' => e = .returned (.bool true) ∧ ∃ n, w' = w.drewN n := by
  have hnb : ((xs.length : Int) != (xs.length : Int)) = false := by simp
  go_enter Tryd.func31, Tryd.ntmps31
  go_wp2
  go_loopw [13] (fun i wr => ∃ k n : Nat, k ≤ xs.length ∧ i = .int .i64 k ∧ wr = w.drewN n) (fun i _ => xs.length - (RowKit.intOf i).toNat)
  case atStart => exact ⟨0, 0, Nat.zero_le _, rfl, rfl⟩
  case round =>
    obtain ⟨k, n, hk, rfl, rfl⟩ := hrel
    by_cases hlt : k < xs.length
    · obtain ⟨g, o, rfl, hc⟩ := hra k hlt
      obtain ⟨g', o', rfl, hc'⟩ := hrb k hlt
      obtain ⟨x, hxe⟩ : ∃ x, xs[k] = x := ⟨_, rfl⟩
      rw [hxe] at hc hc'
      have hq : ((x : Int) != (x : Int)) = false := by simp
      clear hxe
      go_wp2
      go_quiet (fail)
      go_wp2
      go_roundw
      case rel => exact ⟨k + 1, _, hlt, by go_num, rfl⟩
      case measure => simp [RowKit.intOf]; omega
    · go_wp2
      go_ret
      exact ⟨rfl, n, rfl⟩

theorem Own.slice_ {κ : IntKind} {w : World} {B : Nat} {t : TypeId} {v : Value} {xs : List Nat} (h : Own κ w B t v xs) : ∃ A cap, v = .slice A xs.length cap ∧ (A = none → cap = 0) := by
  rcases h.forms with ⟨rfl, rfl⟩ | ⟨g, cap, rfl, _, _, _⟩
  · exact ⟨none, 0, rfl, fun _ => rfl⟩
  · exact ⟨_, cap, rfl, fun e => by cases e⟩
theorem len_dig {n : Nat} (h : n < B32 ^ 256) : (dig B32 n).length ≤ 256 := (dig_len_le (by decide) n 256).2 h
theorem vld_dig {n : Nat} (h : n < B32 ^ 256) : vld (dig B32 n) = true := vld_iff.2 ⟨len_dig h, (dig_norm (by decide) n).2⟩
theorem res2_ok {xs ys : List Nat} {n : Nat} (hx : vld xs = true) (hy : vld ys = true) (h : n < B32 ^ 256) : res2 xs ys n = (dig B32 n, 0) := by
  rw [res2, if_pos ⟨hx, hy⟩, natRes, if_pos (len_dig h)]
theorem lim_dig (n : Nat) : Lim B32 (dig B32 n) := (dig_norm (by decide) n).1
/-- The bounds of all numbers of the law. -/
theorem law_bounds {a b c K M : Nat} (hM : 4 * (K * K) ≤ M) (ha : a < K) (hb : b < K) (hc : c < K) : a + b < M ∧ a * b < M ∧ (a + b) * c < M ∧ a * c < M ∧ b * c < M ∧ a * c + b * c < M ∧ a + a < M ∧ a < M := by
  have h1 : a * b ≤ K * K := Nat.mul_le_mul (by omega) (by omega)
  have h2 : (a + b) * c ≤ (2 * K) * K := Nat.mul_le_mul (by omega) (by omega)
  rw [Nat.mul_assoc] at h2
  have h3 : a * c ≤ K * K := Nat.mul_le_mul (by omega) (by omega)
  have h4 : b * c ≤ K * K := Nat.mul_le_mul (by omega) (by omega)
  have h5 : K * 1 ≤ K * K := Nat.mul_le_mul_left _ (by omega)
  refine ⟨?_, ?_, ?_, ?_, ?_, ?_, ?_, ?_⟩ <;> omega
theorem pow_room' {B : Nat} (hB : 4 ≤ B) : 4 * (B ^ 100 * B ^ 100) ≤ B ^ 256 := by
  have h1 : B ^ 256 = B ^ 56 * (B ^ 100 * B ^ 100) := by rw [← Nat.pow_add, ← Nat.pow_add]
  rw [h1]
  refine Nat.mul_le_mul_right _ ?_
  have : B ^ 1 ≤ B ^ 56 := Nat.pow_le_pow_right (by omega) (by omega)
  rw [Nat.pow_one] at this
  omega
theorem pow_room : 4 * (B32 ^ 100 * B32 ^ 100) ≤ B32 ^ 256 := pow_room' (by decide)
end Go.Proofs.YtflnackpkcldjaaDoor
