/- Contracts of the definition of layer 5: Parse. -/
import Derived.Test.YtmceakbjholjpaaGreatDoorPFmtPa
import Derived.Test.YtmceakbjholjpaaGreatDoorQft1
import Derived.Test.YtmceakbjholjpaaGreatDoorQft2
import Derived.Test.YtmceakbjholjpaaGreatDoorQft3
import Derived.Test.YtmceakbjholjpaaGreatDoorQft4
import Derived.Test.YtmceakbjholjpaaGreatDoorQft5
import Derived.Test.YtmceakbjholjpaaGreatDoorQft6
import Derived.Test.YtmceakbjholjpaaGreatDoorQft7
import Derived.Test.YtmceakbjholjpaaGreatDoorQft8
import Derived.Test.YtmceakbjholjpaaGreatDoorQft9
namespace Go.Proofs.YtmceakbjholjpaaGreatDoor
open Go.RowKit Go.Lib

theorem atB_256 (S : ByteArray) (k : Nat) : atB S k < 256 := by
  unfold atB
  split
  · exact UInt8.toNat_lt _
  · omega
/-- The flags' bytes. -/
theorem fl_in {y : Nat} (h : y < 256) : ([45, 43, 32, 35, 48] : List UInt8).contains y.toUInt8 = isFl y := by
  have key : ∀ n : Fin 256, ([45, 43, 32, 35, 48] : List UInt8).contains (UInt8.ofNat n.val) = isFl n.val := by decide +kernel
  exact key ⟨y, h⟩
theorem dg_verb {y : Nat} (h : y < 256) (hd : isDg y = true) : vAll.contains y.toUInt8 = false ∧ y ≠ 46 := by
  have key : ∀ n : Fin 256, isDg n.val = true → vAll.contains (UInt8.ofNat n.val) = false ∧ n.val ≠ 46 := by decide +kernel
  exact key ⟨y, h⟩ hd
theorem run_dg {p : Nat → Bool} {S : ByteArray} : ∀ {f k n : Nat}, n < runP p S k f → p (atB S (k + n)) = true
  | 0, _, _, h => by rw [runP] at h; omega
  | f + 1, k, n, h => by
    rw [runP] at h
    by_cases hp : p (atB S k) = true
    · rw [if_pos hp] at h
      cases n with
      | zero => exact hp
      | succ n =>
        have := run_dg (p := p) (S := S) (f := f) (k := k + 1) (n := n) (by omega)
        rwa [show k + 1 + n = k + (n + 1) by omega] at this
    · rw [if_neg hp] at h
      omega
theorem run_top {p : Nat → Bool} {S : ByteArray} : ∀ {f k : Nat}, runP p S k f ≤ f
  | 0, _ => by rw [runP]; omega
  | f + 1, k => by
    rw [runP]
    have := run_top (p := p) (S := S) (f := f) (k := k + 1)
    split <;> omega
/-- The definition's width or precision, beside the program's. -/
theorem fig_cases (S : ByteArray) {k : Nat} (hk : k ≤ S.size) :
    (figR S k = (0, false, -1) ∧ isDg (atB S (amt S k).2.2) = true ∧ (amt S k).2.1 = false) ∨ (∃ k2 : Nat, figR S k = ((amt S k).1, (amt S k).2.1, (k2 : Int)) ∧ (amt S k).2.2 = k2 ∧ k2 ≤ S.size) := by
  by_cases h42 : atB S k = 42
  · right
    have hlt := atB_size (S := S) (k := k) (by omega)
    refine ⟨k + 1, ?_, ?_, by omega⟩
    · unfold figR amt
      rw [if_pos h42, if_pos h42]
    · unfold amt
      rw [if_pos h42]
  · have hle := run_top (p := isDg) (S := S) (f := S.size - k) (k := k)
    by_cases h5 : 5 < runP isDg S k (S.size - k)
    · left
      have hd : dgN S k = 5 := by unfold dgN; omega
      refine ⟨?_, ?_, ?_⟩
      · unfold figR
        rw [if_neg h42, if_pos h5]
      · unfold amt
        rw [if_neg h42, hd]
        exact run_dg h5
      · unfold amt
        rw [if_neg h42]
    · right
      have hd : dgN S k = runP isDg S k (S.size - k) := by unfold dgN; omega
      refine ⟨k + runP isDg S k (S.size - k), ?_, ?_, by omega⟩
      · unfold figR amt
        rw [if_neg h42, if_neg h5, if_neg h42, hd]
      · unfold amt
        rw [if_neg h42, hd]
/-- The definition's part while its flags are read: no precision yet. -/
def flR (S : ByteArray) (k n : Nat) : Array Value := #[.bool (hasN S k 45 n), .bool (hasN S k 43 n), .bool (hasN S k 32 n), .bool (hasN S k 35 n), .bool (hasN S k 48 n), .int .i64 0, .int .i64 (-1), .int .u8 0, .bool false, .bool false, .int .i64 0]
theorem flR_step {S : ByteArray} {k n x : Nat} (h : atB S (k + n) = x) : flR S k (n + 1) = #[.bool (hasN S k 45 n || x == 45), .bool (hasN S k 43 n || x == 43), .bool (hasN S k 32 n || x == 32), .bool (hasN S k 35 n || x == 35), .bool (hasN S k 48 n || x == 48), .int .i64 0, .int .i64 (-1), .int .u8 0, .bool false, .bool false, .int .i64 0] := by
  unfold flR
  rw [hasN_step h, hasN_step h, hasN_step h, hasN_step h, hasN_step h]
end Go.Proofs.YtmceakbjholjpaaGreatDoor
