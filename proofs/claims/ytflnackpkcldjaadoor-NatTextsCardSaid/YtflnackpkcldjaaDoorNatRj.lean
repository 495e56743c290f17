/- What the laws NatSums and NatTexts share. -/
import Derived.Test.YtflnackpkcldjaaDoorNatRg
namespace Go.Proofs.YtflnackpkcldjaaDoor
open Go.RowKit Go.Lib

/-- An answer, or a refusal. -/
def resF (f : Bool) (n : Nat) : List Nat × Int := if f = true then natRes n else ([], 30)
theorem res2_resF {xs ys : List Nat} {n : Nat} {f : Bool} (h : (vld xs && vld ys) = f) : res2 xs ys n = resF f n := by
  subst h
  rw [res2, resF]
  by_cases h1 : vld xs = true <;> by_cases h2 : vld ys = true <;> simp [h1, h2]
theorem dig4_sum {a b k : Nat} (ha : (dig D4 a).length ≤ k) (hb : (dig D4 b).length ≤ k) : (dig D4 (a + b)).length ≤ k + 1 := by
  rw [dig_len_le (by decide)] at ha hb ⊢
  rw [Nat.pow_succ]
  have : D4 ^ k * 2 ≤ D4 ^ k * D4 := Nat.mul_le_mul_left _ (by decide)
  omega
theorem dig4_prod {a b k j : Nat} (ha : (dig D4 a).length ≤ k) (hb : (dig D4 b).length ≤ j) : (dig D4 (a * b)).length ≤ k + j := by
  rw [dig_len_le (by decide)] at ha hb ⊢
  rw [Nat.pow_add]
  exact Nat.mul_lt_mul'' ha hb
set_option maxRecDepth 100000 in
set_option maxHeartbeats 1000000 in
theorem ans_any (A A' : Option Addr) (ca cb n : Nat) (f : Bool) (x : List Nat × Int) (zs : List Nat) (w : World) (hX : resF f n = x) (hz : f = true → zs = dig D4 n) (hl : f = true → (dig D4 n).length ≤ 1000000) (hra : Rd .u32 w A x.1) (hrb : Rd .i64 w A' zs) :
    Calls Tryd.prog 16 #[.slice A x.1.length ca, .int .i64 x.2, .slice A' zs.length cb, .bool f] w fun e w' => e = .returned (.bool true) ∧ Below w.heap.size w w' := by
  subst hX
  cases f with
  | true =>
    have e : zs = dig D4 n := hz rfl
    subst e
    have er : resF true n = natRes n := by rw [resF, if_pos rfl]
    rw [er] at hra ⊢
    exact ans_fine A A' ca cb n w (hl rfl) hra hrb
  | false =>
    refine (ans_no A A' ca zs.length cb w).mono ?_
    rintro e w' ⟨rfl, rfl⟩
    exact ⟨rfl, Below.refl _ _⟩
end Go.Proofs.YtflnackpkcldjaaDoor
