/- Contracts of the smallest functions of layer 1: which codes are capitals, and their letters' partners. -/
import Derived.Test.YtaemijgfngdjlaaDoorRows
import Derived.WalkKit
import Derived.WalkSpells
import Derived.WalkLawsBesides
import Derived.Lib.Hide
namespace Go.Proofs.YtaemijgfngdjlaaDoor
open Go.RowKit

/-- Is it a capital's code? -/
def capZ (c : Int) (b : Bool) : Bool := decide (65 ≤ c ∧ c ≤ 90) || (!b && decide (192 ≤ c ∧ c ≤ 222 ∧ c ≠ 215))
/-- Is it a small letter's code? -/
def smallZ (c : Int) (b : Bool) : Bool := decide (97 ≤ c ∧ c ≤ 122) || (!b && decide (224 ≤ c ∧ c ≤ 254 ∧ c ≠ 247))
def foldZ (c : Int) (b : Bool) : Int := if capZ c b then c + 32 else c
def raiseZ (c : Int) (b : Bool) : Int := if smallZ c b then c - 32 else c

set_option maxHeartbeats 400000 in
theorem capital_any (c : Int) (b : Bool) (w : World) :
    Calls Tryd.prog 44 #[.int .i64 c, .bool b] w fun e w' => e = .returned (.bool (capZ c b)) ∧ w = w' := by
  cases b <;> by_cases h1 : 65 ≤ c <;> by_cases h2 : c ≤ 90 <;> by_cases h3 : 192 ≤ c <;> by_cases h4 : c ≤ 222 <;> by_cases h5 : c = 215 <;> first | (exfalso; omega) | skip
  all_goals
    go_enter Tryd.func44, Tryd.ntmps44
    go_wp2
    go_ret
    exact ⟨by simp [capZ, *], rfl⟩

set_option maxHeartbeats 400000 in
theorem fold_any (c : Int) (b : Bool) (w : World) :
    Calls Tryd.prog 29 #[.int .i64 c, .bool b] w fun e w' => e = .returned (.int .i64 (foldZ c b)) ∧ w = w' := by
  by_cases h : capZ c b = true
  · have hc : c ≤ 222 := by simp [capZ] at h; omega
    have hc0 : 65 ≤ c := by simp [capZ] at h; omega
    go_enter Tryd.func29, Tryd.ntmps29
    go_wp2_with (go_at_call 44; refine (capital_any _ _ _).mono ?_; rintro e w' ⟨rfl, rfl⟩)
    go_ret
    exact ⟨by simp [foldZ, h], rfl⟩
  · have h' : capZ c b = false := by simpa using h
    clear h
    go_enter Tryd.func29, Tryd.ntmps29
    go_wp2_with (go_at_call 44; refine (capital_any _ _ _).mono ?_; rintro e w' ⟨rfl, rfl⟩)
    go_ret
    exact ⟨by simp [foldZ, h'], rfl⟩

theorem small_cap (c : Int) (b : Bool) : capZ (c - 32) b = smallZ c b := by
  unfold capZ smallZ
  congr 1
  · rw [decide_eq_decide]; omega
  · congr 1; rw [decide_eq_decide]; omega

/-- 'raise' takes 32 away before it asks: of the 32 least numbers that passes the least one. -/
theorem small_wrap (c : Int) (b : Bool) (hc : -9223372036854775808 ≤ c ∧ c ≤ 9223372036854775807) : capZ (IntKind.i64.wrap (c - 32)) b = smallZ c b := by
  by_cases h : -9223372036854775808 ≤ c - 32
  · rw [IntWalk.i64_in _ (by omega)]; exact small_cap c b
  · have e : IntKind.i64.wrap (c - 32) = c - 32 + 18446744073709551616 := by
      simp only [IntKind.wrap_i64]; omega
    rw [e]
    have : smallZ c b = false := by simp [smallZ]; omega
    rw [this]
    simp [capZ]; omega

set_option maxHeartbeats 400000 in
theorem raise_any (c : Int) (b : Bool) (w : World) (hc : -9223372036854775808 ≤ c ∧ c ≤ 9223372036854775807) :
    Calls Tryd.prog 43 #[.int .i64 c, .bool b] w fun e w' => e = .returned (.int .i64 (raiseZ c b)) ∧ w = w' := by
  have hw := small_wrap c b hc
  by_cases h : smallZ c b = true
  · have hc0 : 97 ≤ c ∧ c ≤ 254 := by simp [smallZ] at h; omega
    have h2 : capZ (c - 32) b = true := by rw [small_cap]; exact h
    clear hw
    go_enter Tryd.func43, Tryd.ntmps43
    go_wp2_with (go_at_call 44; refine (capital_any _ _ _).mono ?_; rintro e w' ⟨rfl, rfl⟩)
    go_ret
    exact ⟨by simp [raiseZ, h], rfl⟩
  · have h' : smallZ c b = false := by simpa using h
    have h2 : capZ (wrap64 (c - 32)) b = false := by rw [← hw, IntKind.wrap_i64] at h'; unfold wrap64; exact h'
    have h3 : capZ (c - 32) b = false := by rw [small_cap]; exact h'
    clear hw h
    go_enter Tryd.func43, Tryd.ntmps43
    go_wp2_with (go_at_call 44; refine (capital_any _ _ _).mono ?_; rintro e w' ⟨rfl, rfl⟩)
    go_ret
    exact ⟨by simp [raiseZ, h'], rfl⟩

set_option maxHeartbeats 400000 in
theorem refFold_any (c : Int) (b : Bool) (w : World) :
    Calls Tryd.prog 30 #[.int .i64 c, .bool b] w fun e w' => e = .returned (.int .i64 (foldZ c b)) ∧ w = w' := by
  cases b <;> by_cases h1 : 65 ≤ c <;> by_cases h2 : c ≤ 90 <;> by_cases h3 : 192 ≤ c <;> by_cases h4 : c ≤ 222 <;> by_cases h5 : c = 215 <;> first | (exfalso; omega) | skip
  all_goals
    go_enter Tryd.func30, Tryd.ntmps30
    go_wp2
    go_ret
    exact ⟨by simp [foldZ, capZ, *] <;> omega, rfl⟩

set_option maxHeartbeats 400000 in
theorem refCapital_any (c : Int) (b : Bool) (w : World) :
    Calls Tryd.prog 42 #[.int .i64 c, .bool b] w fun e w' => e = .returned (.int .i64 (raiseZ c b)) ∧ w = w' := by
  cases b <;> by_cases h1 : 97 ≤ c <;> by_cases h2 : c ≤ 122 <;> by_cases h3 : 224 ≤ c <;> by_cases h4 : c ≤ 254 <;> by_cases h5 : c = 247 <;> first | (exfalso; omega) | skip
  all_goals
    go_enter Tryd.func42, Tryd.ntmps42
    go_wp2
    go_ret
    exact ⟨by simp [raiseZ, smallZ, *] <;> omega, rfl⟩
end Go.Proofs.YtaemijgfngdjlaaDoor
