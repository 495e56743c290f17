/- Contracts of layer 2: trim, fresh, mulAdd. -/
import Derived.Test.YtflnackpkcldjaaDoorNatO
namespace Go.Proofs.YtflnackpkcldjaaDoor
open Go.RowKit Go.Lib

set_option maxRecDepth 100000 in
set_option maxHeartbeats 1000000 in
theorem trim_any (A : Option Addr) (cap : Nat) (xs : List Nat) (w : World) (hx : Lim B32 xs) (hxn : xs.length ≤ 100000) (hcap : xs.length ≤ cap) (hcm : cap ≤ maxLen) (hr : Rd .u32 w A xs) :
    Calls Tryd.prog 38 #[.slice A xs.length cap] w fun e w' => (∃ m : Nat, m ≤ xs.length ∧ dig B32 (vl B32 xs) = xs.take m ∧ e = .returned (.slice A m cap)) ∧ w = w' := by
  unfold maxLen at hcm
  go_enter Tryd.func38, Tryd.ntmps38
  go_wp2
  go_loop [3] (fun i => ∃ k : Nat, k ≤ xs.length ∧ i = .int .i64 k ∧ ∀ j (_ : k ≤ j) (hj : j < xs.length), xs[j] = 0) (fun i => (RowKit.intOf i).toNat)
  case atStart => exact ⟨xs.length, Nat.le_refl _, rfl, fun j _ _ => by omega⟩
  case round =>
    obtain ⟨k, hk, rfl, h0⟩ := hrel
    have H0 := Lib.hid h0; clear h0
    by_cases hz : k = 0
    · subst hz
      go_wp2
      go_ret
      exact ⟨⟨0, Nat.zero_le _, (trim_take (by decide) hx (Nat.zero_le _) H0.out (.inl rfl)).1, rfl⟩, rfl⟩
    · obtain ⟨g, o, rfl, hc⟩ := hr (k - 1) (by omega)
      obtain ⟨x, hxe, hxk⟩ := lim32 hx (k - 1) (by omega)
      rw [hxe] at hc
      have HX := Lib.hid hxe; clear hxe
      by_cases hx0 : x = 0
      · subst hx0
        go_wp2
        go_round
        case rel => exact ⟨k - 1, by omega, by go_num, fun j h1 h2 => by
          by_cases e : j = k - 1
          · subst e; exact HX.out
          · exact H0.out j (by omega) h2⟩
        case measure => simp [RowKit.intOf]; omega
      · go_wp2
        go_ret
        exact ⟨⟨k, hk, (trim_take (by decide) hx hk H0.out (.inr ⟨by omega, by rw [HX.out]; exact hx0⟩)).1, rfl⟩, rfl⟩
end Go.Proofs.YtflnackpkcldjaaDoor
