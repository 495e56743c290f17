/- The law NatShifts, walked. -/
import Derived.Test.YtflnackpkcldjaaDoorNatShno
import Derived.Test.YtflnackpkcldjaaDoorNatShneg
import Derived.Test.YtflnackpkcldjaaDoorNatShnil
import Derived.Test.YtflnackpkcldjaaDoorNatShlong
import Derived.Test.YtflnackpkcldjaaDoorNatShfine
namespace Go.Proofs.YtflnackpkcldjaaDoor
open Go.RowKit Go.Lib

set_option maxRecDepth 100000 in
set_option maxHeartbeats 1000000 in
theorem natShifts_any (A : Option Addr) (ca : Nat) (xs : List Nat) (k n : Int) (w : World) (hx : Lim B32 xs) (hk : -9223372036854775808 ≤ k ∧ k ≤ 9223372036854775807) (hn : 0 ≤ n ∧ n ≤ 18446744073709551615) (hra : Rd .u32 w A xs) :
    Calls Tryd.prog 6 #[.slice A xs.length ca, .int .i64 k, .int .u64 n] w fun e w' => e = .returned (.bool true) ∧ Below w.heap.size w w' := by
  have CF := Lib.hid (fixed_any w)
  obtain ⟨hk1, hk2⟩ := hk
  by_cases hla : 400 < xs.length
  · go_enter Tryd.func6, Tryd.ntmps6
    go_wp2_with fail
    refine CF.out.mono ?_
    rintro e w0 ⟨rfl, hB⟩
    go_wp2
    go_ret
    exact ⟨rfl, hB⟩
  obtain ⟨lo, hi, hlo, hhi, rfl⟩ : ∃ lo hi : Nat, lo < 4294967296 ∧ hi < 4294967296 ∧ n = (lo : Int) + 4294967296 * (hi : Int) := ⟨(n % 4294967296).toNat, (n / 4294967296).toNat, by omega, by omega, by omega⟩
  have hl4 : xs.length ≤ 400 := by omega
  clear CF hla hn
  by_cases hh : 0 < hi
  · cases hvx : vld xs with
    | false => exact natShifts_no_h A ca xs k lo hi w hx hl4 hk1 hk2 hlo hhi hh hra hvx
    | true =>
      by_cases hk : k < 0
      · exact natShifts_neg_h A ca xs k lo hi w hx hl4 hk1 hk2 hlo hhi hh hra hvx hk
      · by_cases hx0 : xs = []
        · exact natShifts_nil_h A ca xs k lo hi w hx hl4 hk1 hk2 hlo hhi hh hra hvx hk hx0
        · by_cases hl : 8192 - (bitsN xs : Int) < k
          · exact natShifts_long_h A ca xs k lo hi w hx hl4 hk1 hk2 hlo hhi hh hra hvx hk hx0 hl
          · exact natShifts_fine_h A ca xs k lo hi w hx hl4 hk1 hk2 hlo hhi hh hra hvx hk hx0 hl
  · have hh : hi = 0 := by omega
    by_cases hm : 0 < lo
    · cases hvx : vld xs with
      | false => exact natShifts_no_l A ca xs k lo hi w hx hl4 hk1 hk2 hlo hhi hm hh hra hvx
      | true =>
        by_cases hk : k < 0
        · exact natShifts_neg_l A ca xs k lo hi w hx hl4 hk1 hk2 hlo hhi hm hh hra hvx hk
        · by_cases hx0 : xs = []
          · exact natShifts_nil_l A ca xs k lo hi w hx hl4 hk1 hk2 hlo hhi hm hh hra hvx hk hx0
          · by_cases hl : 8192 - (bitsN xs : Int) < k
            · exact natShifts_long_l A ca xs k lo hi w hx hl4 hk1 hk2 hlo hhi hm hh hra hvx hk hx0 hl
            · exact natShifts_fine_l A ca xs k lo hi w hx hl4 hk1 hk2 hlo hhi hm hh hra hvx hk hx0 hl
    · have hm : lo = 0 := by omega
      cases hvx : vld xs with
      | false => exact natShifts_no_z A ca xs k lo hi w hx hl4 hk1 hk2 hlo hhi hm hh hra hvx
      | true =>
        by_cases hk : k < 0
        · exact natShifts_neg_z A ca xs k lo hi w hx hl4 hk1 hk2 hlo hhi hm hh hra hvx hk
        · by_cases hx0 : xs = []
          · exact natShifts_nil_z A ca xs k lo hi w hx hl4 hk1 hk2 hlo hhi hm hh hra hvx hk hx0
          · by_cases hl : 8192 - (bitsN xs : Int) < k
            · exact natShifts_long_z A ca xs k lo hi w hx hl4 hk1 hk2 hlo hhi hm hh hra hvx hk hx0 hl
            · exact natShifts_fine_z A ca xs k lo hi w hx hl4 hk1 hk2 hlo hhi hm hh hra hvx hk hx0 hl
end Go.Proofs.YtflnackpkcldjaaDoor
