/- The law NatSums, walked. -/
import Derived.Test.YtflnackpkcldjaaDoorNatSa
import Derived.Test.YtflnackpkcldjaaDoorNatSb
import Derived.Test.YtflnackpkcldjaaDoorNatSc
namespace Go.Proofs.YtflnackpkcldjaaDoor
open Go.RowKit Go.Lib

set_option maxRecDepth 100000 in
set_option maxHeartbeats 1000000 in
theorem natSums_any (A A' : Option Addr) (ca cb : Nat) (xs ys : List Nat) (w : World) (hx : Lim B32 xs) (hy : Lim B32 ys) (hA : A = none → ca = 0) (hra : Rd .u32 w A xs) (hrb : Rd .u32 w A' ys) :
    Calls Tryd.prog 3 #[.slice A xs.length ca, .slice A' ys.length cb] w fun e w' => e = .returned (.bool true) ∧ Below w.heap.size w w' := by
  have CF := Lib.hid (fixed_any w)
  by_cases hla : 400 < xs.length
  · go_enter Tryd.func3, Tryd.ntmps3
    go_wp2_with fail
    refine CF.out.mono ?_
    rintro e w0 ⟨rfl, hB⟩
    go_wp2
    go_ret
    exact ⟨rfl, hB⟩
  by_cases hlb : 400 < ys.length
  · go_enter Tryd.func3, Tryd.ntmps3
    go_wp2_with fail
    refine CF.out.mono ?_
    rintro e w0 ⟨rfl, hB⟩
    go_wp2
    go_ret
    exact ⟨rfl, hB⟩
  cases hvx : vld xs with
  | false => exact natSums_nx A A' ca cb xs ys w hx hy (by omega) (by omega) hA hra hrb hvx
  | true =>
    cases hvy : vld ys with
    | false => exact natSums_ny A A' ca cb xs ys w hx hy (by omega) (by omega) hA hra hrb hvx hvy
    | true =>
      by_cases hlt : vl B32 xs < vl B32 ys
      · exact natSums_lt A A' ca cb xs ys w hx hy (by omega) (by omega) hA hra hrb hvx hvy hlt
      · exact natSums_ge A A' ca cb xs ys w hx hy (by omega) (by omega) hA hra hrb hvx hvy hlt
end Go.Proofs.YtflnackpkcldjaaDoor
