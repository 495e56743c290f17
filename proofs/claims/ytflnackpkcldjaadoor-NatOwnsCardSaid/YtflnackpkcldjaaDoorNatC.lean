/- Contracts of layer 2: mulAdd's loop, takeFrom, divLimb. -/
import Derived.Test.YtflnackpkcldjaaDoorNatB
namespace Go.Proofs.YtflnackpkcldjaaDoor
open Go.RowKit Go.Lib

/-- A product of two limbs, and what is carried, fits. -/
theorem prod_fits {x t c : Nat} (hx : x < 4294967296) (ht : t < 4294967296) (hc : c < 4294967296) : (x : Int) * (t : Int) + (c : Int) ≤ 18446744073709551615 ∧ 0 ≤ (x : Int) * (t : Int) ∧ ((x : Int) * (t : Int) = ((x * t : Nat) : Int)) := by
  have h : x * t ≤ 4294967295 * 4294967295 := Nat.mul_le_mul (by omega) (by omega)
  refine ⟨?_, ?_, by simp⟩
  · rw [← Int.natCast_mul]; omega
  · rw [← Int.natCast_mul]; omega

/-- A difference that wraps round. -/
theorem sub2_lt {a b r : Int} (h1 : 0 ≤ a ∧ a < 4294967296) (h3 : 0 ≤ b ∧ b < 4294967296) (hr : 0 ≤ r ∧ r ≤ 1) (h : a < b + r) : IntKind.u64.wrap (IntKind.u64.wrap (a - b) - r) = a - b - r + 18446744073709551616 := by
  rw [IntKind.wrap_u64, IntKind.wrap_u64]; omega
theorem sub2_hi {a b r : Int} (h1 : 0 ≤ a ∧ a < 4294967296) (h3 : 0 ≤ b ∧ b < 4294967296) (hr : 0 ≤ r ∧ r ≤ 1) (h : a < b + r) : IntKind.u64.wrap (IntKind.u64.wrap (a - b) - r) / 9223372036854775808 = 1 := by
  rw [sub2_lt h1 h3 hr h]; omega
theorem sub2_lo {a b r : Int} (h1 : 0 ≤ a ∧ a < 4294967296) (h3 : 0 ≤ b ∧ b < 4294967296) (hr : 0 ≤ r ∧ r ≤ 1) (h : a < b + r) : IntKind.u64.wrap (IntKind.u64.wrap (a - b) - r) % 4294967296 = a + 4294967296 - b - r := by
  rw [sub2_lt h1 h3 hr h]; omega

set_option maxRecDepth 100000 in
set_option maxHeartbeats 1000000 in
theorem takeFrom_any (g o cap cb tm : Nat) (A : Option Addr) (t : TypeId) (L R : List Value) (xs bs : List Nat) (w : World) (hA : At .u32 w g t L xs R) (ho : L.length = o) (hx : Lim B32 xs) (hb : Lim B32 bs) (hxn : xs.length ≤ 100000) (hbn : bs.length ≤ xs.length)
    (htm : tm < 4294967296) (hr : Rd .u32 w A bs) (hoff : bs ≠ [] → Off A g) :
    Calls Tryd.prog 37 #[.slice (some ⟨g, o, none⟩) xs.length cap, .slice A bs.length cb, .int .u32 tm] w fun e w' => (∃ cur m r, At .u32 w' g t L cur R ∧ TakeR B32 tm xs bs cur xs.length m r ∧ e = .returned (.bool (decide (r = 1)))) ∧ w.grownBy w' (some g) := by
  go_enter Tryd.func37, Tryd.ntmps37
  go_wp2
  go_loopw [7, 8, 13] (fun c q i wr => ∃ (k m r : Nat) (cur : List Nat), k ≤ xs.length ∧ i = .int .i64 k ∧ c = .int .u64 m ∧ q = .int .u64 r ∧ At .u32 wr g t L cur R ∧ TakeR B32 tm xs bs cur k m r ∧ w.grownBy wr (some g)) (fun _ _ i _ => xs.length - (RowKit.intOf i).toNat)
  case atStart => exact ⟨0, 0, 0, xs, Nat.zero_le _, rfl, rfl, rfl, hA, takeR_start hx, grown_refl _ _⟩
  case round =>
    obtain ⟨k, m, r, cur, hk, rfl, rfl, rfl, hAt, hR, hG⟩ := hrel
    have hr1 : r ≤ 1 := hR.2.2.1
    have hm1 : m < 4294967296 := by have := hR.2.2.2.1; omega
    by_cases hlt : k < xs.length
    · have hcl := hAt.cell ho k (by rw [hR.1.len]; exact hlt)
      have hfz := hAt.frozen (o + k)
      rw [up_get hR.1 hlt] at hcl
      obtain ⟨x, hxe, hxk⟩ := lim32 hx k hlt
      rw [hxe] at hcl
      have HX := Lib.hid hxe; clear hxe
      by_cases hb2 : k < bs.length
      · obtain ⟨gb, ob, rfl, hcb⟩ := hr.kept hG (hoff (List.ne_nil_of_length_pos (by omega))) k hb2
        obtain ⟨y, hye, hyk⟩ := lim32 hb k hb2
        rw [hye] at hcb
        have HY := Lib.hid hye; clear hye
        obtain ⟨f1, f2, f3⟩ := prod_fits htm hyk hm1
        have HZ := Lib.hid f3; clear f3
        by_cases hge : ((m : Int) + (tm : Int) * (y : Int)) % 4294967296 + (r : Int) ≤ (x : Int)
        · go_wp2
          go_roundw
          case rel => exact ⟨k + 1, (m + tm * y) / 4294967296, 0, cur.set k (x - (m + tm * y) % 4294967296 - r), hlt, by go_num, vint (by omega), vint (by omega), hAt.set_ ho k (by rw [hR.1.len]; exact hlt) _ _ (by omega),
            takeR_step (B := 4294967296) (by decide) hR hb hlt _ _ 0 (by rw [getD_of hb2, HY.out]) (by rw [HX.out]; omega) (by omega) (by omega), grown_set hG _⟩
          case measure => simp [RowKit.intOf]; omega
        · go_wp2
          go_roundw
          case rel => exact ⟨k + 1, (m + tm * y) / 4294967296, 1, cur.set k (x + 4294967296 - (m + tm * y) % 4294967296 - r), hlt, by go_num, vint (by omega), vint (sub2_hi (by omega) (by omega) (by omega) (by omega)), hAt.set_ ho k (by rw [hR.1.len]; exact hlt) _ _ ((sub2_lo (by omega) (by omega) (by omega) (by omega)).trans (by omega)),
            takeR_step (B := 4294967296) (by decide) hR hb hlt _ _ 1 (by rw [getD_of hb2, HY.out]) (by rw [HX.out]; omega) (by omega) (by omega), grown_set hG _⟩
          case measure => simp [RowKit.intOf]; omega
      · by_cases hge : (m : Int) + (r : Int) ≤ (x : Int)
        · go_wp2
          go_roundw
          case rel => exact ⟨k + 1, m / 4294967296, 0, cur.set k (x - m - r), hlt, by go_num, vint (by omega), vint (by omega), hAt.set_ ho k (by rw [hR.1.len]; exact hlt) _ _ (by omega),
            takeR_step (B := 4294967296) (by decide) hR hb hlt m _ 0 (by rw [getD_no hb2]; rfl) (by rw [HX.out]; omega) (by omega) (by omega), grown_set hG _⟩
          case measure => simp [RowKit.intOf]; omega
        · go_wp2
          go_roundw
          case rel => exact ⟨k + 1, m / 4294967296, 1, cur.set k (x + 4294967296 - m - r), hlt, by go_num, vint (by omega), vint (sub2_hi (by omega) (by omega) (by omega) (by omega)), hAt.set_ ho k (by rw [hR.1.len]; exact hlt) _ _ ((sub2_lo (by omega) (by omega) (by omega) (by omega)).trans (by omega)),
            takeR_step (B := 4294967296) (by decide) hR hb hlt m _ 1 (by rw [getD_no hb2]; rfl) (by rw [HX.out]; omega) (by omega) (by omega), grown_set hG _⟩
          case measure => simp [RowKit.intOf]; omega
    · obtain rfl : k = xs.length := by omega
      by_cases h1 : r = 1
      · subst h1
        go_wp2
        go_ret
        exact ⟨⟨cur, m, 1, hAt, hR, rfl⟩, hG⟩
      · obtain rfl : r = 0 := by omega
        go_wp2
        go_ret
        exact ⟨⟨cur, m, 0, hAt, hR, rfl⟩, hG⟩
end Go.Proofs.YtflnackpkcldjaaDoor
