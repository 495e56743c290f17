/- Contracts of layer 2: divLimb, shiftUp, shiftDown. -/
import Derived.Laws.BitsAllLaws
import Derived.Test.YtflnackpkcldjaaDoorNatE
namespace Go.Proofs.YtflnackpkcldjaaDoor
open Go.RowKit Go.Lib

theorem or_low {k a b : Nat} (h : b < 2 ^ k) : a * 2 ^ k ||| b = a * 2 ^ k + b := by
  rw [← Nat.shiftLeft_eq, Nat.shiftLeft_add_eq_or_of_lt h]
/-- A word put together of two limbs. -/
theorem or_add {z x : Nat} (hz : z < 4294967296) (hx : x < 4294967296) : bits .or .u64 ((z : Int) * 4294967296) (x : Int) = (z : Int) * 4294967296 + (x : Int) := by
  have h := u64_or_nat (z * 4294967296) x (by omega) (by omega)
  rw [show z * 4294967296 ||| x = z * 4294967296 + x from or_low (k := 32) hx] at h
  rw [Int.natCast_mul, Int.natCast_add, Int.natCast_mul] at h
  exact h

set_option maxRecDepth 100000 in
set_option maxHeartbeats 1000000 in
theorem divLimb_any (g o cap d : Nat) (t : TypeId) (L R : List Value) (xs : List Nat) (w : World) (hA : At .u32 w g t L xs R) (ho : L.length = o) (hx : Lim B32 xs) (hxn : xs.length ≤ 100000) (hd0 : 0 < d) (hd : d < 4294967296) :
    Calls Tryd.prog 43 #[.slice (some ⟨g, o, none⟩) xs.length cap, .int .u32 d] w fun e w' => (∃ (left : Nat) (cur : List Nat), At .u32 w' g t L cur R ∧ DivR B32 d xs cur 0 left ∧ e = .returned (.int .u32 left)) ∧ w.grownBy w' (some g) := by
  go_enter Tryd.func43, Tryd.ntmps43
  go_wp2
  go_loopw [5, 6] (fun c i wr => ∃ (k z : Nat) (cur : List Nat), k ≤ xs.length ∧ i = .int .i64 ((k : Int) - 1) ∧ c = .int .u64 z ∧ At .u32 wr g t L cur R ∧ DivR B32 d xs cur k z ∧ w.grownBy wr (some g)) (fun _ i _ => (RowKit.intOf i + 1).toNat)
  case atStart => exact ⟨xs.length, 0, xs, Nat.le_refl _, rfl, rfl, hA, divR_start hx hd0, grown_refl _ _⟩
  case round =>
    obtain ⟨k, z, cur, hk, rfl, rfl, hAt, hR, hG⟩ := hrel
    have hz : z < d := hR.2.2
    rcases k with _ | k
    · have hz2 : (z : Int) % 4294967296 = (z : Int) := by omega
      go_wp2
      go_ret
      exact ⟨⟨z, cur, hAt, hR, rfl⟩, hG⟩
    · have hlt : k < xs.length := hk
      have hcl := hAt.cell ho k (by rw [hR.1.len]; exact hlt)
      have hfz := hAt.frozen (o + k)
      rw [down_get hR.1] at hcl
      obtain ⟨x, hxe, hxk⟩ := lim32 hx k hlt
      rw [hxe] at hcl
      have hst := divR_step (B := 4294967296) hR hx (z * 4294967296 + x) (by rw [hxe])
      have HS := Lib.hid hst.1
      have hq1 : ((z : Int) * 4294967296 + (x : Int)) / (d : Int) < 4294967296 := by
        have h := Int.ofNat_lt.2 hst.2
        rw [Int.natCast_ediv, Int.natCast_add, Int.natCast_mul] at h
        exact h
      have hq0 : 0 ≤ ((z : Int) * 4294967296 + (x : Int)) / (d : Int) := Int.ediv_nonneg (by omega) (by omega)
      have hor := or_add (z := z) (x := x) (by omega) hxk
      clear hxe hst
      rw [show ((k + 1 : Nat) : Int) - 1 = (k : Int) by omega]
      go_wp2
      go_roundw
      case rel => exact ⟨k, _, _, by omega, rfl, vint (by simp), hAt.set_ ho k (by rw [hR.1.len]; exact hlt) _ _ (by simp), HS.out, grown_set hG _⟩
      case measure => simp [RowKit.intOf]

/-- A limb shifted, and what was carried. -/
theorem or_shift {c x k P : Nat} (hP : 2 ^ k = P) (hc : c < P) (hx : x < 4294967296) (hk : k < 32) : bits .or .u64 (c : Int) ((x : Int) * (P : Int)) = (x : Int) * (P : Int) + (c : Int) ∧ (x : Int) * (P : Int) + (c : Int) ≤ 18446744073709551615 ∧ 0 ≤ (x : Int) * (P : Int) ∧ (2 : Int) ^ k = (P : Int) := by
  subst hP
  have h2 : 2 ^ k ≤ 2 ^ 31 := Nat.pow_le_pow_right (by omega) (by omega)
  have h3 : (x + 1) * 2 ^ k ≤ 4294967296 * 2 ^ k := Nat.mul_le_mul_right _ hx
  rw [Nat.add_mul] at h3
  have h4 : 4294967296 * 2 ^ k ≤ 4294967296 * 2 ^ 31 := Nat.mul_le_mul_left _ h2
  have h := u64_or_nat c (x * 2 ^ k) (by omega) (by omega)
  rw [Nat.or_comm, or_low hc] at h
  rw [Int.natCast_mul, Int.natCast_add, Int.natCast_mul] at h
  refine ⟨h, ?_, ?_, ?_⟩
  · rw [← Int.natCast_mul]; omega
  · rw [← Int.natCast_mul]; omega
  · rw [Int.natCast_pow]; rfl

/-- What is carried out of the last limb is put behind it, if there is a place. -/
def putTop (n m c : Nat) (cur : List Nat) : List Nat := if n < m then cur.set n c else cur
/-- How shiftUp ends. -/
def ShuEnd (g : Nat) (t : TypeId) (L R : List Value) (out ls : List Nat) (P : Nat) (w' : World) : Prop :=
  ∃ cur c, ShuR B32 P ls cur ls.length c ∧ cur.length = out.length ∧ cur.drop ls.length = out.drop ls.length ∧ At .u32 w' g t L (putTop ls.length out.length c cur) R

set_option maxRecDepth 100000 in
set_option maxHeartbeats 1000000 in
theorem shiftUp_any (g o cap ca k : Nat) (A : Option Addr) (t : TypeId) (L R : List Value) (out ls : List Nat) (w : World) (hA : At .u32 w g t L out R) (ho : L.length = o) (hx : Lim B32 out) (ha : Lim B32 ls) (hn : out.length ≤ 100000) (hl : ls.length ≤ out.length) (hk : k < 32)
    (hr : Rd .u32 w A ls) (hoff : ls ≠ [] → Off A g) :
    Calls Tryd.prog 49 #[.slice (some ⟨g, o, none⟩) out.length cap, .slice A ls.length ca, .int .i64 k] w fun e w' => e = .returned (.tuple #[]) ∧ ShuEnd g t L R out ls (2 ^ k) w' ∧ w.grownBy w' (some g) := by
  obtain ⟨P, hP⟩ : ∃ P, 2 ^ k = P := ⟨_, rfl⟩
  have hP0 : 0 < P := by rw [← hP]; exact Nat.pow_pos (by omega)
  have hP2 : P ≤ 2147483648 := by rw [← hP]; exact (Nat.pow_le_pow_right (by omega) (show k ≤ 31 by omega) : 2 ^ k ≤ 2 ^ 31)
  rw [hP]
  have HP := Lib.hid hP; clear hP
  go_enter Tryd.func49, Tryd.ntmps49
  go_wp2
  go_loopw [6, 11] (fun c i wr => ∃ (j z : Nat) (cur : List Nat), j ≤ ls.length ∧ i = .int .i64 j ∧ c = .int .u64 z ∧ At .u32 wr g t L cur R ∧ ShuR B32 P ls cur j z ∧ cur.length = out.length ∧ cur.drop j = out.drop j ∧ w.grownBy wr (some g)) (fun _ i _ => ls.length - (RowKit.intOf i).toNat)
  case atStart => exact ⟨0, 0, out, Nat.zero_le _, rfl, rfl, hA, shuR_start hx hP0, rfl, rfl, grown_refl _ _⟩
  case round =>
    obtain ⟨j, z, cur, hj, rfl, rfl, hAt, hR, hlen, hdr, hG⟩ := hrel
    have hz : z < P := hR.2.1
    have HL := Lib.hid hlen; clear hlen
    have HD := Lib.hid hdr; clear hdr
    by_cases hlt : j < ls.length
    · have hlo : j < out.length := by omega
      have hfz := hAt.frozen (o + j)
      obtain ⟨u, hu⟩ : ∃ u, wr.cell? ⟨g, o + j, none⟩ = some u := ⟨_, hAt.cell ho j (by rw [HL.out]; omega)⟩
      obtain ⟨gb, ob, rfl, hcb⟩ := hr.kept hG (hoff (List.ne_nil_of_length_pos (by omega))) j hlt
      obtain ⟨x, hxe, hxk⟩ := lim32 ha j hlt
      rw [hxe] at hcb
      have HS := Lib.hid (shuR_step (B := 4294967296) hR ha hlt (by rw [HL.out]; omega) (x * P + z) (by rw [hxe]))
      obtain ⟨hor, hb1, hb2, hpw⟩ := or_shift HP.out hz hxk hk
      clear hxe
      go_wp2
      clear hor hpw
      go_roundw
      case rel => exact ⟨j + 1, _, _, hlt, by go_num, vint (by simp), hAt.set_ ho j (by rw [HL.out]; omega) _ _ (by simp), HS.out, by rw [List.length_set, HL.out], by
          have h := congrArg (List.drop 1) HD.out
          rw [List.drop_drop, List.drop_drop] at h
          rw [drop_set_succ]
          exact h, grown_set hG _⟩
      case measure => simp [RowKit.intOf]; omega
    · obtain rfl : j = ls.length := by omega
      have hz2 : (z : Int) % 4294967296 = (z : Int) := by omega
      by_cases hlo : ls.length < out.length
      · have hfz := hAt.frozen (o + ls.length)
        obtain ⟨u, hu⟩ : ∃ u, wr.cell? ⟨g, o + ls.length, none⟩ = some u := ⟨_, hAt.cell ho ls.length (by rw [HL.out]; omega)⟩
        go_wp2
        go_end0
        exact ⟨rfl, ⟨cur, z, hR, HL.out, HD.out, by rw [putTop, if_pos hlo]; exact hAt.set ho _ _ (by rw [HL.out]; omega)⟩, grown_set hG _⟩
      · go_wp2
        go_end0
        exact ⟨rfl, ⟨cur, z, hR, HL.out, HD.out, by rw [putTop, if_neg hlo]; exact hAt⟩, hG⟩

set_option maxRecDepth 100000 in
set_option maxHeartbeats 1000000 in
theorem shiftDown_any (g o cap k : Nat) (t : TypeId) (L R : List Value) (xs : List Nat) (w : World) (hA : At .u32 w g t L xs R) (ho : L.length = o) (hx : Lim B32 xs) (hxn : xs.length ≤ 100000) (hk : k < 32) :
    Calls Tryd.prog 55 #[.slice (some ⟨g, o, none⟩) xs.length cap, .int .i64 k] w fun e w' => e = .returned (.tuple #[]) ∧ (∃ cur v, At .u32 w' g t L cur R ∧ ShdR B32 (2 ^ k) xs cur 0 v) ∧ w.grownBy w' (some g) := by
  obtain ⟨P, hP⟩ : ∃ P, 2 ^ k = P := ⟨_, rfl⟩
  have hP0 : 0 < P := by rw [← hP]; exact Nat.pow_pos (by omega)
  have hPd : 4294967296 = P * 2 ^ (32 - k) := by rw [← hP, ← Nat.pow_add, show k + (32 - k) = 32 by omega]
  have hpw : (2 : Int) ^ k = (P : Int) := by rw [← hP, Int.natCast_pow]; rfl
  rw [hP]
  clear hP
  have HP := Lib.hid hPd; clear hPd
  go_enter Tryd.func55, Tryd.ntmps55
  go_wp2
  go_loopw [4, 5] (fun c i wr => ∃ (j z : Nat) (cur : List Nat), j ≤ xs.length ∧ i = .int .i64 ((j : Int) - 1) ∧ c = .int .u64 z ∧ z < 18446744073709551616 ∧ At .u32 wr g t L cur R ∧ ShdR B32 P xs cur j (z % 4294967296) ∧ w.grownBy wr (some g)) (fun _ i _ => (RowKit.intOf i + 1).toNat)
  case atStart => exact ⟨xs.length, 0, xs, Nat.le_refl _, rfl, rfl, by omega, hA, shdR_start hx, grown_refl _ _⟩
  case round =>
    obtain ⟨j, z, cur, hj, rfl, rfl, hz, hAt, hR, hG⟩ := hrel
    rcases j with _ | j
    · clear hz
      go_wp2
      go_end0
      exact ⟨rfl, ⟨cur, _, hAt, hR⟩, hG⟩
    · have hlt : j < xs.length := hj
      have hcl := hAt.cell ho j (by rw [hR.1.len]; exact hlt)
      have hfz := hAt.frozen (o + j)
      rw [down_get hR.1] at hcl
      obtain ⟨x, hxe, hxk⟩ := lim32 hx j hlt
      rw [hxe] at hcl
      obtain ⟨zl, hzl⟩ : ∃ zl, z % 4294967296 = zl := ⟨_, rfl⟩
      have hzl2 : zl < 4294967296 := by omega
      rw [hzl] at hR
      have HS := Lib.hid (shdR_step (B := 4294967296) hP0 HP.out hR hx _ rfl)
      rw [hxe] at HS
      have hor : bits .or .u64 (IntKind.u64.wrap ((z : Int) * 4294967296)) (x : Int) = (zl : Int) * 4294967296 + (x : Int) := by
        rw [IntKind.wrap_u64, show ((z : Int) * 4294967296) % 18446744073709551616 = (zl : Int) * 4294967296 by omega]
        exact or_add hzl2 hxk
      clear hxe hz hzl
      rw [show ((j + 1 : Nat) : Int) - 1 = (j : Int) by omega]
      go_wp2
      clear hor hpw
      go_roundw
      case rel => exact ⟨j, zl * 4294967296 + x, _, by omega, rfl, vint (by simp), by omega, hAt.set_ ho j (by rw [hR.1.len]; exact hlt) _ ((zl * 4294967296 + x) / P % 4294967296) (by simp), by rw [show (zl * 4294967296 + x) % 4294967296 = x by omega]; exact HS.out, grown_set hG _⟩
      case measure => simp [RowKit.intOf]
end Go.Proofs.YtflnackpkcldjaaDoor
