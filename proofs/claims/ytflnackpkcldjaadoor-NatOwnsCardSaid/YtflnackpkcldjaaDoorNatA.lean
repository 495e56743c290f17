/- Contracts of layer 2: addTo. -/
import Derived.Test.YtflnackpkcldjaaDoorNatO
namespace Go.Proofs.YtflnackpkcldjaaDoor
open Go.RowKit Go.Lib


set_option maxRecDepth 100000 in
set_option maxHeartbeats 1000000 in
theorem addTo_any (g o cap cb : Nat) (A : Option Addr) (t : TypeId) (L R : List Value) (xs bs : List Nat) (w : World) (hA : At .u32 w g t L xs R) (ho : L.length = o) (hx : Lim B32 xs) (hb : Lim B32 bs) (hxn : xs.length ≤ 100000) (hbn : bs.length ≤ xs.length)
    (hr : Rd .u32 w A bs) (hoff : bs ≠ [] → Off A g) :
    Calls Tryd.prog 34 #[.slice (some ⟨g, o, none⟩) xs.length cap, .slice A bs.length cb] w fun e w' => e = .returned (.tuple #[]) ∧ (∃ cur c, At .u32 w' g t L cur R ∧ AddR B32 xs bs cur xs.length c) ∧ w.grownBy w' (some g) := by
  go_enter Tryd.func34, Tryd.ntmps34
  go_wp2
  go_loopw [4, 8] (fun c i wr => ∃ (k z : Nat) (cur : List Nat), k ≤ xs.length ∧ i = .int .i64 k ∧ c = .int .u64 z ∧ At .u32 wr g t L cur R ∧ AddR B32 xs bs cur k z ∧ w.grownBy wr (some g)) (fun _ i _ => xs.length - (RowKit.intOf i).toNat)
  case atStart => exact ⟨0, 0, xs, Nat.zero_le _, rfl, rfl, hA, addR_start hx, grown_refl _ _⟩
  case round =>
    obtain ⟨k, z, cur, hk, rfl, rfl, hAt, hR, hG⟩ := hrel
    have hc1 : z ≤ 1 := hR.2.2
    by_cases hlt : k < xs.length
    · have hcl := hAt.cell ho k (by rw [hR.1.len]; exact hlt)
      have hfz := hAt.frozen (o + k)
      rw [up_get hR.1 hlt] at hcl
      obtain ⟨x, hxe, hxk⟩ := lim32 hx k hlt
      rw [hxe] at hcl
      have HX := Lib.hid hxe; clear hxe
      by_cases hb2 : k < bs.length
      · obtain ⟨gb, ob, rfl, hcb⟩ := hr.kept hG (hoff (List.ne_nil_of_length_pos (by omega))) k hb2
        obtain ⟨y, hye, hyk⟩ := lim32 hb k hb2
        rw [hye] at hcb
        have HY := Lib.hid hye; clear hye
        go_wp2
        go_roundw
        case rel => exact ⟨k + 1, (z + x + y) / 4294967296, cur.set k ((z + x + y) % 4294967296), hlt, by go_num, by go_num, hAt.set ho k _ (by rw [hR.1.len]; exact hlt), addR_step (by decide) hR hx hb hlt _ (by rw [HX.out, getD_of hb2, HY.out]), grown_set hG _⟩
        case measure => simp [RowKit.intOf]; omega
      · go_wp2
        go_roundw
        case rel => exact ⟨k + 1, (z + x) / 4294967296, cur.set k ((z + x) % 4294967296), hlt, by go_num, by go_num, hAt.set ho k _ (by rw [hR.1.len]; exact hlt), addR_step (by decide) hR hx hb hlt _ (by rw [HX.out, getD_no hb2]; rfl), grown_set hG _⟩
        case measure => simp [RowKit.intOf]; omega
    · obtain rfl : k = xs.length := by omega
      go_wp2
      go_end0
      exact ⟨rfl, ⟨cur, z, hAt, hR⟩, hG⟩
end Go.Proofs.YtflnackpkcldjaaDoor
