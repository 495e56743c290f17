/- The definition of layer 2: Of. -/
import Derived.Deep.RegionHeld3
import Derived.Test.YtflnackpkcldjaaDoorNatRb
import Derived.Test.YtflnackpkcldjaaDoorNatRd
namespace Go.Proofs.YtflnackpkcldjaaDoor
open Go.RowKit Go.Lib

theorem dig4_len {l : List Nat} (hl : Lim B32 l) : (dig D4 (vl B32 l)).length ≤ 3 * l.length := by
  rw [dig_len_le (by decide)]
  have h1 := vl_lt hl
  have h2 : B32 ^ l.length ≤ (D4 ^ 3) ^ l.length := Nat.pow_le_pow_left (by decide) _
  rw [← Nat.pow_mul] at h2
  omega
theorem dig4_mul {n m : Nat} (hm : m < D4 ^ 3) : (dig D4 (n * m)).length ≤ (dig D4 n).length + 3 := by
  rw [dig_len_le (by decide), Nat.pow_add]
  have h1 := (dig_len_le (show 2 ≤ D4 by decide) n (dig D4 n).length).1 (Nat.le_refl _)
  exact Nat.mul_lt_mul'' h1 hm
theorem dig4_small {n : Nat} (hn : n < D4 ^ 3) : (dig D4 n).length ≤ 3 := (dig_len_le (by decide) n 3).2 hn

set_option maxRecDepth 100000 in
set_option maxHeartbeats 4000000 in
theorem rof_any (A : Option Addr) (ca : Nat) (xs : List Nat) (w : World) (hx : Lim B32 xs) (hxn : xs.length ≤ 1000) (hra : Rd .u32 w A xs) :
    Calls Tryd.prog 10 #[.slice A xs.length ca] w (Makes .i64 3 w (dig D4 (vl B32 xs))) := by
  go_enter Tryd.func10, Tryd.ntmps10
  go_wp2
  go_loopw [3, 4] (fun v i wr => ∃ k : Nat, k ≤ xs.length ∧ i = .int .i64 ((k : Int) - 1) ∧ Own .i64 wr w.heap.size 3 v (dig D4 (vl B32 (xs.drop k))) ∧ Below w.heap.size w wr) (fun _ i _ => (RowKit.intOf i + 1).toNat)
  case atStart => exact ⟨xs.length, Nat.le_refl _, rfl, by rw [List.drop_length]; exact Own.nil _ _ _, Below.refl _ _⟩
  case round =>
    obtain ⟨k, hk, rfl, hO, hB⟩ := hrel
    rcases k with _ | k
    · have HO := Lib.hid hO
      obtain ⟨A3, c3, rfl, _⟩ := hO.slice
      clear hO
      go_wp2
      go_ret
      exact ⟨_, rfl, by have := HO.out; rwa [List.drop_zero] at this, hB⟩
    · have hlx : k < xs.length := hk
      obtain ⟨A3, c3, rfl, _⟩ := hO.slice
      obtain ⟨g, o, rfl, hc⟩ := (hra.below hB) k hlx
      obtain ⟨x, hxe, hxk⟩ := lim32 hx k hlx
      rw [hxe] at hc
      have hlt := World.block_lt_of_cell? wr _ hc
      have hln := dig4_len (lim_drop hx (k + 1))
      rw [List.length_drop] at hln
      obtain ⟨V, hV⟩ : ∃ V, vl B32 (xs.drop (k + 1)) = V := ⟨_, rfl⟩
      have hval : vl B32 (xs.drop k) = V * 4294967296 + x := by
        rw [drop_get xs k hlx, vl_cons, hxe, hV, Nat.mul_comm, Nat.add_comm]
      rw [hV] at hO hln
      rw [hV]
      have cT := fun (W : World) (h : Below wr.heap.size wr W) => rtim_any A3 c3 4294967296 (dig D4 V) W (dig_norm (by decide) V).1 (by omega) (by omega) (by omega) (hO.rd.below h)
      rw [dig_vl (by decide), show ((4294967296 : Nat) : Int) = 4294967296 from rfl] at cT
      have cS := fun (W : World) => small_any x W (by omega)
      have hlT : (dig D4 (V * 4294967296)).length ≤ 1000000 := by have := dig4_mul (n := V) (m := 4294967296) (by decide); omega
      have hlS : (dig D4 x).length ≤ 1000000 := by have := dig4_small (n := x) (Nat.lt_trans hxk (by decide)); omega
      have cA := fun (A1 A2 : Option Addr) (c1 c2 : Nat) (W : World) (h1 : Rd .i64 W A1 (dig D4 (V * 4294967296))) (h2 : Rd .i64 W A2 (dig D4 x)) => radd_any A1 A2 c1 c2 (dig D4 (V * 4294967296)) (dig D4 x) W (dig_norm (by decide) _).1 (dig_norm (by decide) _).1 hlT hlS h1 h2
      rw [dig_vl (by decide), dig_vl (by decide), ← hval] at cA
      have CT := Lib.hid cT
      have CS := Lib.hid cS
      have CA := Lib.hid cA
      clear cT cS cA hval hV hxe hlT hlS hln hO
      rw [show ((k + 1 : Nat) : Int) - 1 = (k : Int) by omega]
      have hR := Below.refl wr.heap.size wr
      have hwx : IntKind.i64.wrap (x : Int) = (x : Int) := IntWalk.i64_in _ (by omega)
      go_wp2
      go_region_held3 (fun w' => w'.cell? ⟨g, o + k, none⟩ = some (.int .u32 (x : Nat))) (first | (with_reducible exact hcA) | (with_reducible exact hcS) | (with_reducible exact hcT) | go_keep) (first
        | (go_at_call 32; refine (CT.out _ (by first | exact hS | exact hR.drew)).mono ?_; rintro e WT ⟨vt, rfl, hOt, hBt⟩; have hT : Below wr.heap.size wr WT := (by first | exact hS.trans (hBt.mono hS.size) | exact hR.drew.trans hBt); have hcT : WT.cell? ⟨g, o + k, none⟩ = some (.int .u32 (x : Nat)) := (hT.cell hlt).trans hc; obtain ⟨At, ct, rfl, _⟩ := hOt.slice_)
        | (go_at_call 33; refine (CS.out _).mono ?_; rintro e WS ⟨vs, rfl, hOs, hBs⟩; have hS : Below wr.heap.size wr WS := (by first | exact hT.trans (hBs.mono hT.size) | exact hR.drew.trans hBs); have hcS : WS.cell? ⟨g, o + k, none⟩ = some (.int .u32 (x : Nat)) := (hS.cell hlt).trans hc; obtain ⟨As, cs, rfl, _⟩ := hOs.slice_)
        | (go_at_call 17; refine (CA.out _ _ _ _ _ (by first | exact hOt.rd.below hBs | exact hOt.rd) (by first | exact hOs.rd.below hBt | exact hOs.rd)).mono ?_; rintro e WA ⟨va, rfl, hOa, hBa⟩; have hAll : Below wr.heap.size wr WA := (by first | exact hS.trans (hBa.mono hS.size) | exact hT.trans (hBa.mono hT.size)); have hcA : WA.cell? ⟨g, o + k, none⟩ = some (.int .u32 (x : Nat)) := (hAll.cell hlt).trans hc; have hOz : Own .i64 WA wr.heap.size 3 va (dig D4 (vl B32 (xs.drop k))) := (by first | exact hOa.mono hS.size | exact hOa.mono hT.size)))
      all_goals
        have HOZ := Lib.hid (hOz.mono hB.size)
        have hBz := hB.trans (hAll.mono hB.size)
        clear hOz hOa hwx
        go_wp2
        go_roundw
        case rel => exact ⟨k, by omega, rfl, HOZ.out, hBz⟩
        case measure => simp [RowKit.intOf]
end Go.Proofs.YtflnackpkcldjaaDoor
