/- The law NatShifts, walked: no natural. -/
import Derived.Test.YtflnackpkcldjaaDoorNatSh
namespace Go.Proofs.YtflnackpkcldjaaDoor
open Go.RowKit Go.Lib

set_option maxRecDepth 100000 in
set_option maxHeartbeats 8000000 in
theorem natShifts_no_z (A : Option Addr) (ca : Nat) (xs : List Nat) (k : Int) (lo hi : Nat) (w : World) (hx : Lim B32 xs) (hxn : xs.length ≤ 400) (hk1 : -9223372036854775808 ≤ k) (hk2 : k ≤ 9223372036854775807) (hlo2 : lo < 4294967296) (hhi2 : hi < 4294967296) (hlo : lo = 0) (hhi : hi = 0) (hra : Rd .u32 w A xs) (hvx : vld xs = false) :
    Calls Tryd.prog 6 #[.slice A xs.length ca, .int .i64 k, .int .u64 ((lo : Int) + 4294967296 * (hi : Int))] w fun e w' => e = .returned (.bool true) ∧ Below w.heap.size w w' := by
  have CF := Lib.hid (fixed_any w)
  have hws : dig B32 (lo + 4294967296 * hi) = [] := ws_z hlo2 hhi2 hlo hhi
  have hlw : Lim B32 [] := by rw [← hws]; exact lim_dig _
  have hvw : vld [] = true := by rw [← hws]; exact vld_dig (word_room hlo2 hhi2)
  have cW := fun (W : World) => from_any lo hi W hlo2 hhi2
  rw [hws] at cW
  have cV : ∀ (A1 : Option Addr) (c1 : Nat) (W : World), Rd .u32 W A1 [] → Calls Tryd.prog 11 #[.slice A1 0 c1] W fun e w' => e = .returned (.bool (vld [])) ∧ W = w' := fun A1 c1 W h => refValid_any A1 c1 [] W (by simp) hlw h
  rw [hvw] at cV
  obtain ⟨N, hN⟩ : ∃ N : Int, (lo : Int) + 4294967296 * (hi : Int) = N := ⟨_, rfl⟩
  rw [hN] at cW ⊢
  have hN0 : 0 ≤ N := by omega
  have hN1 : N ≤ 18446744073709551615 := by omega
  have e1 : N % 4294967296 = 0 := by omega
  have e2 : N / 4294967296 = 0 := by omega
  have e4 : (N == 0) = true := by rw [beq_iff_eq]; omega
  have cX := fun (W : World) (h : Rd .u32 W A xs) => refValid_any A ca xs W (by omega) hx h
  rw [hvx] at cX
  have cS := fun (W : World) (h : Rd .u32 W A xs) => shl_any A ca xs k W hx (by omega) hk1 hk2 h
  have hsr : shlRes xs k = ([], 30) := by rw [shlRes, if_neg (by rw [hvx]; decide)]
  rw [hsr] at cS
  have cW' := Lib.hid cW
  have cV' := Lib.hid cV
  have cX' := Lib.hid cX
  have cS' := Lib.hid cS
  clear cW cV cX cS hws hvw hsr hvx hN hlo hhi
  go_enter Tryd.func6, Tryd.ntmps6
  go_wp2_with fail
  refine CF.out.mono ?_
  rintro e w0 ⟨rfl, hB⟩
  clear CF
  go_wp2_with fail
  with_reducible refine (cW'.out _).mono ?_
  rintro e w1 ⟨v, rfl, hO, hBn⟩
  obtain ⟨Av, cv, rfl, ev⟩ := hO.slice_
  have hB := hB.trans (hBn.mono hB.size)
  have Qv : Hid (Rd .u32 w1 Av ([])) := hO.rd
  clear hO hBn
  go_wp2_with fail
  with_reducible refine (cV'.out _ _ _ Qv.out).mono ?_
  rintro e w' ⟨rfl, rfl⟩
  go_wp2_with fail
  with_reducible refine (cS'.out _ (hra.below hB)).mono ?_
  rintro e w2 ⟨v, rfl, hO, hBn⟩
  replace hO : Own .u32 w2 w1.heap.size 47 v ([]) := hO
  obtain ⟨As, cs, rfl, es⟩ := hO.slice_
  have Qv := Lib.hid (Qv.out.below hBn)
  have hB := hB.trans (hBn.mono hB.size)
  clear hO hBn
  go_wp2_with fail
  with_reducible refine (cX'.out _ (hra.below hB)).mono ?_
  rintro e w' ⟨rfl, rfl⟩
  go_wp2
  go_ret
  exact ⟨rfl, hB⟩
set_option maxRecDepth 100000 in
set_option maxHeartbeats 8000000 in
theorem natShifts_no_l (A : Option Addr) (ca : Nat) (xs : List Nat) (k : Int) (lo hi : Nat) (w : World) (hx : Lim B32 xs) (hxn : xs.length ≤ 400) (hk1 : -9223372036854775808 ≤ k) (hk2 : k ≤ 9223372036854775807) (hlo2 : lo < 4294967296) (hhi2 : hi < 4294967296) (hlo : 0 < lo) (hhi : hi = 0) (hra : Rd .u32 w A xs) (hvx : vld xs = false) :
    Calls Tryd.prog 6 #[.slice A xs.length ca, .int .i64 k, .int .u64 ((lo : Int) + 4294967296 * (hi : Int))] w fun e w' => e = .returned (.bool true) ∧ Below w.heap.size w w' := by
  have CF := Lib.hid (fixed_any w)
  have hws : dig B32 (lo + 4294967296 * hi) = [lo] := ws_l hlo2 hhi2 hlo hhi
  have hlw : Lim B32 [lo] := by rw [← hws]; exact lim_dig _
  have hvw : vld [lo] = true := by rw [← hws]; exact vld_dig (word_room hlo2 hhi2)
  have cW := fun (W : World) => from_any lo hi W hlo2 hhi2
  rw [hws] at cW
  have cV : ∀ (A1 : Option Addr) (c1 : Nat) (W : World), Rd .u32 W A1 [lo] → Calls Tryd.prog 11 #[.slice A1 1 c1] W fun e w' => e = .returned (.bool (vld [lo])) ∧ W = w' := fun A1 c1 W h => refValid_any A1 c1 [lo] W (by simp) hlw h
  rw [hvw] at cV
  obtain ⟨N, hN⟩ : ∃ N : Int, (lo : Int) + 4294967296 * (hi : Int) = N := ⟨_, rfl⟩
  rw [hN] at cW ⊢
  have hN0 : 0 ≤ N := by omega
  have hN1 : N ≤ 18446744073709551615 := by omega
  have e1 : N % 4294967296 = (lo : Int) := by omega
  have e2 : N / 4294967296 = 0 := by omega
  have e4 : (N == 0) = false := by rw [beq_eq_false_iff_ne]; omega
  have cX := fun (W : World) (h : Rd .u32 W A xs) => refValid_any A ca xs W (by omega) hx h
  rw [hvx] at cX
  have cS := fun (W : World) (h : Rd .u32 W A xs) => shl_any A ca xs k W hx (by omega) hk1 hk2 h
  have hsr : shlRes xs k = ([], 30) := by rw [shlRes, if_neg (by rw [hvx]; decide)]
  rw [hsr] at cS
  have cW' := Lib.hid cW
  have cV' := Lib.hid cV
  have cX' := Lib.hid cX
  have cS' := Lib.hid cS
  clear cW cV cX cS hws hvw hsr hvx hN hhi
  go_enter Tryd.func6, Tryd.ntmps6
  go_wp2_with fail
  refine CF.out.mono ?_
  rintro e w0 ⟨rfl, hB⟩
  clear CF
  go_wp2_with fail
  with_reducible refine (cW'.out _).mono ?_
  rintro e w1 ⟨v, rfl, hO, hBn⟩
  obtain ⟨Av, cv, rfl, ev⟩ := hO.slice_
  have hB := hB.trans (hBn.mono hB.size)
  have Qv : Hid (Rd .u32 w1 Av ([lo])) := hO.rd
  clear hO hBn
  obtain ⟨gv, ov, rfl, hcv⟩ := Qv.out.at_ (by simp)
  have hv0 := hcv 0 (by simp)
  rw [Nat.add_zero] at hv0
  simp only [List.getElem_cons_zero, List.getElem_cons_succ] at hv0
  clear hcv
  go_wp2_with fail
  with_reducible refine (cV'.out _ _ _ Qv.out).mono ?_
  rintro e w' ⟨rfl, rfl⟩
  go_wp2_with fail
  with_reducible refine (cS'.out _ (hra.below hB)).mono ?_
  rintro e w2 ⟨v, rfl, hO, hBn⟩
  replace hO : Own .u32 w2 w1.heap.size 47 v ([]) := hO
  obtain ⟨As, cs, rfl, es⟩ := hO.slice_
  have Qv := Lib.hid (Qv.out.below hBn)
  have hB := hB.trans (hBn.mono hB.size)
  clear hO hBn
  go_wp2_with fail
  with_reducible refine (cX'.out _ (hra.below hB)).mono ?_
  rintro e w' ⟨rfl, rfl⟩
  go_wp2
  go_ret
  exact ⟨rfl, hB⟩
set_option maxRecDepth 100000 in
set_option maxHeartbeats 8000000 in
theorem natShifts_no_h (A : Option Addr) (ca : Nat) (xs : List Nat) (k : Int) (lo hi : Nat) (w : World) (hx : Lim B32 xs) (hxn : xs.length ≤ 400) (hk1 : -9223372036854775808 ≤ k) (hk2 : k ≤ 9223372036854775807) (hlo2 : lo < 4294967296) (hhi2 : hi < 4294967296) (hhi : 0 < hi) (hra : Rd .u32 w A xs) (hvx : vld xs = false) :
    Calls Tryd.prog 6 #[.slice A xs.length ca, .int .i64 k, .int .u64 ((lo : Int) + 4294967296 * (hi : Int))] w fun e w' => e = .returned (.bool true) ∧ Below w.heap.size w w' := by
  have CF := Lib.hid (fixed_any w)
  have hws : dig B32 (lo + 4294967296 * hi) = [lo, hi] := ws_h hlo2 hhi2 hhi
  have hlw : Lim B32 [lo, hi] := by rw [← hws]; exact lim_dig _
  have hvw : vld [lo, hi] = true := by rw [← hws]; exact vld_dig (word_room hlo2 hhi2)
  have cW := fun (W : World) => from_any lo hi W hlo2 hhi2
  rw [hws] at cW
  have cV : ∀ (A1 : Option Addr) (c1 : Nat) (W : World), Rd .u32 W A1 [lo, hi] → Calls Tryd.prog 11 #[.slice A1 2 c1] W fun e w' => e = .returned (.bool (vld [lo, hi])) ∧ W = w' := fun A1 c1 W h => refValid_any A1 c1 [lo, hi] W (by simp) hlw h
  rw [hvw] at cV
  obtain ⟨N, hN⟩ : ∃ N : Int, (lo : Int) + 4294967296 * (hi : Int) = N := ⟨_, rfl⟩
  rw [hN] at cW ⊢
  have hN0 : 0 ≤ N := by omega
  have hN1 : N ≤ 18446744073709551615 := by omega
  have e1 : N % 4294967296 = (lo : Int) := by omega
  have e2 : N / 4294967296 = (hi : Int) := by omega
  have e3 : (hi : Int) % 4294967296 = (hi : Int) := by omega
  have e4 : (N == 0) = false := by rw [beq_eq_false_iff_ne]; omega
  have cX := fun (W : World) (h : Rd .u32 W A xs) => refValid_any A ca xs W (by omega) hx h
  rw [hvx] at cX
  have cS := fun (W : World) (h : Rd .u32 W A xs) => shl_any A ca xs k W hx (by omega) hk1 hk2 h
  have hsr : shlRes xs k = ([], 30) := by rw [shlRes, if_neg (by rw [hvx]; decide)]
  rw [hsr] at cS
  have cW' := Lib.hid cW
  have cV' := Lib.hid cV
  have cX' := Lib.hid cX
  have cS' := Lib.hid cS
  clear cW cV cX cS hws hvw hsr hvx hN
  go_enter Tryd.func6, Tryd.ntmps6
  go_wp2_with fail
  refine CF.out.mono ?_
  rintro e w0 ⟨rfl, hB⟩
  clear CF
  go_wp2_with fail
  with_reducible refine (cW'.out _).mono ?_
  rintro e w1 ⟨v, rfl, hO, hBn⟩
  obtain ⟨Av, cv, rfl, ev⟩ := hO.slice_
  have hB := hB.trans (hBn.mono hB.size)
  have Qv : Hid (Rd .u32 w1 Av ([lo, hi])) := hO.rd
  clear hO hBn
  obtain ⟨gv, ov, rfl, hcv⟩ := Qv.out.at_ (by simp)
  have hv0 := hcv 0 (by simp)
  have hv1 := hcv 1 (by simp)
  rw [Nat.add_zero] at hv0
  simp only [List.getElem_cons_zero, List.getElem_cons_succ] at hv0 hv1
  clear hcv
  go_wp2_with fail
  with_reducible refine (cV'.out _ _ _ Qv.out).mono ?_
  rintro e w' ⟨rfl, rfl⟩
  go_wp2_with fail
  with_reducible refine (cS'.out _ (hra.below hB)).mono ?_
  rintro e w2 ⟨v, rfl, hO, hBn⟩
  replace hO : Own .u32 w2 w1.heap.size 47 v ([]) := hO
  obtain ⟨As, cs, rfl, es⟩ := hO.slice_
  have Qv := Lib.hid (Qv.out.below hBn)
  have hB := hB.trans (hBn.mono hB.size)
  clear hO hBn
  go_wp2_with fail
  with_reducible refine (cX'.out _ (hra.below hB)).mono ?_
  rintro e w' ⟨rfl, rfl⟩
  go_wp2
  go_ret
  exact ⟨rfl, hB⟩
end Go.Proofs.YtflnackpkcldjaaDoor
