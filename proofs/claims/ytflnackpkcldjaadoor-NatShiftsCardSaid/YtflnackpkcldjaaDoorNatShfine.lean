/- The law NatShifts, walked: an answer. -/
import Derived.Test.YtflnackpkcldjaaDoorNatSh
namespace Go.Proofs.YtflnackpkcldjaaDoor
open Go.RowKit Go.Lib

set_option maxRecDepth 100000 in
set_option maxHeartbeats 8000000 in
theorem natShifts_fine_z (A : Option Addr) (ca : Nat) (xs : List Nat) (k : Int) (lo hi : Nat) (w : World) (hx : Lim B32 xs) (hxn : xs.length ≤ 400) (hk1 : -9223372036854775808 ≤ k) (hk2 : k ≤ 9223372036854775807) (hlo2 : lo < 4294967296) (hhi2 : hi < 4294967296) (hlo : lo = 0) (hhi : hi = 0) (hra : Rd .u32 w A xs) (hvx : vld xs = true) (hk : ¬ k < 0) (hx0 : ¬ xs = []) (hl : ¬ 8192 - (bitsN xs : Int) < k) :
    Calls Tryd.prog 6 #[.slice A xs.length ca, .int .i64 k, .int .u64 ((lo : Int) + 4294967296 * (hi : Int))] w fun e w' => e = .returned (.bool true) ∧ Below w.heap.size w w' := by
  have CF := Lib.hid (fixed_any w)
  have hws : dig B32 (lo + 4294967296 * hi) = [] := ws_z hlo2 hhi2 hlo hhi
  have hlw : Lim B32 [] := by rw [← hws]; exact lim_dig _
  have hvw : vld [] = true := by rw [← hws]; exact vld_dig (word_room hlo2 hhi2)
  have cW := fun (W : World) => from_any lo hi W hlo2 hhi2
  rw [hws] at cW
  have cV : ∀ (A1 : Option Addr) (c1 : Nat) (W : World), Rd .u32 W A1 [] → Calls Tryd.prog 11 #[.slice A1 0 c1] W fun e w' => e = .returned (.bool (vld [])) ∧ W = w' := fun A1 c1 W h => refValid_any A1 c1 [] W (by simp) hlw h
  rw [hvw] at cV
  obtain ⟨N, hN⟩ : ∃ N : Int, (lo : Int) + 4294967296 * (hi : Int) = N := ⟨_, rfl⟩
  rw [hN] at cW ⊢
  have hN0 : 0 ≤ N := by omega
  have hN1 : N ≤ 18446744073709551615 := by omega
  have e1 : N % 4294967296 = 0 := by omega
  have e2 : N / 4294967296 = 0 := by omega
  have e4 : (N == 0) = true := by rw [beq_iff_eq]; omega
  have cX := fun (W : World) (h : Rd .u32 W A xs) => refValid_any A ca xs W (by omega) hx h
  rw [hvx] at cX
  have cS := fun (W : World) (h : Rd .u32 W A xs) => shl_any A ca xs k W hx (by omega) hk1 hk2 h
  have hsr : shlRes xs k = (dig B32 (vl B32 xs * 2 ^ k.toNat), 0) := by rw [shlRes, if_pos hvx, if_neg hk, if_neg hx0, if_neg hl]
  rw [hsr] at cS
  have cB := fun (W : World) (h : Rd .u32 W A xs) => bits_any A ca xs W hx (by omega) h
  obtain ⟨K, hK⟩ : ∃ K : Nat, k = (K : Int) := ⟨k.toNat, by omega⟩
  subst hK
  have hbN := bitsN_room hx hx0 (vld_iff.1 hvx).1
  have hbig : vl B32 xs * 2 ^ K < B32 ^ 256 := shl_room hbN (by omega)
  have hKb : K ≤ 8192 := by omega
  clear hbN
  obtain ⟨y, b, hyk, hb1, hb2, hbm, hy1, hy2, hlen, hyc⟩ := top_bits hx hx0 (vld_iff.1 hvx).2
  have hxb : ((xs.length : Int) == 0) = false := by rw [beq_eq_false_iff_ne]; omega
  obtain ⟨m, hm⟩ : ∃ m, bitsN xs = m := ⟨_, rfl⟩
  rw [hm] at cB hbm hl
  obtain ⟨g, o, rfl, hc⟩ := hra (xs.length - 1) (by omega)
  rw [hyc] at hc
  have hlt := World.block_lt_of_cell? w _ hc
  have f1 : (m : Int) - 32 * ((xs.length : Int) - 1) = (b : Int) := by omega
  have f2 : (m : Int) - 1 - 32 * ((xs.length : Int) - 1) = ((b - 1 : Nat) : Int) := by omega
  have f3 : ((xs.length : Int) - 1).toNat = xs.length - 1 := by omega
  have f4 : ¬ (m : Int) ≤ 32 * ((xs.length : Int) - 1) := by omega
  have f5 : ¬ 32 * (xs.length : Int) < (m : Int) := by omega
  obtain ⟨P, hP⟩ : ∃ P, 2 ^ b = P := ⟨_, rfl⟩
  obtain ⟨R, hR⟩ : ∃ R, 2 ^ (b - 1) = R := ⟨_, rfl⟩
  rw [hP] at hy1
  rw [hR] at hy2
  have p1 : (2 : Int) ^ b = (P : Int) := by rw [← hP, Int.natCast_pow]; rfl
  have p2 : (2 : Int) ^ (b - 1) = (R : Int) := by rw [← hR, Int.natCast_pow]; rfl
  have q1 : (y : Int) / (P : Int) = 0 := by rw [← Int.natCast_ediv, hy1]; rfl
  have q2 : (y : Int) / (R : Int) = 1 := by rw [← Int.natCast_ediv, hy2]; rfl
  rw [show ((K : Nat) : Int).toNat = K from rfl] at cS
  have la := dig4_len hx
  have lx : (dig D4 (vl B32 xs)).length ≤ 1200 := by omega
  have oA := fun (W : World) (h : Rd .u32 W _ xs) => rof_any (some ⟨g, o, none⟩) ca xs W hx (by omega) h
  have cPw := fun (W : World) => rpow_any K W (by omega)
  have lp := dig4_pow (j := K)
  obtain ⟨a, ha⟩ : ∃ a, vl B32 xs = a := ⟨_, rfl⟩
  obtain ⟨p, hp⟩ : ∃ p, 2 ^ K = p := ⟨_, rfl⟩
  rw [ha] at oA lx hbig cS
  rw [hp] at cPw lp hbig cS
  have rM := fun (A1 A2 : Option Addr) (c1 c2 : Nat) (W : World) (h1 : Rd .i64 W A1 (dig D4 a)) (h2 : Rd .i64 W A2 (dig D4 p)) => rmul_any A1 A2 c1 c2 (dig D4 a) (dig D4 p) W (lim4d a) (lim4d p) (by omega) (by omega) h1 h2
  rw [dig_vl (by decide), dig_vl (by decide)] at rM
  have cI := fun (A1 A2 : Option Addr) (c1 c2 : Nat) (W : World) (h1 : Rd .u32 W A1 (dig B32 (a * p))) (h2 : Rd .i64 W A2 (dig D4 (a * p))) => ris_yes A1 A2 c1 c2 (a * p) W hbig h1 h2
  have cW' := Lib.hid cW
  have cV' := Lib.hid cV
  have cX' := Lib.hid cX
  have cS' := Lib.hid cS
  have cB' := Lib.hid cB
  have oA' := Lib.hid oA
  have cPw' := Lib.hid cPw
  have rM' := Lib.hid rM
  have cI' := Lib.hid cI
  clear cW cV cX cS cB oA cPw rM cI hws hvw hsr hvx hN hlo hhi hx0 hm hyc hP hR hy1 hy2 hbm la lx lp ha hp hbig
  go_enter Tryd.func6, Tryd.ntmps6
  go_wp2_with fail
  refine CF.out.mono ?_
  rintro e w0 ⟨rfl, hB⟩
  clear CF
  go_wp2_with fail
  with_reducible refine (cW'.out _).mono ?_
  rintro e w1 ⟨v, rfl, hO, hBn⟩
  obtain ⟨Av, cv, rfl, ev⟩ := hO.slice_
  have hB := hB.trans (hBn.mono hB.size)
  have Qv : Hid (Rd .u32 w1 Av ([])) := hO.rd
  clear hO hBn
  go_wp2_with fail
  with_reducible refine (cV'.out _ _ _ Qv.out).mono ?_
  rintro e w' ⟨rfl, rfl⟩
  go_wp2_with fail
  with_reducible refine (cS'.out _ (hra.below hB)).mono ?_
  rintro e w2 ⟨v, rfl, hO, hBn⟩
  replace hO : Own .u32 w2 w1.heap.size 47 v (dig B32 (a * p)) := hO
  obtain ⟨As, cs, rfl, es⟩ := hO.slice_
  have Qv := Lib.hid (Qv.out.below hBn)
  have hB := hB.trans (hBn.mono hB.size)
  have Qs : Hid (Rd .u32 w2 As (dig B32 (a * p))) := hO.rd
  clear hO hBn
  go_wp2_with fail
  with_reducible refine (cX'.out _ (hra.below hB)).mono ?_
  rintro e w' ⟨rfl, rfl⟩
  go_wp2_with fail
  with_reducible refine (cB'.out _ (hra.below hB)).mono ?_
  rintro e w' ⟨rfl, rfl⟩
  have hc' := (hB.cell hlt).trans hc
  go_wp2_with fail
  with_reducible refine (oA'.out _ (hra.below hB)).mono ?_
  rintro e w3 ⟨v, rfl, hO, hBn⟩
  obtain ⟨Ax, cx, rfl, ex⟩ := hO.slice_
  have Qv := Lib.hid (Qv.out.below hBn)
  have Qs := Lib.hid (Qs.out.below hBn)
  have hB := hB.trans (hBn.mono hB.size)
  have Qx : Hid (Rd .i64 w3 Ax (dig D4 a)) := hO.rd
  clear hO hBn
  go_wp2_with fail
  with_reducible refine (cPw'.out _).mono ?_
  rintro e w4 ⟨v, rfl, hO, hBn⟩
  obtain ⟨Aq, cq, rfl, eq⟩ := hO.slice_
  have Qv := Lib.hid (Qv.out.below hBn)
  have Qs := Lib.hid (Qs.out.below hBn)
  have Qx := Lib.hid (Qx.out.below hBn)
  have hB := hB.trans (hBn.mono hB.size)
  have Qq : Hid (Rd .i64 w4 Aq (dig D4 p)) := hO.rd
  clear hO hBn
  go_wp2_with fail
  with_reducible refine (rM'.out _ _ _ _ _ Qx.out Qq.out).mono ?_
  rintro e w5 ⟨v, rfl, hO, hBn⟩
  obtain ⟨At, ct, rfl, et⟩ := hO.slice_
  have Qv := Lib.hid (Qv.out.below hBn)
  have Qs := Lib.hid (Qs.out.below hBn)
  have Qx := Lib.hid (Qx.out.below hBn)
  have Qq := Lib.hid (Qq.out.below hBn)
  have hB := hB.trans (hBn.mono hB.size)
  have Qt : Hid (Rd .i64 w5 At (dig D4 (a * p))) := hO.rd
  clear hO hBn
  go_wp2_with fail
  with_reducible refine (cI'.out _ _ _ _ _ Qs.out Qt.out).mono ?_
  rintro e w6 ⟨rfl, hBn⟩
  have Qv := Lib.hid (Qv.out.below hBn)
  have Qs := Lib.hid (Qs.out.below hBn)
  have Qx := Lib.hid (Qx.out.below hBn)
  have Qq := Lib.hid (Qq.out.below hBn)
  have Qt := Lib.hid (Qt.out.below hBn)
  have hB := hB.trans (hBn.mono hB.size)
  clear hBn
  go_wp2
  go_ret
  exact ⟨rfl, hB⟩
set_option maxRecDepth 100000 in
set_option maxHeartbeats 8000000 in
theorem natShifts_fine_l (A : Option Addr) (ca : Nat) (xs : List Nat) (k : Int) (lo hi : Nat) (w : World) (hx : Lim B32 xs) (hxn : xs.length ≤ 400) (hk1 : -9223372036854775808 ≤ k) (hk2 : k ≤ 9223372036854775807) (hlo2 : lo < 4294967296) (hhi2 : hi < 4294967296) (hlo : 0 < lo) (hhi : hi = 0) (hra : Rd .u32 w A xs) (hvx : vld xs = true) (hk : ¬ k < 0) (hx0 : ¬ xs = []) (hl : ¬ 8192 - (bitsN xs : Int) < k) :
    Calls Tryd.prog 6 #[.slice A xs.length ca, .int .i64 k, .int .u64 ((lo : Int) + 4294967296 * (hi : Int))] w fun e w' => e = .returned (.bool true) ∧ Below w.heap.size w w' := by
  have CF := Lib.hid (fixed_any w)
  have hws : dig B32 (lo + 4294967296 * hi) = [lo] := ws_l hlo2 hhi2 hlo hhi
  have hlw : Lim B32 [lo] := by rw [← hws]; exact lim_dig _
  have hvw : vld [lo] = true := by rw [← hws]; exact vld_dig (word_room hlo2 hhi2)
  have cW := fun (W : World) => from_any lo hi W hlo2 hhi2
  rw [hws] at cW
  have cV : ∀ (A1 : Option Addr) (c1 : Nat) (W : World), Rd .u32 W A1 [lo] → Calls Tryd.prog 11 #[.slice A1 1 c1] W fun e w' => e = .returned (.bool (vld [lo])) ∧ W = w' := fun A1 c1 W h => refValid_any A1 c1 [lo] W (by simp) hlw h
  rw [hvw] at cV
  obtain ⟨N, hN⟩ : ∃ N : Int, (lo : Int) + 4294967296 * (hi : Int) = N := ⟨_, rfl⟩
  rw [hN] at cW ⊢
  have hN0 : 0 ≤ N := by omega
  have hN1 : N ≤ 18446744073709551615 := by omega
  have e1 : N % 4294967296 = (lo : Int) := by omega
  have e2 : N / 4294967296 = 0 := by omega
  have e4 : (N == 0) = false := by rw [beq_eq_false_iff_ne]; omega
  have cX := fun (W : World) (h : Rd .u32 W A xs) => refValid_any A ca xs W (by omega) hx h
  rw [hvx] at cX
  have cS := fun (W : World) (h : Rd .u32 W A xs) => shl_any A ca xs k W hx (by omega) hk1 hk2 h
  have hsr : shlRes xs k = (dig B32 (vl B32 xs * 2 ^ k.toNat), 0) := by rw [shlRes, if_pos hvx, if_neg hk, if_neg hx0, if_neg hl]
  rw [hsr] at cS
  have cB := fun (W : World) (h : Rd .u32 W A xs) => bits_any A ca xs W hx (by omega) h
  obtain ⟨K, hK⟩ : ∃ K : Nat, k = (K : Int) := ⟨k.toNat, by omega⟩
  subst hK
  have hbN := bitsN_room hx hx0 (vld_iff.1 hvx).1
  have hbig : vl B32 xs * 2 ^ K < B32 ^ 256 := shl_room hbN (by omega)
  have hKb : K ≤ 8192 := by omega
  clear hbN
  obtain ⟨y, b, hyk, hb1, hb2, hbm, hy1, hy2, hlen, hyc⟩ := top_bits hx hx0 (vld_iff.1 hvx).2
  have hxb : ((xs.length : Int) == 0) = false := by rw [beq_eq_false_iff_ne]; omega
  obtain ⟨m, hm⟩ : ∃ m, bitsN xs = m := ⟨_, rfl⟩
  rw [hm] at cB hbm hl
  obtain ⟨g, o, rfl, hc⟩ := hra (xs.length - 1) (by omega)
  rw [hyc] at hc
  have hlt := World.block_lt_of_cell? w _ hc
  have f1 : (m : Int) - 32 * ((xs.length : Int) - 1) = (b : Int) := by omega
  have f2 : (m : Int) - 1 - 32 * ((xs.length : Int) - 1) = ((b - 1 : Nat) : Int) := by omega
  have f3 : ((xs.length : Int) - 1).toNat = xs.length - 1 := by omega
  have f4 : ¬ (m : Int) ≤ 32 * ((xs.length : Int) - 1) := by omega
  have f5 : ¬ 32 * (xs.length : Int) < (m : Int) := by omega
  obtain ⟨P, hP⟩ : ∃ P, 2 ^ b = P := ⟨_, rfl⟩
  obtain ⟨R, hR⟩ : ∃ R, 2 ^ (b - 1) = R := ⟨_, rfl⟩
  rw [hP] at hy1
  rw [hR] at hy2
  have p1 : (2 : Int) ^ b = (P : Int) := by rw [← hP, Int.natCast_pow]; rfl
  have p2 : (2 : Int) ^ (b - 1) = (R : Int) := by rw [← hR, Int.natCast_pow]; rfl
  have q1 : (y : Int) / (P : Int) = 0 := by rw [← Int.natCast_ediv, hy1]; rfl
  have q2 : (y : Int) / (R : Int) = 1 := by rw [← Int.natCast_ediv, hy2]; rfl
  rw [show ((K : Nat) : Int).toNat = K from rfl] at cS
  have la := dig4_len hx
  have lx : (dig D4 (vl B32 xs)).length ≤ 1200 := by omega
  have oA := fun (W : World) (h : Rd .u32 W _ xs) => rof_any (some ⟨g, o, none⟩) ca xs W hx (by omega) h
  have cPw := fun (W : World) => rpow_any K W (by omega)
  have lp := dig4_pow (j := K)
  obtain ⟨a, ha⟩ : ∃ a, vl B32 xs = a := ⟨_, rfl⟩
  obtain ⟨p, hp⟩ : ∃ p, 2 ^ K = p := ⟨_, rfl⟩
  rw [ha] at oA lx hbig cS
  rw [hp] at cPw lp hbig cS
  have rM := fun (A1 A2 : Option Addr) (c1 c2 : Nat) (W : World) (h1 : Rd .i64 W A1 (dig D4 a)) (h2 : Rd .i64 W A2 (dig D4 p)) => rmul_any A1 A2 c1 c2 (dig D4 a) (dig D4 p) W (lim4d a) (lim4d p) (by omega) (by omega) h1 h2
  rw [dig_vl (by decide), dig_vl (by decide)] at rM
  have cI := fun (A1 A2 : Option Addr) (c1 c2 : Nat) (W : World) (h1 : Rd .u32 W A1 (dig B32 (a * p))) (h2 : Rd .i64 W A2 (dig D4 (a * p))) => ris_yes A1 A2 c1 c2 (a * p) W hbig h1 h2
  have cW' := Lib.hid cW
  have cV' := Lib.hid cV
  have cX' := Lib.hid cX
  have cS' := Lib.hid cS
  have cB' := Lib.hid cB
  have oA' := Lib.hid oA
  have cPw' := Lib.hid cPw
  have rM' := Lib.hid rM
  have cI' := Lib.hid cI
  clear cW cV cX cS cB oA cPw rM cI hws hvw hsr hvx hN hhi hx0 hm hyc hP hR hy1 hy2 hbm la lx lp ha hp hbig
  go_enter Tryd.func6, Tryd.ntmps6
  go_wp2_with fail
  refine CF.out.mono ?_
  rintro e w0 ⟨rfl, hB⟩
  clear CF
  go_wp2_with fail
  with_reducible refine (cW'.out _).mono ?_
  rintro e w1 ⟨v, rfl, hO, hBn⟩
  obtain ⟨Av, cv, rfl, ev⟩ := hO.slice_
  have hB := hB.trans (hBn.mono hB.size)
  have Qv : Hid (Rd .u32 w1 Av ([lo])) := hO.rd
  clear hO hBn
  obtain ⟨gv, ov, rfl, hcv⟩ := Qv.out.at_ (by simp)
  have hv0 := hcv 0 (by simp)
  rw [Nat.add_zero] at hv0
  simp only [List.getElem_cons_zero, List.getElem_cons_succ] at hv0
  clear hcv
  go_wp2_with fail
  with_reducible refine (cV'.out _ _ _ Qv.out).mono ?_
  rintro e w' ⟨rfl, rfl⟩
  go_wp2_with fail
  with_reducible refine (cS'.out _ (hra.below hB)).mono ?_
  rintro e w2 ⟨v, rfl, hO, hBn⟩
  replace hO : Own .u32 w2 w1.heap.size 47 v (dig B32 (a * p)) := hO
  obtain ⟨As, cs, rfl, es⟩ := hO.slice_
  have Qv := Lib.hid (Qv.out.below hBn)
  have hB := hB.trans (hBn.mono hB.size)
  have Qs : Hid (Rd .u32 w2 As (dig B32 (a * p))) := hO.rd
  clear hO hBn
  go_wp2_with fail
  with_reducible refine (cX'.out _ (hra.below hB)).mono ?_
  rintro e w' ⟨rfl, rfl⟩
  go_wp2_with fail
  with_reducible refine (cB'.out _ (hra.below hB)).mono ?_
  rintro e w' ⟨rfl, rfl⟩
  have hc' := (hB.cell hlt).trans hc
  go_wp2_with fail
  with_reducible refine (oA'.out _ (hra.below hB)).mono ?_
  rintro e w3 ⟨v, rfl, hO, hBn⟩
  obtain ⟨Ax, cx, rfl, ex⟩ := hO.slice_
  have Qv := Lib.hid (Qv.out.below hBn)
  have Qs := Lib.hid (Qs.out.below hBn)
  have hB := hB.trans (hBn.mono hB.size)
  have Qx : Hid (Rd .i64 w3 Ax (dig D4 a)) := hO.rd
  clear hO hBn
  go_wp2_with fail
  with_reducible refine (cPw'.out _).mono ?_
  rintro e w4 ⟨v, rfl, hO, hBn⟩
  obtain ⟨Aq, cq, rfl, eq⟩ := hO.slice_
  have Qv := Lib.hid (Qv.out.below hBn)
  have Qs := Lib.hid (Qs.out.below hBn)
  have Qx := Lib.hid (Qx.out.below hBn)
  have hB := hB.trans (hBn.mono hB.size)
  have Qq : Hid (Rd .i64 w4 Aq (dig D4 p)) := hO.rd
  clear hO hBn
  go_wp2_with fail
  with_reducible refine (rM'.out _ _ _ _ _ Qx.out Qq.out).mono ?_
  rintro e w5 ⟨v, rfl, hO, hBn⟩
  obtain ⟨At, ct, rfl, et⟩ := hO.slice_
  have Qv := Lib.hid (Qv.out.below hBn)
  have Qs := Lib.hid (Qs.out.below hBn)
  have Qx := Lib.hid (Qx.out.below hBn)
  have Qq := Lib.hid (Qq.out.below hBn)
  have hB := hB.trans (hBn.mono hB.size)
  have Qt : Hid (Rd .i64 w5 At (dig D4 (a * p))) := hO.rd
  clear hO hBn
  go_wp2_with fail
  with_reducible refine (cI'.out _ _ _ _ _ Qs.out Qt.out).mono ?_
  rintro e w6 ⟨rfl, hBn⟩
  have Qv := Lib.hid (Qv.out.below hBn)
  have Qs := Lib.hid (Qs.out.below hBn)
  have Qx := Lib.hid (Qx.out.below hBn)
  have Qq := Lib.hid (Qq.out.below hBn)
  have Qt := Lib.hid (Qt.out.below hBn)
  have hB := hB.trans (hBn.mono hB.size)
  clear hBn
  go_wp2
  go_ret
  exact ⟨rfl, hB⟩
set_option maxRecDepth 100000 in
set_option maxHeartbeats 8000000 in
theorem natShifts_fine_h (A : Option Addr) (ca : Nat) (xs : List Nat) (k : Int) (lo hi : Nat) (w : World) (hx : Lim B32 xs) (hxn : xs.length ≤ 400) (hk1 : -9223372036854775808 ≤ k) (hk2 : k ≤ 9223372036854775807) (hlo2 : lo < 4294967296) (hhi2 : hi < 4294967296) (hhi : 0 < hi) (hra : Rd .u32 w A xs) (hvx : vld xs = true) (hk : ¬ k < 0) (hx0 : ¬ xs = []) (hl : ¬ 8192 - (bitsN xs : Int) < k) :
    Calls Tryd.prog 6 #[.slice A xs.length ca, .int .i64 k, .int .u64 ((lo : Int) + 4294967296 * (hi : Int))] w fun e w' => e = .returned (.bool true) ∧ Below w.heap.size w w' := by
  have CF := Lib.hid (fixed_any w)
  have hws : dig B32 (lo + 4294967296 * hi) = [lo, hi] := ws_h hlo2 hhi2 hhi
  have hlw : Lim B32 [lo, hi] := by rw [← hws]; exact lim_dig _
  have hvw : vld [lo, hi] = true := by rw [← hws]; exact vld_dig (word_room hlo2 hhi2)
  have cW := fun (W : World) => from_any lo hi W hlo2 hhi2
  rw [hws] at cW
  have cV : ∀ (A1 : Option Addr) (c1 : Nat) (W : World), Rd .u32 W A1 [lo, hi] → Calls Tryd.prog 11 #[.slice A1 2 c1] W fun e w' => e = .returned (.bool (vld [lo, hi])) ∧ W = w' := fun A1 c1 W h => refValid_any A1 c1 [lo, hi] W (by simp) hlw h
  rw [hvw] at cV
  obtain ⟨N, hN⟩ : ∃ N : Int, (lo : Int) + 4294967296 * (hi : Int) = N := ⟨_, rfl⟩
  rw [hN] at cW ⊢
  have hN0 : 0 ≤ N := by omega
  have hN1 : N ≤ 18446744073709551615 := by omega
  have e1 : N % 4294967296 = (lo : Int) := by omega
  have e2 : N / 4294967296 = (hi : Int) := by omega
  have e3 : (hi : Int) % 4294967296 = (hi : Int) := by omega
  have e4 : (N == 0) = false := by rw [beq_eq_false_iff_ne]; omega
  have cX := fun (W : World) (h : Rd .u32 W A xs) => refValid_any A ca xs W (by omega) hx h
  rw [hvx] at cX
  have cS := fun (W : World) (h : Rd .u32 W A xs) => shl_any A ca xs k W hx (by omega) hk1 hk2 h
  have hsr : shlRes xs k = (dig B32 (vl B32 xs * 2 ^ k.toNat), 0) := by rw [shlRes, if_pos hvx, if_neg hk, if_neg hx0, if_neg hl]
  rw [hsr] at cS
  have cB := fun (W : World) (h : Rd .u32 W A xs) => bits_any A ca xs W hx (by omega) h
  obtain ⟨K, hK⟩ : ∃ K : Nat, k = (K : Int) := ⟨k.toNat, by omega⟩
  subst hK
  have hbN := bitsN_room hx hx0 (vld_iff.1 hvx).1
  have hbig : vl B32 xs * 2 ^ K < B32 ^ 256 := shl_room hbN (by omega)
  have hKb : K ≤ 8192 := by omega
  clear hbN
  obtain ⟨y, b, hyk, hb1, hb2, hbm, hy1, hy2, hlen, hyc⟩ := top_bits hx hx0 (vld_iff.1 hvx).2
  have hxb : ((xs.length : Int) == 0) = false := by rw [beq_eq_false_iff_ne]; omega
  obtain ⟨m, hm⟩ : ∃ m, bitsN xs = m := ⟨_, rfl⟩
  rw [hm] at cB hbm hl
  obtain ⟨g, o, rfl, hc⟩ := hra (xs.length - 1) (by omega)
  rw [hyc] at hc
  have hlt := World.block_lt_of_cell? w _ hc
  have f1 : (m : Int) - 32 * ((xs.length : Int) - 1) = (b : Int) := by omega
  have f2 : (m : Int) - 1 - 32 * ((xs.length : Int) - 1) = ((b - 1 : Nat) : Int) := by omega
  have f3 : ((xs.length : Int) - 1).toNat = xs.length - 1 := by omega
  have f4 : ¬ (m : Int) ≤ 32 * ((xs.length : Int) - 1) := by omega
  have f5 : ¬ 32 * (xs.length : Int) < (m : Int) := by omega
  obtain ⟨P, hP⟩ : ∃ P, 2 ^ b = P := ⟨_, rfl⟩
  obtain ⟨R, hR⟩ : ∃ R, 2 ^ (b - 1) = R := ⟨_, rfl⟩
  rw [hP] at hy1
  rw [hR] at hy2
  have p1 : (2 : Int) ^ b = (P : Int) := by rw [← hP, Int.natCast_pow]; rfl
  have p2 : (2 : Int) ^ (b - 1) = (R : Int) := by rw [← hR, Int.natCast_pow]; rfl
  have q1 : (y : Int) / (P : Int) = 0 := by rw [← Int.natCast_ediv, hy1]; rfl
  have q2 : (y : Int) / (R : Int) = 1 := by rw [← Int.natCast_ediv, hy2]; rfl
  rw [show ((K : Nat) : Int).toNat = K from rfl] at cS
  have la := dig4_len hx
  have lx : (dig D4 (vl B32 xs)).length ≤ 1200 := by omega
  have oA := fun (W : World) (h : Rd .u32 W _ xs) => rof_any (some ⟨g, o, none⟩) ca xs W hx (by omega) h
  have cPw := fun (W : World) => rpow_any K W (by omega)
  have lp := dig4_pow (j := K)
  obtain ⟨a, ha⟩ : ∃ a, vl B32 xs = a := ⟨_, rfl⟩
  obtain ⟨p, hp⟩ : ∃ p, 2 ^ K = p := ⟨_, rfl⟩
  rw [ha] at oA lx hbig cS
  rw [hp] at cPw lp hbig cS
  have rM := fun (A1 A2 : Option Addr) (c1 c2 : Nat) (W : World) (h1 : Rd .i64 W A1 (dig D4 a)) (h2 : Rd .i64 W A2 (dig D4 p)) => rmul_any A1 A2 c1 c2 (dig D4 a) (dig D4 p) W (lim4d a) (lim4d p) (by omega) (by omega) h1 h2
  rw [dig_vl (by decide), dig_vl (by decide)] at rM
  have cI := fun (A1 A2 : Option Addr) (c1 c2 : Nat) (W : World) (h1 : Rd .u32 W A1 (dig B32 (a * p))) (h2 : Rd .i64 W A2 (dig D4 (a * p))) => ris_yes A1 A2 c1 c2 (a * p) W hbig h1 h2
  have cW' := Lib.hid cW
  have cV' := Lib.hid cV
  have cX' := Lib.hid cX
  have cS' := Lib.hid cS
  have cB' := Lib.hid cB
  have oA' := Lib.hid oA
  have cPw' := Lib.hid cPw
  have rM' := Lib.hid rM
  have cI' := Lib.hid cI
  clear cW cV cX cS cB oA cPw rM cI hws hvw hsr hvx hN hx0 hm hyc hP hR hy1 hy2 hbm la lx lp ha hp hbig
  go_enter Tryd.func6, Tryd.ntmps6
  go_wp2_with fail
  refine CF.out.mono ?_
  rintro e w0 ⟨rfl, hB⟩
  clear CF
  go_wp2_with fail
  with_reducible refine (cW'.out _).mono ?_
  rintro e w1 ⟨v, rfl, hO, hBn⟩
  obtain ⟨Av, cv, rfl, ev⟩ := hO.slice_
  have hB := hB.trans (hBn.mono hB.size)
  have Qv : Hid (Rd .u32 w1 Av ([lo, hi])) := hO.rd
  clear hO hBn
  obtain ⟨gv, ov, rfl, hcv⟩ := Qv.out.at_ (by simp)
  have hv0 := hcv 0 (by simp)
  have hv1 := hcv 1 (by simp)
  rw [Nat.add_zero] at hv0
  simp only [List.getElem_cons_zero, List.getElem_cons_succ] at hv0 hv1
  clear hcv
  go_wp2_with fail
  with_reducible refine (cV'.out _ _ _ Qv.out).mono ?_
  rintro e w' ⟨rfl, rfl⟩
  go_wp2_with fail
  with_reducible refine (cS'.out _ (hra.below hB)).mono ?_
  rintro e w2 ⟨v, rfl, hO, hBn⟩
  replace hO : Own .u32 w2 w1.heap.size 47 v (dig B32 (a * p)) := hO
  obtain ⟨As, cs, rfl, es⟩ := hO.slice_
  have Qv := Lib.hid (Qv.out.below hBn)
  have hB := hB.trans (hBn.mono hB.size)
  have Qs : Hid (Rd .u32 w2 As (dig B32 (a * p))) := hO.rd
  clear hO hBn
  go_wp2_with fail
  with_reducible refine (cX'.out _ (hra.below hB)).mono ?_
  rintro e w' ⟨rfl, rfl⟩
  go_wp2_with fail
  with_reducible refine (cB'.out _ (hra.below hB)).mono ?_
  rintro e w' ⟨rfl, rfl⟩
  have hc' := (hB.cell hlt).trans hc
  go_wp2_with fail
  with_reducible refine (oA'.out _ (hra.below hB)).mono ?_
  rintro e w3 ⟨v, rfl, hO, hBn⟩
  obtain ⟨Ax, cx, rfl, ex⟩ := hO.slice_
  have Qv := Lib.hid (Qv.out.below hBn)
  have Qs := Lib.hid (Qs.out.below hBn)
  have hB := hB.trans (hBn.mono hB.size)
  have Qx : Hid (Rd .i64 w3 Ax (dig D4 a)) := hO.rd
  clear hO hBn
  go_wp2_with fail
  with_reducible refine (cPw'.out _).mono ?_
  rintro e w4 ⟨v, rfl, hO, hBn⟩
  obtain ⟨Aq, cq, rfl, eq⟩ := hO.slice_
  have Qv := Lib.hid (Qv.out.below hBn)
  have Qs := Lib.hid (Qs.out.below hBn)
  have Qx := Lib.hid (Qx.out.below hBn)
  have hB := hB.trans (hBn.mono hB.size)
  have Qq : Hid (Rd .i64 w4 Aq (dig D4 p)) := hO.rd
  clear hO hBn
  go_wp2_with fail
  with_reducible refine (rM'.out _ _ _ _ _ Qx.out Qq.out).mono ?_
  rintro e w5 ⟨v, rfl, hO, hBn⟩
  obtain ⟨At, ct, rfl, et⟩ := hO.slice_
  have Qv := Lib.hid (Qv.out.below hBn)
  have Qs := Lib.hid (Qs.out.below hBn)
  have Qx := Lib.hid (Qx.out.below hBn)
  have Qq := Lib.hid (Qq.out.below hBn)
  have hB := hB.trans (hBn.mono hB.size)
  have Qt : Hid (Rd .i64 w5 At (dig D4 (a * p))) := hO.rd
  clear hO hBn
  go_wp2_with fail
  with_reducible refine (cI'.out _ _ _ _ _ Qs.out Qt.out).mono ?_
  rintro e w6 ⟨rfl, hBn⟩
  have Qv := Lib.hid (Qv.out.below hBn)
  have Qs := Lib.hid (Qs.out.below hBn)
  have Qx := Lib.hid (Qx.out.below hBn)
  have Qq := Lib.hid (Qq.out.below hBn)
  have Qt := Lib.hid (Qt.out.below hBn)
  have hB := hB.trans (hBn.mono hB.size)
  clear hBn
  go_wp2
  go_ret
  exact ⟨rfl, hB⟩
end Go.Proofs.YtflnackpkcldjaaDoor
