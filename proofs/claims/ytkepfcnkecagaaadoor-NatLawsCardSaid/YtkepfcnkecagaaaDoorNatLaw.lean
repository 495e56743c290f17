/- The law NatLaws, walked. -/
import Derived.Test.YtkepfcnkecagaaaDoorNatLa
namespace Go.Proofs.YtkepfcnkecagaaaDoor
open Go.RowKit Go.Lib

set_option maxRecDepth 100000 in
set_option maxHeartbeats 8000000 in
theorem natLaws_any (A A' A'' : Option Addr) (ca cb cc : Nat) (xs ys zs : List Nat) (w : World) (hx : Lim B32 xs) (hy : Lim B32 ys) (hz : Lim B32 zs) (hxn : xs.length ≤ 140737488351232) (hyn : ys.length ≤ 140737488351232) (hzn : zs.length ≤ 140737488351232)
    (hA : A = none → ca = 0) (hA' : A' = none → cb = 0) (hA'' : A'' = none → cc = 0) (hra : Rd .u32 w A xs) (hrb : Rd .u32 w A' ys) (hrc : Rd .u32 w A'' zs) :
    Calls Tryd.prog 8 #[.slice A xs.length ca, .slice A' ys.length cb, .slice A'' zs.length cc] w fun e w' => e = .returned (.bool true) ∧ Below w.heap.size w w' := by
  have CF := Lib.hid (fixed_any w)
  have cX := fun (W : World) (h : Rd .u32 W A xs) => refValid_any A ca xs W hxn hx h
  have cY := fun (W : World) (h : Rd .u32 W A' ys) => refValid_any A' cb ys W hyn hy h
  have cZ := fun (W : World) (h : Rd .u32 W A'' zs) => refValid_any A'' cc zs W hzn hz h
  by_cases hsum : 100 < xs.length + ys.length + zs.length
  · have hsi : (100 : Int) < (xs.length : Int) + (ys.length : Int) + (zs.length : Int) := by omega
    clear hsum cX cY cZ
    go_enter Tryd.func8, Tryd.ntmps8
    go_wp2_with fail
    refine CF.out.mono ?_
    rintro e w0 ⟨rfl, hB⟩
    go_wp2
    go_ret
    exact ⟨rfl, hB⟩
  have hsi : (xs.length : Int) + (ys.length : Int) + (zs.length : Int) ≤ 100 := by omega
  by_cases hvx : vld xs = true
  case neg =>
    have hvf : vld xs = false := by simpa using hvx
    rw [hvf] at cX
    have CX := Lib.hid cX
    clear cX cY cZ hvx hvf hsum
    go_enter Tryd.func8, Tryd.ntmps8
    go_wp2_with fail
    refine CF.out.mono ?_
    rintro e w0 ⟨rfl, hB⟩
    go_wp2_with fail
    refine (CX.out _ (hra.below hB)).mono ?_
    rintro e w' ⟨rfl, rfl⟩
    go_wp2
    go_ret
    exact ⟨rfl, hB⟩
  rw [hvx] at cX
  by_cases hvy : vld ys = true
  case neg =>
    have hvf : vld ys = false := by simpa using hvy
    rw [hvf] at cY
    have CX := Lib.hid cX
    have CY := Lib.hid cY
    clear cX cY cZ hvx hvy hvf hsum
    go_enter Tryd.func8, Tryd.ntmps8
    go_wp2_with fail
    refine CF.out.mono ?_
    rintro e w0 ⟨rfl, hB⟩
    go_wp2_with fail
    refine (CX.out _ (hra.below hB)).mono ?_
    rintro e w' ⟨rfl, rfl⟩
    go_wp2_with fail
    refine (CY.out _ (hrb.below hB)).mono ?_
    rintro e w' ⟨rfl, rfl⟩
    go_wp2
    go_ret
    exact ⟨rfl, hB⟩
  rw [hvy] at cY
  by_cases hvz : vld zs = true
  case neg =>
    have hvf : vld zs = false := by simpa using hvz
    rw [hvf] at cZ
    have CX := Lib.hid cX
    have CY := Lib.hid cY
    have CZ := Lib.hid cZ
    clear cX cY cZ hvx hvy hvz hvf hsum
    go_enter Tryd.func8, Tryd.ntmps8
    go_wp2_with fail
    refine CF.out.mono ?_
    rintro e w0 ⟨rfl, hB⟩
    go_wp2_with fail
    refine (CX.out _ (hra.below hB)).mono ?_
    rintro e w' ⟨rfl, rfl⟩
    go_wp2_with fail
    refine (CY.out _ (hrb.below hB)).mono ?_
    rintro e w' ⟨rfl, rfl⟩
    go_wp2_with fail
    refine (CZ.out _ (hrc.below hB)).mono ?_
    rintro e w' ⟨rfl, rfl⟩
    go_wp2
    go_ret
    exact ⟨rfl, hB⟩
  rw [hvz] at cZ
  have CX := Lib.hid cX
  have CY := Lib.hid cY
  have CZ := Lib.hid cZ
  have hK : ∀ {l : List Nat}, Lim B32 l → l.length ≤ 100 → vl B32 l < B32 ^ 100 := fun h1 h2 => Nat.lt_of_lt_of_le (vl_lt h1) (Nat.pow_le_pow_right (by decide) h2)
  obtain ⟨b1, b2, b3, b4, b5, b6, b7, b8⟩ := law_bounds pow_room (hK hx (by omega)) (hK hy (by omega)) (hK hz (by omega))
  have nx := natres_fix (vld_norm hx hvx)
  have HNX := Lib.hid nx
  have rs := res2_ok hvx hvy b1
  have rt : res2 ys xs (vl B32 ys + vl B32 xs) = (dig B32 (vl B32 xs + vl B32 ys), 0) := by rw [Nat.add_comm (vl B32 ys)]; exact res2_ok hvy hvx b1
  have rp := res2_ok hvx hvy b2
  have rq : res2 ys xs (vl B32 ys * vl B32 xs) = (dig B32 (vl B32 xs * vl B32 ys), 0) := by rw [Nat.mul_comm (vl B32 ys)]; exact res2_ok hvy hvx b2
  have ru : res2 (dig B32 (vl B32 xs + vl B32 ys)) zs (vl B32 (dig B32 (vl B32 xs + vl B32 ys)) * vl B32 zs) = (dig B32 ((vl B32 xs + vl B32 ys) * vl B32 zs), 0) := by rw [dig_vl (by decide)]; exact res2_ok (vld_dig b1) hvz b3
  have rv := res2_ok hvx hvz b4
  have rw_ := res2_ok hvy hvz b5
  have rx : res2 (dig B32 (vl B32 xs * vl B32 zs)) (dig B32 (vl B32 ys * vl B32 zs)) (vl B32 (dig B32 (vl B32 xs * vl B32 zs)) + vl B32 (dig B32 (vl B32 ys * vl B32 zs))) = (dig B32 ((vl B32 xs + vl B32 ys) * vl B32 zs), 0) := by rw [dig_vl (by decide), dig_vl (by decide), Nat.add_mul]; exact res2_ok (vld_dig b4) (vld_dig b5) b6
  have rd := res2_ok hvx hvx b7
  have ry : subRes (dig B32 (vl B32 xs + vl B32 ys)) ys = (xs, 0) := by
    rw [subRes, if_pos ⟨vld_dig b1, hvy⟩, dig_vl (by decide), if_neg (by omega), Nat.add_sub_cancel, nx]
  have rz : shlRes xs 1 = (dig B32 (vl B32 xs + vl B32 xs), 0) := by
    rw [shlRes, if_pos hvx, if_neg (by omega)]
    by_cases h0 : xs = []
    · rw [if_pos h0, h0]; rfl
    · rw [if_neg h0, if_neg]
      · rw [show (1 : Int).toNat = 1 from rfl, Nat.pow_one, Nat.mul_two]
      · rw [bitsN, if_neg h0]
        have hy := getD_lt hx (by decide) (xs.length - 1)
        have hbl : Lib.bitLen (xs.getD (xs.length - 1) 0) ≤ 32 := by
          by_cases hy0 : xs.getD (xs.length - 1) 0 = 0
          · rw [hy0]; decide
          · have e : Lib.bitLen (xs.getD (xs.length - 1) 0) = Lib.bitLenAux 32 (xs.getD (xs.length - 1) 0) := Lib.bitLenAux_fuel 32 _ hy 64 (by omega)
            have := (bitLenAux_bounds 32 _ hy hy0).2.1
            omega
        omega
  have hlx : xs.length ≤ 1000 := by omega
  have hly : ys.length ≤ 1000 := by omega
  have hlz : zs.length ≤ 1000 := by omega
  have Hrs := Lib.hid rs
  have Hrt := Lib.hid rt
  have Hrp := Lib.hid rp
  have Hrq := Lib.hid rq
  have Hru := Lib.hid ru
  have Hrv := Lib.hid rv
  have Hrw_ := Lib.hid rw_
  have Hrx := Lib.hid rx
  have Hrd := Lib.hid rd
  have Hry := Lib.hid ry
  have Hrz := Lib.hid rz
  have B1 := Lib.hid b1
  have B2 := Lib.hid b2
  have B3 := Lib.hid b3
  have B7 := Lib.hid b7
  have B4 := Lib.hid b4
  have B5 := Lib.hid b5
  clear cX cY cZ hvx hvy hvz hsum hK nx rs rt rp rq ru rv rw_ rx rd ry rz b1 b2 b3 b4 b5 b6 b7 b8
  go_enter Tryd.func8, Tryd.ntmps8
  go_wp2_with fail
  refine CF.out.mono ?_
  rintro e w0 ⟨rfl, hB⟩
  go_wp2_with fail
  refine (CX.out _ (hra.below hB)).mono ?_
  rintro e w' ⟨rfl, rfl⟩
  go_wp2_with fail
  refine (CY.out _ (hrb.below hB)).mono ?_
  rintro e w' ⟨rfl, rfl⟩
  go_wp2_with fail
  refine (CZ.out _ (hrc.below hB)).mono ?_
  rintro e w' ⟨rfl, rfl⟩
  clear CX CY CZ CF
  have c0 := add_any A A' ca cb xs ys w0 hx hy hlx hly (hra.below hB) (hrb.below hB)
  rw [Hrs.out] at c0
  have C0 := Lib.hid c0
  clear c0
  go_wp2_with fail
  refine C0.out.mono ?_
  rintro e w1 ⟨v0, rfl, hO, hBn⟩
  clear C0
  replace hO : Own .u32 w1 w0.heap.size 47 v0 (dig B32 (vl B32 xs + vl B32 ys)) := hO
  obtain ⟨As, cs, rfl, es⟩ := hO.slice_
  have Qs : Hid (Rd .u32 w1 As (dig B32 (vl B32 xs + vl B32 ys))) := hO.rd
  have hB := hB.trans (hBn.mono hB.size)
  clear hO hBn
  have c0 := add_any A' A cb ca ys xs w1 hy hx hly hlx (hrb.below hB) (hra.below hB)
  rw [Hrt.out] at c0
  have C0 := Lib.hid c0
  clear c0
  go_wp2_with fail
  refine C0.out.mono ?_
  rintro e w2 ⟨v0, rfl, hO, hBn⟩
  clear C0
  replace hO : Own .u32 w2 w1.heap.size 47 v0 (dig B32 (vl B32 xs + vl B32 ys)) := hO
  obtain ⟨At, ct, rfl, et⟩ := hO.slice_
  have Qt : Hid (Rd .u32 w2 At (dig B32 (vl B32 xs + vl B32 ys))) := hO.rd
  have Qs := Lib.hid (Qs.out.below hBn)
  have hB := hB.trans (hBn.mono hB.size)
  clear hO hBn
  have c0 := mul_any A A' ca cb xs ys w2 hx hy hlx hly (hra.below hB) (hrb.below hB)
  rw [Hrp.out] at c0
  have C0 := Lib.hid c0
  clear c0
  go_wp2_with fail
  refine C0.out.mono ?_
  rintro e w3 ⟨v0, rfl, hO, hBn⟩
  clear C0
  replace hO : Own .u32 w3 w2.heap.size 47 v0 (dig B32 (vl B32 xs * vl B32 ys)) := hO
  obtain ⟨Ap, cp, rfl, ep⟩ := hO.slice_
  have Qp : Hid (Rd .u32 w3 Ap (dig B32 (vl B32 xs * vl B32 ys))) := hO.rd
  have Qs := Lib.hid (Qs.out.below hBn)
  have Qt := Lib.hid (Qt.out.below hBn)
  have hB := hB.trans (hBn.mono hB.size)
  clear hO hBn
  have c0 := mul_any A' A cb ca ys xs w3 hy hx hly hlx (hrb.below hB) (hra.below hB)
  rw [Hrq.out] at c0
  have C0 := Lib.hid c0
  clear c0
  go_wp2_with fail
  refine C0.out.mono ?_
  rintro e w4 ⟨v0, rfl, hO, hBn⟩
  clear C0
  replace hO : Own .u32 w4 w3.heap.size 47 v0 (dig B32 (vl B32 xs * vl B32 ys)) := hO
  obtain ⟨Aq, cq, rfl, eq⟩ := hO.slice_
  have Qq : Hid (Rd .u32 w4 Aq (dig B32 (vl B32 xs * vl B32 ys))) := hO.rd
  have Qs := Lib.hid (Qs.out.below hBn)
  have Qt := Lib.hid (Qt.out.below hBn)
  have Qp := Lib.hid (Qp.out.below hBn)
  have hB := hB.trans (hBn.mono hB.size)
  clear hO hBn
  have c0 := mul_any As A'' cs cc (dig B32 (vl B32 xs + vl B32 ys)) zs w4 (lim_dig _) hz (Nat.le_trans (len_dig B1.out) (by decide)) hlz Qs.out (hrc.below hB)
  rw [Hru.out] at c0
  have C0 := Lib.hid c0
  clear c0
  go_wp2_with fail
  refine C0.out.mono ?_
  rintro e w5 ⟨v0, rfl, hO, hBn⟩
  clear C0
  replace hO : Own .u32 w5 w4.heap.size 47 v0 (dig B32 ((vl B32 xs + vl B32 ys) * vl B32 zs)) := hO
  obtain ⟨Au, cu, rfl, eu⟩ := hO.slice_
  have Qu : Hid (Rd .u32 w5 Au (dig B32 ((vl B32 xs + vl B32 ys) * vl B32 zs))) := hO.rd
  have Qs := Lib.hid (Qs.out.below hBn)
  have Qt := Lib.hid (Qt.out.below hBn)
  have Qp := Lib.hid (Qp.out.below hBn)
  have Qq := Lib.hid (Qq.out.below hBn)
  have hB := hB.trans (hBn.mono hB.size)
  clear hO hBn
  have c0 := mul_any A A'' ca cc xs zs w5 hx hz hlx hlz (hra.below hB) (hrc.below hB)
  rw [Hrv.out] at c0
  have C0 := Lib.hid c0
  clear c0
  go_wp2_with fail
  refine C0.out.mono ?_
  rintro e w6 ⟨v0, rfl, hO, hBn⟩
  clear C0
  replace hO : Own .u32 w6 w5.heap.size 47 v0 (dig B32 (vl B32 xs * vl B32 zs)) := hO
  obtain ⟨Av, cv, rfl, ev⟩ := hO.slice_
  have Qv : Hid (Rd .u32 w6 Av (dig B32 (vl B32 xs * vl B32 zs))) := hO.rd
  have Qs := Lib.hid (Qs.out.below hBn)
  have Qt := Lib.hid (Qt.out.below hBn)
  have Qp := Lib.hid (Qp.out.below hBn)
  have Qq := Lib.hid (Qq.out.below hBn)
  have Qu := Lib.hid (Qu.out.below hBn)
  have hB := hB.trans (hBn.mono hB.size)
  clear hO hBn
  have c0 := mul_any A' A'' cb cc ys zs w6 hy hz hly hlz (hrb.below hB) (hrc.below hB)
  rw [Hrw_.out] at c0
  have C0 := Lib.hid c0
  clear c0
  go_wp2_with fail
  refine C0.out.mono ?_
  rintro e w7 ⟨v0, rfl, hO, hBn⟩
  clear C0
  replace hO : Own .u32 w7 w6.heap.size 47 v0 (dig B32 (vl B32 ys * vl B32 zs)) := hO
  obtain ⟨Ao, co, rfl, eo⟩ := hO.slice_
  have Qo : Hid (Rd .u32 w7 Ao (dig B32 (vl B32 ys * vl B32 zs))) := hO.rd
  have Qs := Lib.hid (Qs.out.below hBn)
  have Qt := Lib.hid (Qt.out.below hBn)
  have Qp := Lib.hid (Qp.out.below hBn)
  have Qq := Lib.hid (Qq.out.below hBn)
  have Qu := Lib.hid (Qu.out.below hBn)
  have Qv := Lib.hid (Qv.out.below hBn)
  have hB := hB.trans (hBn.mono hB.size)
  clear hO hBn
  have c0 := add_any Av Ao cv co (dig B32 (vl B32 xs * vl B32 zs)) (dig B32 (vl B32 ys * vl B32 zs)) w7 (lim_dig _) (lim_dig _) (Nat.le_trans (len_dig B4.out) (by decide)) (Nat.le_trans (len_dig B5.out) (by decide)) Qv.out Qo.out
  rw [Hrx.out] at c0
  have C0 := Lib.hid c0
  clear c0
  go_wp2_with fail
  refine C0.out.mono ?_
  rintro e w8 ⟨v0, rfl, hO, hBn⟩
  clear C0
  replace hO : Own .u32 w8 w7.heap.size 47 v0 (dig B32 ((vl B32 xs + vl B32 ys) * vl B32 zs)) := hO
  obtain ⟨Ax, cx, rfl, ex⟩ := hO.slice_
  have Qx : Hid (Rd .u32 w8 Ax (dig B32 ((vl B32 xs + vl B32 ys) * vl B32 zs))) := hO.rd
  have Qs := Lib.hid (Qs.out.below hBn)
  have Qt := Lib.hid (Qt.out.below hBn)
  have Qp := Lib.hid (Qp.out.below hBn)
  have Qq := Lib.hid (Qq.out.below hBn)
  have Qu := Lib.hid (Qu.out.below hBn)
  have Qv := Lib.hid (Qv.out.below hBn)
  have Qo := Lib.hid (Qo.out.below hBn)
  have hB := hB.trans (hBn.mono hB.size)
  clear hO hBn
  have c0 := sub_any As A' cs cb (dig B32 (vl B32 xs + vl B32 ys)) ys w8 (lim_dig _) hy (Nat.le_trans (len_dig B1.out) (by decide)) hly es Qs.out (hrb.below hB)
  rw [Hry.out] at c0
  have C0 := Lib.hid c0
  clear c0
  go_wp2_with fail
  refine C0.out.mono ?_
  rintro e w9 ⟨v0, rfl, hO, hBn⟩
  clear C0
  replace hO : Own .u32 w9 w8.heap.size 47 v0 (xs) := hO
  obtain ⟨Ay, cy, rfl, ey⟩ := hO.slice_
  have Qy : Hid (Rd .u32 w9 Ay (xs)) := hO.rd
  have Qs := Lib.hid (Qs.out.below hBn)
  have Qt := Lib.hid (Qt.out.below hBn)
  have Qp := Lib.hid (Qp.out.below hBn)
  have Qq := Lib.hid (Qq.out.below hBn)
  have Qu := Lib.hid (Qu.out.below hBn)
  have Qv := Lib.hid (Qv.out.below hBn)
  have Qo := Lib.hid (Qo.out.below hBn)
  have Qx := Lib.hid (Qx.out.below hBn)
  have hB := hB.trans (hBn.mono hB.size)
  clear hO hBn
  have c0 := shl_any A ca xs 1 w9 hx hlx (by omega) (by omega) (hra.below hB)
  rw [Hrz.out] at c0
  have C0 := Lib.hid c0
  clear c0
  go_wp2_with fail
  refine C0.out.mono ?_
  rintro e w10 ⟨v0, rfl, hO, hBn⟩
  clear C0
  replace hO : Own .u32 w10 w9.heap.size 47 v0 (dig B32 (vl B32 xs + vl B32 xs)) := hO
  obtain ⟨Az, cz, rfl, ez⟩ := hO.slice_
  have Qz : Hid (Rd .u32 w10 Az (dig B32 (vl B32 xs + vl B32 xs))) := hO.rd
  have Qs := Lib.hid (Qs.out.below hBn)
  have Qt := Lib.hid (Qt.out.below hBn)
  have Qp := Lib.hid (Qp.out.below hBn)
  have Qq := Lib.hid (Qq.out.below hBn)
  have Qu := Lib.hid (Qu.out.below hBn)
  have Qv := Lib.hid (Qv.out.below hBn)
  have Qo := Lib.hid (Qo.out.below hBn)
  have Qx := Lib.hid (Qx.out.below hBn)
  have Qy := Lib.hid (Qy.out.below hBn)
  have hB := hB.trans (hBn.mono hB.size)
  clear hO hBn
  have c0 := add_any A A ca ca xs xs w10 hx hx hlx hlx (hra.below hB) (hra.below hB)
  rw [Hrd.out] at c0
  have C0 := Lib.hid c0
  clear c0
  go_wp2_with fail
  refine C0.out.mono ?_
  rintro e w11 ⟨v0, rfl, hO, hBn⟩
  clear C0
  replace hO : Own .u32 w11 w10.heap.size 47 v0 (dig B32 (vl B32 xs + vl B32 xs)) := hO
  obtain ⟨Ad, cd, rfl, ed⟩ := hO.slice_
  have Qd : Hid (Rd .u32 w11 Ad (dig B32 (vl B32 xs + vl B32 xs))) := hO.rd
  have Qs := Lib.hid (Qs.out.below hBn)
  have Qt := Lib.hid (Qt.out.below hBn)
  have Qp := Lib.hid (Qp.out.below hBn)
  have Qq := Lib.hid (Qq.out.below hBn)
  have Qu := Lib.hid (Qu.out.below hBn)
  have Qv := Lib.hid (Qv.out.below hBn)
  have Qo := Lib.hid (Qo.out.below hBn)
  have Qx := Lib.hid (Qx.out.below hBn)
  have Qy := Lib.hid (Qy.out.below hBn)
  have Qz := Lib.hid (Qz.out.below hBn)
  have hB := hB.trans (hBn.mono hB.size)
  clear hO hBn
  have cs0 := fun (X : World) (h : Below w11.heap.size w11 X) => same_yes As At cs ct (dig B32 (vl B32 xs + vl B32 ys)) X (Nat.le_trans (len_dig B1.out) (by decide)) (Qs.out.below h) (Rd.below Qt.out h)
  have Cs0 := Lib.hid cs0
  clear cs0
  have cp0 := fun (X : World) (h : Below w11.heap.size w11 X) => same_yes Ap Aq cp cq (dig B32 (vl B32 xs * vl B32 ys)) X (Nat.le_trans (len_dig B2.out) (by decide)) (Qp.out.below h) (Rd.below Qq.out h)
  have Cp0 := Lib.hid cp0
  clear cp0
  have cu0 := fun (X : World) (h : Below w11.heap.size w11 X) => same_yes Au Ax cu cx (dig B32 ((vl B32 xs + vl B32 ys) * vl B32 zs)) X (Nat.le_trans (len_dig B3.out) (by decide)) (Qu.out.below h) (Rd.below Qx.out h)
  have Cu0 := Lib.hid cu0
  clear cu0
  have cy0 := fun (X : World) (h : Below w11.heap.size w11 X) => same_yes Ay A cy ca (xs) X (by omega) (Qy.out.below h) (Rd.below (hra.below hB) h)
  have Cy0 := Lib.hid cy0
  clear cy0
  have cz0 := fun (X : World) (h : Below w11.heap.size w11 X) => same_yes Az Ad cz cd (dig B32 (vl B32 xs + vl B32 xs)) X (Nat.le_trans (len_dig B7.out) (by decide)) (Qz.out.below h) (Rd.below Qd.out h)
  have Cz0 := Lib.hid cz0
  clear cz0
  go_wp2_with fail
  have hD := Below.refl w11.heap.size w11
  with_reducible refine (Cs0.out _ hD).mono ?_
  rintro e d0 ⟨rfl, m0, hm⟩
  replace hD : Below w11.heap.size w11 d0 := by rw [hm]; exact below_drewN' hD _
  clear hm
  go_wp2_with fail
  with_reducible refine (Cp0.out _ hD).mono ?_
  rintro e d1 ⟨rfl, m1, hm⟩
  replace hD : Below w11.heap.size w11 d1 := by rw [hm]; exact below_drewN' hD _
  clear hm
  go_wp2_with fail
  with_reducible refine (Cu0.out _ hD).mono ?_
  rintro e d2 ⟨rfl, m2, hm⟩
  replace hD : Below w11.heap.size w11 d2 := by rw [hm]; exact below_drewN' hD _
  clear hm
  go_wp2_with fail
  with_reducible refine (Cy0.out _ hD).mono ?_
  rintro e d3 ⟨rfl, m3, hm⟩
  replace hD : Below w11.heap.size w11 d3 := by rw [hm]; exact below_drewN' hD _
  clear hm
  go_wp2_with fail
  with_reducible refine (Cz0.out _ hD).mono ?_
  rintro e d4 ⟨rfl, m4, hm⟩
  replace hD : Below w11.heap.size w11 d4 := by rw [hm]; exact below_drewN' hD _
  clear hm
  go_wp2
  go_ret
  exact ⟨rfl, hB.trans (hD.mono hB.size)⟩
end Go.Proofs.YtkepfcnkecagaaaDoor
