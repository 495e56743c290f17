/- The law NatDivides, walked. -/
import Derived.Test.YtflnackpkcldjaaDoorNatRf
namespace Go.Proofs.YtflnackpkcldjaaDoor
open Go.RowKit Go.Lib

theorem dig4_le {n m : Nat} (h : n ≤ m) : (dig D4 n).length ≤ (dig D4 m).length := by
  rw [dig_len_le (by decide)]
  have := (dig_len_le (show 2 ≤ D4 by decide) m (dig D4 m).length).1 (Nat.le_refl _)
  omega
theorem lim4d (n : Nat) : Lim D4 (dig D4 n) := (dig_norm (by decide) n).1

set_option maxRecDepth 100000 in
set_option maxHeartbeats 8000000 in
theorem natDivides_any (A A' : Option Addr) (ca cb : Nat) (xs ys : List Nat) (w : World) (hx : Lim B32 xs) (hy : Lim B32 ys) (hxn : xs.length ≤ 140737488351232) (hyn : ys.length ≤ 140737488351232)
    (hA : A = none → ca = 0) (hra : Rd .u32 w A xs) (hrb : Rd .u32 w A' ys) :
    Calls Tryd.prog 4 #[.slice A xs.length ca, .slice A' ys.length cb] w fun e w' => e = .returned (.bool true) ∧ Below w.heap.size w w' := by
  have CF := Lib.hid (fixed_any w)
  have cX := fun (W : World) (h : Rd .u32 W A xs) => refValid_any A ca xs W hxn hx h
  have cY := fun (W : World) (h : Rd .u32 W A' ys) => refValid_any A' cb ys W hyn hy h
  by_cases hla : 400 < xs.length
  · clear cX cY
    go_enter Tryd.func4, Tryd.ntmps4
    go_wp2_with fail
    refine CF.out.mono ?_
    rintro e w0 ⟨rfl, hB⟩
    go_wp2
    go_ret
    exact ⟨rfl, hB⟩
  by_cases hlb : 400 < ys.length
  · clear cX cY
    go_enter Tryd.func4, Tryd.ntmps4
    go_wp2_with fail
    refine CF.out.mono ?_
    rintro e w0 ⟨rfl, hB⟩
    go_wp2
    go_ret
    exact ⟨rfl, hB⟩
  have cD := fun (W : World) (h1 : Rd .u32 W A xs) (h2 : Rd .u32 W A' ys) => div_any A A' ca cb xs ys W hx hy (by omega) (by omega) hA h1 h2
  by_cases hvx : vld xs = true
  case neg =>
    have hvf : vld xs = false := by simpa using hvx
    have hr : divRes xs ys = ([], [], 30) := by rw [divRes, if_neg (fun h => hvx h.1)]
    rw [hvf] at cX
    rw [hr] at cD
    have CX := Lib.hid cX
    have CD := Lib.hid cD
    clear cX cY cD hvx hvf hr
    go_enter Tryd.func4, Tryd.ntmps4
    go_wp2_with fail
    refine CF.out.mono ?_
    rintro e w0 ⟨rfl, hB⟩
    go_wp2_with fail
    refine (CD.out _ (hra.below hB) (hrb.below hB)).mono ?_
    rintro e w1 ⟨v, v', rfl, hq, hr, _, hBn⟩
    obtain ⟨Aq, cq, rfl, _⟩ := hq.slice_
    obtain ⟨Ar, cr, rfl, _⟩ := hr.slice_
    have hB1 := hB.trans (hBn.mono hB.size)
    clear hq hr hBn hB
    go_wp2_with fail
    refine (CX.out _ (hra.below hB1)).mono ?_
    rintro e w' ⟨rfl, rfl⟩
    go_wp2
    go_ret
    exact ⟨rfl, hB1⟩
  rw [hvx] at cX
  by_cases hvy : vld ys = true
  case neg =>
    have hvf : vld ys = false := by simpa using hvy
    have hr : divRes xs ys = ([], [], 30) := by rw [divRes, if_neg (fun h => hvy h.2)]
    rw [hvf] at cY
    rw [hr] at cD
    have CX := Lib.hid cX
    have CY := Lib.hid cY
    have CD := Lib.hid cD
    clear cX cY cD hvx hvy hvf hr
    go_enter Tryd.func4, Tryd.ntmps4
    go_wp2_with fail
    refine CF.out.mono ?_
    rintro e w0 ⟨rfl, hB⟩
    go_wp2_with fail
    refine (CD.out _ (hra.below hB) (hrb.below hB)).mono ?_
    rintro e w1 ⟨v, v', rfl, hq, hr, _, hBn⟩
    obtain ⟨Aq, cq, rfl, _⟩ := hq.slice_
    obtain ⟨Ar, cr, rfl, _⟩ := hr.slice_
    have hB1 := hB.trans (hBn.mono hB.size)
    clear hq hr hBn hB
    go_wp2_with fail
    refine (CX.out _ (hra.below hB1)).mono ?_
    rintro e w' ⟨rfl, rfl⟩
    go_wp2_with fail
    refine (CY.out _ (hrb.below hB1)).mono ?_
    rintro e w' ⟨rfl, rfl⟩
    go_wp2
    go_ret
    exact ⟨rfl, hB1⟩
  rw [hvy] at cY
  have CX := Lib.hid cX
  have CY := Lib.hid cY
  by_cases hy0 : ys = []
  · have hr : divRes xs ys = ([], [], 1) := by rw [divRes, if_pos ⟨hvx, hvy⟩, if_pos hy0]
    have hb : ((ys.length : Int) == 0) = true := by rw [hy0]; rfl
    rw [hr] at cD
    have CD := Lib.hid cD
    clear cX cY cD hvx hvy hr hy0
    go_enter Tryd.func4, Tryd.ntmps4
    go_wp2_with fail
    refine CF.out.mono ?_
    rintro e w0 ⟨rfl, hB⟩
    go_wp2_with fail
    refine (CD.out _ (hra.below hB) (hrb.below hB)).mono ?_
    rintro e w1 ⟨v, v', rfl, hq, hr, _, hBn⟩
    obtain ⟨Aq, cq, rfl, _⟩ := hq.slice_
    obtain ⟨Ar, cr, rfl, _⟩ := hr.slice_
    have hB1 := hB.trans (hBn.mono hB.size)
    clear hq hr hBn hB
    go_wp2_with fail
    refine (CX.out _ (hra.below hB1)).mono ?_
    rintro e w' ⟨rfl, rfl⟩
    go_wp2_with fail
    refine (CY.out _ (hrb.below hB1)).mono ?_
    rintro e w' ⟨rfl, rfl⟩
    go_wp2
    go_ret
    exact ⟨rfl, hB1⟩
  have hr : divRes xs ys = (dig B32 (vl B32 xs / vl B32 ys), dig B32 (vl B32 xs % vl B32 ys), 0) := by rw [divRes, if_pos ⟨hvx, hvy⟩, if_neg hy0]
  have hb : ((ys.length : Int) == 0) = false := by rw [beq_eq_false_iff_ne]; have := List.length_pos_iff.2 hy0; omega
  rw [hr] at cD
  have CD := Lib.hid cD
  have hyp := vl_pos (vld_norm hy hvy).2 hy0
  have la := dig4_len hx
  have lb := dig4_len hy
  have lx : (dig D4 (vl B32 xs)).length ≤ 1000000 := by omega
  have ly : (dig D4 (vl B32 ys)).length ≤ 1000000 := by omega
  have hba : vl B32 xs < B32 ^ 256 := Nat.lt_of_lt_of_le (vl_lt hx) (Nat.pow_le_pow_right (by decide) (vld_iff.1 hvx).1)
  obtain ⟨a, ha⟩ : ∃ a, vl B32 xs = a := ⟨_, rfl⟩
  obtain ⟨b, hbe⟩ : ∃ b, vl B32 ys = b := ⟨_, rfl⟩
  rw [ha] at lx hba
  rw [hbe] at ly hyp
  have hdm := Nat.div_add_mod a b
  have hmod := Nat.mod_lt a hyp
  have hqle : a / b ≤ a := Nat.div_le_self a b
  have hrle : a % b ≤ a := Nat.mod_le a b
  have hmle : a / b * b ≤ a := Nat.div_mul_le_self a b
  obtain ⟨q, hq⟩ : ∃ q, a / b = q := ⟨_, rfl⟩
  obtain ⟨r, hre⟩ : ∃ r, a % b = r := ⟨_, rfl⟩
  rw [hq] at hqle hmle hdm
  rw [hre] at hrle hmod hdm
  rw [ha, hbe, hq, hre] at CD
  have vq := vld_dig (n := q) (by omega)
  have vr := vld_dig (n := r) (by omega)
  have lq := len_dig (n := q) (by omega)
  have lr := len_dig (n := r) (by omega)
  have lq4 : (dig D4 q).length ≤ 1000000 := Nat.le_trans (dig4_le hqle) lx
  have lr4 : (dig D4 r).length ≤ 1000000 := Nat.le_trans (dig4_le hrle) lx
  have lm4 : (dig D4 (q * b)).length ≤ 1000000 := Nat.le_trans (dig4_le hmle) lx
  have hsum : q * b + r = a := by rw [Nat.mul_comm]; exact hdm
  have cQ := fun (Aq : Option Addr) (cq : Nat) (W : World) (h : Rd .u32 W Aq (dig B32 q)) => refValid_any Aq cq (dig B32 q) W (by omega) (lim_dig q) h
  have cR := fun (Ar : Option Addr) (cr : Nat) (W : World) (h : Rd .u32 W Ar (dig B32 r)) => refValid_any Ar cr (dig B32 r) W (by omega) (lim_dig r) h
  rw [vq] at cQ
  rw [vr] at cR
  have oB := fun (W : World) (h : Rd .u32 W A' ys) => rof_any A' cb ys W hy (by omega) h
  have oA := fun (W : World) (h : Rd .u32 W A xs) => rof_any A ca xs W hx (by omega) h
  have oQ := fun (Aq : Option Addr) (cq : Nat) (W : World) (h : Rd .u32 W Aq (dig B32 q)) => rof_any Aq cq (dig B32 q) W (lim_dig q) (by omega) h
  have oR := fun (Ar : Option Addr) (cr : Nat) (W : World) (h : Rd .u32 W Ar (dig B32 r)) => rof_any Ar cr (dig B32 r) W (lim_dig r) (by omega) h
  rw [hbe] at oB
  rw [ha] at oA
  rw [dig_vl (by decide)] at oQ oR
  have cC := fun (A1 A2 : Option Addr) (c1 c2 : Nat) (W : World) (h1 : Rd .i64 W A1 (dig D4 r)) (h2 : Rd .i64 W A2 (dig D4 b)) => rcmp_any A1 A2 c1 c2 (dig D4 r) (dig D4 b) W (dig_norm (by decide) r) (dig_norm (by decide) b) lr4 ly h1 h2
  rw [dig_vl (by decide), dig_vl (by decide), cmpZ_lt hmod] at cC
  have cM := fun (A1 A2 : Option Addr) (c1 c2 : Nat) (W : World) (h1 : Rd .i64 W A1 (dig D4 q)) (h2 : Rd .i64 W A2 (dig D4 b)) => rmul_any A1 A2 c1 c2 (dig D4 q) (dig D4 b) W (lim4d q) (lim4d b) lq4 ly h1 h2
  rw [dig_vl (by decide), dig_vl (by decide)] at cM
  have cP := fun (A1 A2 : Option Addr) (c1 c2 : Nat) (W : World) (h1 : Rd .i64 W A1 (dig D4 (q * b))) (h2 : Rd .i64 W A2 (dig D4 r)) => radd_any A1 A2 c1 c2 (dig D4 (q * b)) (dig D4 r) W (lim4d _) (lim4d r) lm4 lr4 h1 h2
  rw [dig_vl (by decide), dig_vl (by decide), hsum] at cP
  have cE := fun (A1 A2 : Option Addr) (c1 c2 : Nat) (W : World) (h1 : Rd .i64 W A1 (dig D4 a)) (h2 : Rd .i64 W A2 (dig D4 a)) => rcmp_any A1 A2 c1 c2 (dig D4 a) (dig D4 a) W (dig_norm (by decide) a) (dig_norm (by decide) a) lx lx h1 h2
  rw [cmpZ_eq rfl] at cE
  have CQ := Lib.hid cQ
  have CR := Lib.hid cR
  have OB := Lib.hid oB
  have OA := Lib.hid oA
  have OQ := Lib.hid oQ
  have OR := Lib.hid oR
  have CC := Lib.hid cC
  have CM := Lib.hid cM
  have CP := Lib.hid cP
  have CE := Lib.hid cE
  clear cX cY cD hvx hvy hr hy0 la lb lx ly hba ha hbe hdm hmod hqle hrle hmle hq hre vq vr lq lr lq4 lr4 lm4 hsum cQ cR oB oA oQ oR cC cM cP cE hyp
  go_enter Tryd.func4, Tryd.ntmps4
  go_wp2_with fail
  refine CF.out.mono ?_
  rintro e w0 ⟨rfl, hB⟩
  go_wp2_with fail
  refine (CD.out _ (hra.below hB) (hrb.below hB)).mono ?_
  rintro e w1 ⟨v, v', rfl, hq, hr, _, hBn⟩
  replace hq : Own .u32 w1 w0.heap.size 47 v (dig B32 q) := hq
  replace hr : Own .u32 w1 w0.heap.size 47 v' (dig B32 r) := hr
  obtain ⟨Aq, cq, rfl, _⟩ := hq.slice_
  obtain ⟨Ar, cr, rfl, _⟩ := hr.slice_
  have Qq : Hid (Rd .u32 w1 Aq (dig B32 q)) := hq.rd
  have Qr : Hid (Rd .u32 w1 Ar (dig B32 r)) := hr.rd
  have hB := hB.trans (hBn.mono hB.size)
  clear hq hr hBn CF CD
  go_wp2_with fail
  with_reducible refine (CX.out _ (hra.below hB)).mono ?_
  rintro e w' ⟨rfl, rfl⟩
  go_wp2_with fail
  with_reducible refine (CY.out _ (hrb.below hB)).mono ?_
  rintro e w' ⟨rfl, rfl⟩
  clear CX CY
  go_wp2_with fail
  with_reducible refine (OB.out _ (hrb.below hB)).mono ?_
  rintro e w2 ⟨v, rfl, hO, hBn⟩
  obtain ⟨Ay, cy, rfl, _⟩ := hO.slice_
  have Qy : Hid (Rd .i64 w2 Ay (dig D4 b)) := hO.rd
  have Qq := Lib.hid (Qq.out.below hBn)
  have Qr := Lib.hid (Qr.out.below hBn)
  have hB := hB.trans (hBn.mono hB.size)
  clear hO hBn
  go_wp2_with fail
  with_reducible refine (OR.out _ _ _ Qr.out).mono ?_
  rintro e w3 ⟨v, rfl, hO, hBn⟩
  obtain ⟨Az, cz, rfl, _⟩ := hO.slice_
  have Qz : Hid (Rd .i64 w3 Az (dig D4 r)) := hO.rd
  have Qq := Lib.hid (Qq.out.below hBn)
  have Qr := Lib.hid (Qr.out.below hBn)
  have Qy := Lib.hid (Qy.out.below hBn)
  have hB := hB.trans (hBn.mono hB.size)
  clear hO hBn
  go_wp2_with fail
  with_reducible refine (CQ.out _ _ _ Qq.out).mono ?_
  rintro e w' ⟨rfl, rfl⟩
  go_wp2_with fail
  with_reducible refine (CR.out _ _ _ Qr.out).mono ?_
  rintro e w' ⟨rfl, rfl⟩
  go_wp2_with fail
  with_reducible refine (CC.out _ _ _ _ _ Qz.out Qy.out).mono ?_
  rintro e w4 ⟨rfl, nd, hm⟩
  have hBn : Below w3.heap.size w3 w4 := by rw [hm]; exact below_drewN' (Below.refl _ _) nd
  have Qq := Lib.hid (Qq.out.below hBn)
  have Qy := Lib.hid (Qy.out.below hBn)
  have Qz := Lib.hid (Qz.out.below hBn)
  have hB := hB.trans (hBn.mono hB.size)
  clear hBn hm Qr
  go_wp2_with fail
  with_reducible refine (OQ.out _ _ _ Qq.out).mono ?_
  rintro e w5 ⟨v, rfl, hO, hBn⟩
  obtain ⟨A5, c5, rfl, _⟩ := hO.slice_
  have Q5 : Hid (Rd .i64 w5 A5 (dig D4 q)) := hO.rd
  have Qy := Lib.hid (Qy.out.below hBn)
  have Qz := Lib.hid (Qz.out.below hBn)
  have hB := hB.trans (hBn.mono hB.size)
  clear hO hBn
  go_wp2_with fail
  with_reducible refine (CM.out _ _ _ _ _ Q5.out Qy.out).mono ?_
  rintro e w6 ⟨v, rfl, hO, hBn⟩
  obtain ⟨A6, c6, rfl, _⟩ := hO.slice_
  have Q6 : Hid (Rd .i64 w6 A6 (dig D4 (q * b))) := hO.rd
  have Qz := Lib.hid (Qz.out.below hBn)
  have hB := hB.trans (hBn.mono hB.size)
  clear hO hBn
  go_wp2_with fail
  with_reducible refine (CP.out _ _ _ _ _ Q6.out Qz.out).mono ?_
  rintro e w7 ⟨v, rfl, hO, hBn⟩
  obtain ⟨A7, c7, rfl, _⟩ := hO.slice_
  have Q7 : Hid (Rd .i64 w7 A7 (dig D4 a)) := hO.rd
  have hB := hB.trans (hBn.mono hB.size)
  clear hO hBn
  go_wp2_with fail
  with_reducible refine (OA.out _ (hra.below hB)).mono ?_
  rintro e w8 ⟨v, rfl, hO, hBn⟩
  obtain ⟨A8, c8, rfl, _⟩ := hO.slice_
  have Q8 : Hid (Rd .i64 w8 A8 (dig D4 a)) := hO.rd
  have Q7 := Lib.hid (Q7.out.below hBn)
  have hB := hB.trans (hBn.mono hB.size)
  clear hO hBn
  go_wp2_with fail
  with_reducible refine (CE.out _ _ _ _ _ Q7.out Q8.out).mono ?_
  rintro e w9 ⟨rfl, nd2, hm⟩
  have hBn : Below w8.heap.size w8 w9 := by rw [hm]; exact below_drewN' (Below.refl _ _) nd2
  have hB := hB.trans (hBn.mono hB.size)
  clear hBn hm
  go_wp2
  go_ret
  exact ⟨rfl, hB⟩
end Go.Proofs.YtflnackpkcldjaaDoor
