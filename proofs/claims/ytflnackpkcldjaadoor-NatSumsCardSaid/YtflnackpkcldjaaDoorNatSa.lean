/- The law NatSums, walked: what is no natural. -/
import Derived.Test.YtflnackpkcldjaaDoorNatRj
namespace Go.Proofs.YtflnackpkcldjaaDoor
open Go.RowKit Go.Lib

set_option maxRecDepth 100000 in
set_option maxHeartbeats 8000000 in
theorem natSums_nx (A A' : Option Addr) (ca cb : Nat) (xs ys : List Nat) (w : World) (hx : Lim B32 xs) (hy : Lim B32 ys) (hxn : xs.length ≤ 400) (hyn : ys.length ≤ 400) (hA : A = none → ca = 0) (hra : Rd .u32 w A xs) (hrb : Rd .u32 w A' ys) (hvx : vld xs = false) :
    Calls Tryd.prog 3 #[.slice A xs.length ca, .slice A' ys.length cb] w fun e w' => e = .returned (.bool true) ∧ Below w.heap.size w w' := by
  have CF := Lib.hid (fixed_any w)
  have cX := fun (W : World) (h : Rd .u32 W A xs) => refValid_any A ca xs W (by omega) hx h
  have cU := fun (W : World) (h : Rd .u32 W A xs) => valid_any A ca xs W (by omega) hx h
  rw [hvx] at cX cU
  have cAd := fun (W : World) (h1 : Rd .u32 W A xs) (h2 : Rd .u32 W A' ys) => add_any A A' ca cb xs ys W hx hy (by omega) (by omega) h1 h2
  have cMu := fun (W : World) (h1 : Rd .u32 W A xs) (h2 : Rd .u32 W A' ys) => mul_any A A' ca cb xs ys W hx hy (by omega) (by omega) h1 h2
  have cSu := fun (W : World) (h1 : Rd .u32 W A xs) (h2 : Rd .u32 W A' ys) => sub_any A A' ca cb xs ys W hx hy (by omega) (by omega) hA h1 h2
  have hf : (vld xs && vld ys) = false := by simp [hvx]
  rw [res2_resF hf] at cAd cMu
  have oA := fun (W : World) (h : Rd .u32 W A xs) => rof_any A ca xs W hx (by omega) h
  have oB := fun (W : World) (h : Rd .u32 W A' ys) => rof_any A' cb ys W hy (by omega) h
  have la := dig4_len hx
  have lb := dig4_len hy
  have lx : (dig D4 (vl B32 xs)).length ≤ 1200 := by omega
  have ly : (dig D4 (vl B32 ys)).length ≤ 1200 := by omega
  have hsr : subRes xs ys = ([], 30) := by rw [subRes, if_neg (fun h => by rw [hvx] at h; exact absurd h.1 (by decide))]
  rw [hsr] at cSu
  obtain ⟨a, ha⟩ : ∃ a, vl B32 xs = a := ⟨_, rfl⟩
  obtain ⟨b, hb⟩ : ∃ b, vl B32 ys = b := ⟨_, rfl⟩
  rw [ha] at lx oA
  rw [hb] at ly oB
  rw [ha, hb] at cAd cMu
  have ls := dig4_sum lx ly
  have lm := dig4_prod lx ly
  obtain ⟨xa, hxa⟩ : ∃ x, resF false (a + b) = x := ⟨_, rfl⟩
  obtain ⟨xm, hxm⟩ : ∃ x, resF false (a * b) = x := ⟨_, rfl⟩
  rw [hxa] at cAd
  rw [hxm] at cMu
  have nA := fun (A1 A2 : Option Addr) (c1 c2 : Nat) (W : World) (h1 : Rd .u32 W A1 xa.1) (h2 : Rd .i64 W A2 (dig D4 (a + b))) => ans_any A1 A2 c1 c2 (a + b) false xa (dig D4 (a + b)) W hxa (fun _ => rfl) (fun _ => by omega) h1 h2
  have nM := fun (A1 A2 : Option Addr) (c1 c2 : Nat) (W : World) (h1 : Rd .u32 W A1 xm.1) (h2 : Rd .i64 W A2 (dig D4 (a * b))) => ans_any A1 A2 c1 c2 (a * b) false xm (dig D4 (a * b)) W hxm (fun _ => rfl) (fun _ => by omega) h1 h2
  have rA := fun (A1 A2 : Option Addr) (c1 c2 : Nat) (W : World) (h1 : Rd .i64 W A1 (dig D4 a)) (h2 : Rd .i64 W A2 (dig D4 b)) => radd_any A1 A2 c1 c2 (dig D4 a) (dig D4 b) W (lim4d a) (lim4d b) (by omega) (by omega) h1 h2
  have rM := fun (A1 A2 : Option Addr) (c1 c2 : Nat) (W : World) (h1 : Rd .i64 W A1 (dig D4 a)) (h2 : Rd .i64 W A2 (dig D4 b)) => rmul_any A1 A2 c1 c2 (dig D4 a) (dig D4 b) W (lim4d a) (lim4d b) (by omega) (by omega) h1 h2
  rw [dig_vl (by decide), dig_vl (by decide)] at rA rM
  have cX' := Lib.hid cX
  have cU' := Lib.hid cU
  have cAd' := Lib.hid cAd
  have cMu' := Lib.hid cMu
  have cSu' := Lib.hid cSu
  have oA' := Lib.hid oA
  have oB' := Lib.hid oB
  have nA' := Lib.hid nA
  have nM' := Lib.hid nM
  have rA' := Lib.hid rA
  have rM' := Lib.hid rM
  clear cX cU cAd cMu cSu oA oB nA nM rA rM hf la lb hsr ha hb hxa hxm lx ly ls lm hvx
  go_enter Tryd.func3, Tryd.ntmps3
  go_wp2_with fail
  refine CF.out.mono ?_
  rintro e w0 ⟨rfl, hB⟩
  clear CF
  go_wp2_with fail
  with_reducible refine (oA'.out _ (hra.below hB)).mono ?_
  rintro e w1 ⟨v, rfl, hO, hBn⟩
  obtain ⟨Ax, cx, rfl, ex⟩ := hO.slice_
  have hB := hB.trans (hBn.mono hB.size)
  have Qx : Hid (Rd .i64 w1 Ax (dig D4 a)) := hO.rd
  clear hO hBn
  go_wp2_with fail
  with_reducible refine (oB'.out _ (hrb.below hB)).mono ?_
  rintro e w2 ⟨v, rfl, hO, hBn⟩
  obtain ⟨Ay, cy, rfl, ey⟩ := hO.slice_
  have Qx := Lib.hid (Qx.out.below hBn)
  have hB := hB.trans (hBn.mono hB.size)
  have Qy : Hid (Rd .i64 w2 Ay (dig D4 b)) := hO.rd
  clear hO hBn
  go_wp2_with fail
  with_reducible refine (cX'.out _ (hra.below hB)).mono ?_
  rintro e w' ⟨rfl, rfl⟩
  go_wp2_with fail
  with_reducible refine (cAd'.out _ (hra.below hB) (hrb.below hB)).mono ?_
  rintro e w3 ⟨v, rfl, hO, hBn⟩
  replace hO : Own .u32 w3 w2.heap.size 47 v (xa.1) := hO
  obtain ⟨As, cs, rfl, es⟩ := hO.slice_
  have Qx := Lib.hid (Qx.out.below hBn)
  have Qy := Lib.hid (Qy.out.below hBn)
  have hB := hB.trans (hBn.mono hB.size)
  have Qs : Hid (Rd .u32 w3 As (xa.1)) := hO.rd
  clear hO hBn
  go_wp2_with fail
  with_reducible refine (cMu'.out _ (hra.below hB) (hrb.below hB)).mono ?_
  rintro e w4 ⟨v, rfl, hO, hBn⟩
  replace hO : Own .u32 w4 w3.heap.size 47 v (xm.1) := hO
  obtain ⟨Ap, cp, rfl, ep⟩ := hO.slice_
  have Qx := Lib.hid (Qx.out.below hBn)
  have Qy := Lib.hid (Qy.out.below hBn)
  have Qs := Lib.hid (Qs.out.below hBn)
  have hB := hB.trans (hBn.mono hB.size)
  have Qp : Hid (Rd .u32 w4 Ap (xm.1)) := hO.rd
  clear hO hBn
  go_wp2_with fail
  with_reducible refine (cSu'.out _ (hra.below hB) (hrb.below hB)).mono ?_
  rintro e w5 ⟨v, rfl, hO, hBn⟩
  replace hO : Own .u32 w5 w4.heap.size 47 v ([]) := hO
  obtain ⟨Ad, cd, rfl, ed⟩ := hO.slice_
  have Qx := Lib.hid (Qx.out.below hBn)
  have Qy := Lib.hid (Qy.out.below hBn)
  have Qs := Lib.hid (Qs.out.below hBn)
  have Qp := Lib.hid (Qp.out.below hBn)
  have hB := hB.trans (hBn.mono hB.size)
  clear hO hBn
  clear cAd' cMu' cSu'
  go_wp2_with fail
  with_reducible refine (cU'.out _ (hra.below hB)).mono ?_
  rintro e w' ⟨rfl, rfl⟩
  go_wp2_with fail
  with_reducible refine (cX'.out _ (hra.below hB)).mono ?_
  rintro e w' ⟨rfl, rfl⟩
  clear cX' cU' oA' oB'
  go_wp2_with fail
  with_reducible refine (rA'.out _ _ _ _ _ Qx.out Qy.out).mono ?_
  rintro e w6 ⟨v, rfl, hO, hBn⟩
  obtain ⟨At, ct, rfl, et⟩ := hO.slice_
  have Qx := Lib.hid (Qx.out.below hBn)
  have Qy := Lib.hid (Qy.out.below hBn)
  have Qs := Lib.hid (Qs.out.below hBn)
  have Qp := Lib.hid (Qp.out.below hBn)
  have hB := hB.trans (hBn.mono hB.size)
  have Qt : Hid (Rd .i64 w6 At (dig D4 (a + b))) := hO.rd
  clear hO hBn
  go_wp2_with fail
  with_reducible refine (nA'.out _ _ _ _ _ Qs.out Qt.out).mono ?_
  rintro e w7 ⟨rfl, hBn⟩
  have Qx := Lib.hid (Qx.out.below hBn)
  have Qy := Lib.hid (Qy.out.below hBn)
  have Qs := Lib.hid (Qs.out.below hBn)
  have Qp := Lib.hid (Qp.out.below hBn)
  have Qt := Lib.hid (Qt.out.below hBn)
  have hB := hB.trans (hBn.mono hB.size)
  clear hBn
  clear Qs Qt
  go_wp2_with fail
  with_reducible refine (rM'.out _ _ _ _ _ Qx.out Qy.out).mono ?_
  rintro e w8 ⟨v, rfl, hO, hBn⟩
  obtain ⟨At, ct, rfl, et⟩ := hO.slice_
  have Qx := Lib.hid (Qx.out.below hBn)
  have Qy := Lib.hid (Qy.out.below hBn)
  have Qp := Lib.hid (Qp.out.below hBn)
  have hB := hB.trans (hBn.mono hB.size)
  have Qt : Hid (Rd .i64 w8 At (dig D4 (a * b))) := hO.rd
  clear hO hBn
  go_wp2_with fail
  with_reducible refine (nM'.out _ _ _ _ _ Qp.out Qt.out).mono ?_
  rintro e w9 ⟨rfl, hBn⟩
  have Qx := Lib.hid (Qx.out.below hBn)
  have Qy := Lib.hid (Qy.out.below hBn)
  have Qp := Lib.hid (Qp.out.below hBn)
  have Qt := Lib.hid (Qt.out.below hBn)
  have hB := hB.trans (hBn.mono hB.size)
  clear hBn
  clear Qp Qt
  clear rA' rM' nA' nM'
  go_wp2
  go_ret
  exact ⟨rfl, hB⟩
set_option maxRecDepth 100000 in
set_option maxHeartbeats 8000000 in
theorem natSums_ny (A A' : Option Addr) (ca cb : Nat) (xs ys : List Nat) (w : World) (hx : Lim B32 xs) (hy : Lim B32 ys) (hxn : xs.length ≤ 400) (hyn : ys.length ≤ 400) (hA : A = none → ca = 0) (hra : Rd .u32 w A xs) (hrb : Rd .u32 w A' ys) (hvx : vld xs = true) (hvy : vld ys = false) :
    Calls Tryd.prog 3 #[.slice A xs.length ca, .slice A' ys.length cb] w fun e w' => e = .returned (.bool true) ∧ Below w.heap.size w w' := by
  have CF := Lib.hid (fixed_any w)
  have cX := fun (W : World) (h : Rd .u32 W A xs) => refValid_any A ca xs W (by omega) hx h
  have cY := fun (W : World) (h : Rd .u32 W A' ys) => refValid_any A' cb ys W (by omega) hy h
  have cU := fun (W : World) (h : Rd .u32 W A xs) => valid_any A ca xs W (by omega) hx h
  rw [hvx] at cX cU
  rw [hvy] at cY
  have cAd := fun (W : World) (h1 : Rd .u32 W A xs) (h2 : Rd .u32 W A' ys) => add_any A A' ca cb xs ys W hx hy (by omega) (by omega) h1 h2
  have cMu := fun (W : World) (h1 : Rd .u32 W A xs) (h2 : Rd .u32 W A' ys) => mul_any A A' ca cb xs ys W hx hy (by omega) (by omega) h1 h2
  have cSu := fun (W : World) (h1 : Rd .u32 W A xs) (h2 : Rd .u32 W A' ys) => sub_any A A' ca cb xs ys W hx hy (by omega) (by omega) hA h1 h2
  have hf : (vld xs && vld ys) = false := by simp [hvx, hvy]
  rw [res2_resF hf] at cAd cMu
  have oA := fun (W : World) (h : Rd .u32 W A xs) => rof_any A ca xs W hx (by omega) h
  have oB := fun (W : World) (h : Rd .u32 W A' ys) => rof_any A' cb ys W hy (by omega) h
  have la := dig4_len hx
  have lb := dig4_len hy
  have lx : (dig D4 (vl B32 xs)).length ≤ 1200 := by omega
  have ly : (dig D4 (vl B32 ys)).length ≤ 1200 := by omega
  have hsr : subRes xs ys = ([], 30) := by rw [subRes, if_neg (fun h => by rw [hvy] at h; exact absurd h.2 (by decide))]
  rw [hsr] at cSu
  obtain ⟨a, ha⟩ : ∃ a, vl B32 xs = a := ⟨_, rfl⟩
  obtain ⟨b, hb⟩ : ∃ b, vl B32 ys = b := ⟨_, rfl⟩
  rw [ha] at lx oA
  rw [hb] at ly oB
  rw [ha, hb] at cAd cMu
  have ls := dig4_sum lx ly
  have lm := dig4_prod lx ly
  obtain ⟨xa, hxa⟩ : ∃ x, resF false (a + b) = x := ⟨_, rfl⟩
  obtain ⟨xm, hxm⟩ : ∃ x, resF false (a * b) = x := ⟨_, rfl⟩
  rw [hxa] at cAd
  rw [hxm] at cMu
  have nA := fun (A1 A2 : Option Addr) (c1 c2 : Nat) (W : World) (h1 : Rd .u32 W A1 xa.1) (h2 : Rd .i64 W A2 (dig D4 (a + b))) => ans_any A1 A2 c1 c2 (a + b) false xa (dig D4 (a + b)) W hxa (fun _ => rfl) (fun _ => by omega) h1 h2
  have nM := fun (A1 A2 : Option Addr) (c1 c2 : Nat) (W : World) (h1 : Rd .u32 W A1 xm.1) (h2 : Rd .i64 W A2 (dig D4 (a * b))) => ans_any A1 A2 c1 c2 (a * b) false xm (dig D4 (a * b)) W hxm (fun _ => rfl) (fun _ => by omega) h1 h2
  have rA := fun (A1 A2 : Option Addr) (c1 c2 : Nat) (W : World) (h1 : Rd .i64 W A1 (dig D4 a)) (h2 : Rd .i64 W A2 (dig D4 b)) => radd_any A1 A2 c1 c2 (dig D4 a) (dig D4 b) W (lim4d a) (lim4d b) (by omega) (by omega) h1 h2
  have rM := fun (A1 A2 : Option Addr) (c1 c2 : Nat) (W : World) (h1 : Rd .i64 W A1 (dig D4 a)) (h2 : Rd .i64 W A2 (dig D4 b)) => rmul_any A1 A2 c1 c2 (dig D4 a) (dig D4 b) W (lim4d a) (lim4d b) (by omega) (by omega) h1 h2
  rw [dig_vl (by decide), dig_vl (by decide)] at rA rM
  have cX' := Lib.hid cX
  have cU' := Lib.hid cU
  have cAd' := Lib.hid cAd
  have cMu' := Lib.hid cMu
  have cSu' := Lib.hid cSu
  have oA' := Lib.hid oA
  have oB' := Lib.hid oB
  have nA' := Lib.hid nA
  have nM' := Lib.hid nM
  have rA' := Lib.hid rA
  have rM' := Lib.hid rM
  have cY' := Lib.hid cY
  clear cX cU cAd cMu cSu oA oB nA nM rA rM cY hf la lb hsr ha hb hxa hxm lx ly ls lm hvx hvy
  go_enter Tryd.func3, Tryd.ntmps3
  go_wp2_with fail
  refine CF.out.mono ?_
  rintro e w0 ⟨rfl, hB⟩
  clear CF
  go_wp2_with fail
  with_reducible refine (oA'.out _ (hra.below hB)).mono ?_
  rintro e w1 ⟨v, rfl, hO, hBn⟩
  obtain ⟨Ax, cx, rfl, ex⟩ := hO.slice_
  have hB := hB.trans (hBn.mono hB.size)
  have Qx : Hid (Rd .i64 w1 Ax (dig D4 a)) := hO.rd
  clear hO hBn
  go_wp2_with fail
  with_reducible refine (oB'.out _ (hrb.below hB)).mono ?_
  rintro e w2 ⟨v, rfl, hO, hBn⟩
  obtain ⟨Ay, cy, rfl, ey⟩ := hO.slice_
  have Qx := Lib.hid (Qx.out.below hBn)
  have hB := hB.trans (hBn.mono hB.size)
  have Qy : Hid (Rd .i64 w2 Ay (dig D4 b)) := hO.rd
  clear hO hBn
  go_wp2_with fail
  with_reducible refine (cX'.out _ (hra.below hB)).mono ?_
  rintro e w' ⟨rfl, rfl⟩
  go_wp2_with fail
  with_reducible refine (cY'.out _ (hrb.below hB)).mono ?_
  rintro e w' ⟨rfl, rfl⟩
  go_wp2_with fail
  with_reducible refine (cAd'.out _ (hra.below hB) (hrb.below hB)).mono ?_
  rintro e w3 ⟨v, rfl, hO, hBn⟩
  replace hO : Own .u32 w3 w2.heap.size 47 v (xa.1) := hO
  obtain ⟨As, cs, rfl, es⟩ := hO.slice_
  have Qx := Lib.hid (Qx.out.below hBn)
  have Qy := Lib.hid (Qy.out.below hBn)
  have hB := hB.trans (hBn.mono hB.size)
  have Qs : Hid (Rd .u32 w3 As (xa.1)) := hO.rd
  clear hO hBn
  go_wp2_with fail
  with_reducible refine (cMu'.out _ (hra.below hB) (hrb.below hB)).mono ?_
  rintro e w4 ⟨v, rfl, hO, hBn⟩
  replace hO : Own .u32 w4 w3.heap.size 47 v (xm.1) := hO
  obtain ⟨Ap, cp, rfl, ep⟩ := hO.slice_
  have Qx := Lib.hid (Qx.out.below hBn)
  have Qy := Lib.hid (Qy.out.below hBn)
  have Qs := Lib.hid (Qs.out.below hBn)
  have hB := hB.trans (hBn.mono hB.size)
  have Qp : Hid (Rd .u32 w4 Ap (xm.1)) := hO.rd
  clear hO hBn
  go_wp2_with fail
  with_reducible refine (cSu'.out _ (hra.below hB) (hrb.below hB)).mono ?_
  rintro e w5 ⟨v, rfl, hO, hBn⟩
  replace hO : Own .u32 w5 w4.heap.size 47 v ([]) := hO
  obtain ⟨Ad, cd, rfl, ed⟩ := hO.slice_
  have Qx := Lib.hid (Qx.out.below hBn)
  have Qy := Lib.hid (Qy.out.below hBn)
  have Qs := Lib.hid (Qs.out.below hBn)
  have Qp := Lib.hid (Qp.out.below hBn)
  have hB := hB.trans (hBn.mono hB.size)
  clear hO hBn
  clear cAd' cMu' cSu'
  go_wp2_with fail
  with_reducible refine (cU'.out _ (hra.below hB)).mono ?_
  rintro e w' ⟨rfl, rfl⟩
  go_wp2_with fail
  with_reducible refine (cX'.out _ (hra.below hB)).mono ?_
  rintro e w' ⟨rfl, rfl⟩
  clear cX' cU' oA' oB'
  go_wp2_with fail
  with_reducible refine (rA'.out _ _ _ _ _ Qx.out Qy.out).mono ?_
  rintro e w6 ⟨v, rfl, hO, hBn⟩
  obtain ⟨At, ct, rfl, et⟩ := hO.slice_
  have Qx := Lib.hid (Qx.out.below hBn)
  have Qy := Lib.hid (Qy.out.below hBn)
  have Qs := Lib.hid (Qs.out.below hBn)
  have Qp := Lib.hid (Qp.out.below hBn)
  have hB := hB.trans (hBn.mono hB.size)
  have Qt : Hid (Rd .i64 w6 At (dig D4 (a + b))) := hO.rd
  clear hO hBn
  go_wp2_with fail
  with_reducible refine (nA'.out _ _ _ _ _ Qs.out Qt.out).mono ?_
  rintro e w7 ⟨rfl, hBn⟩
  have Qx := Lib.hid (Qx.out.below hBn)
  have Qy := Lib.hid (Qy.out.below hBn)
  have Qs := Lib.hid (Qs.out.below hBn)
  have Qp := Lib.hid (Qp.out.below hBn)
  have Qt := Lib.hid (Qt.out.below hBn)
  have hB := hB.trans (hBn.mono hB.size)
  clear hBn
  clear Qs Qt
  go_wp2_with fail
  with_reducible refine (rM'.out _ _ _ _ _ Qx.out Qy.out).mono ?_
  rintro e w8 ⟨v, rfl, hO, hBn⟩
  obtain ⟨At, ct, rfl, et⟩ := hO.slice_
  have Qx := Lib.hid (Qx.out.below hBn)
  have Qy := Lib.hid (Qy.out.below hBn)
  have Qp := Lib.hid (Qp.out.below hBn)
  have hB := hB.trans (hBn.mono hB.size)
  have Qt : Hid (Rd .i64 w8 At (dig D4 (a * b))) := hO.rd
  clear hO hBn
  go_wp2_with fail
  with_reducible refine (nM'.out _ _ _ _ _ Qp.out Qt.out).mono ?_
  rintro e w9 ⟨rfl, hBn⟩
  have Qx := Lib.hid (Qx.out.below hBn)
  have Qy := Lib.hid (Qy.out.below hBn)
  have Qp := Lib.hid (Qp.out.below hBn)
  have Qt := Lib.hid (Qt.out.below hBn)
  have hB := hB.trans (hBn.mono hB.size)
  clear hBn
  clear Qp Qt
  clear rA' rM' nA' nM'
  go_wp2
  go_ret
  exact ⟨rfl, hB⟩
end Go.Proofs.YtflnackpkcldjaaDoor
