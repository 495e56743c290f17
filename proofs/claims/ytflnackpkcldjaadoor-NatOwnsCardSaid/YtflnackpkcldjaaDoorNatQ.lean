/- Contracts of layer 2: Div. -/
import Derived.Test.YtflnackpkcldjaaDoorNatN
namespace Go.Proofs.YtflnackpkcldjaaDoor
open Go.RowKit Go.Lib

/-- What Div answers. -/
noncomputable def divRes (xs ys : List Nat) : List Nat × List Nat × Int :=
  if vld xs = true ∧ vld ys = true then (if ys = [] then ([], [], 1) else (dig B32 (vl B32 xs / vl B32 ys), dig B32 (vl B32 xs % vl B32 ys), 0)) else ([], [], 30)
/-- How Div ends. -/
def DivEnd3 (w : World) (x : List Nat × List Nat × Int) (e : Ending) (w' : World) : Prop :=
  ∃ v v' : Value, e = .returned (.tuple #[v, v', .int .i64 x.2.2]) ∧ Own .u32 w' w.heap.size 47 v x.1 ∧ Own .u32 w' w.heap.size 47 v' x.2.1 ∧ (v.ownBlock = none ∨ v.ownBlock ≠ v'.ownBlock) ∧ Below w.heap.size w w'
theorem natres_fix {xs : List Nat} (h : Norm B32 xs) : dig B32 (vl B32 xs) = xs := dig_eq (by decide) h rfl
theorem from_small (n : Nat) (w : World) (hn : n < 4294967296) : Calls Tryd.prog 26 #[.int .u64 (n : Int)] w (Makes .u32 47 w (dig B32 n)) := by
  have := from_any n 0 w hn (by omega)
  simpa using this
theorem vld_norm {xs : List Nat} (hx : Lim B32 xs) (h : vld xs = true) : Norm B32 xs := ⟨hx, (vld_iff.1 h).2⟩
theorem one_div {B d left : Nat} {xs cur : List Nat} (h : DivR B d xs cur 0 left) : vl B cur = vl B xs / d ∧ left = vl B xs % d ∧ Lim B cur ∧ cur.length = xs.length := by
  obtain ⟨h1, h2, h3⟩ := h
  rw [List.drop_zero, List.drop_zero] at h2
  have := Nat.div_mod_unique (show 0 < d by omega) (a := vl B xs) (c := left) (d := vl B cur)
  have h4 := this.2 ⟨by rw [h2]; omega, h3⟩
  exact ⟨h4.1.symm, h4.2.symm, h1.lim, h1.len⟩
theorem vl_pos {ys : List Nat} (hy : Top ys) (h : ys ≠ []) : 0 < vl B32 ys := Nat.lt_of_lt_of_le (Nat.pow_pos (by decide)) (vl_top hy h)

set_option maxRecDepth 100000 in
set_option maxHeartbeats 4000000 in
theorem div_any (A A' : Option Addr) (ca cb : Nat) (xs ys : List Nat) (w : World) (hx : Lim B32 xs) (hy : Lim B32 ys) (hxn : xs.length ≤ 1000) (hyn : ys.length ≤ 1000) (hA : A = none → ca = 0) (hra : Rd .u32 w A xs) (hrb : Rd .u32 w A' ys) :
    Calls Tryd.prog 21 #[.slice A xs.length ca, .slice A' ys.length cb] w (DivEnd3 w (divRes xs ys)) := by
  have cV := fun (W : World) (h : Rd .u32 W A xs) => valid_any A ca xs W (by omega) hx h
  have cU := fun (W : World) (h : Rd .u32 W A' ys) => valid_any A' cb ys W (by omega) hy h
  by_cases hvx : vld xs = true
  case neg =>
    have hvf : vld xs = false := by simpa using hvx
    have HR := Lib.hid (show divRes xs ys = ([], [], 30) by rw [divRes, if_neg (fun h => hvx h.1)])
    rw [hvf] at cV
    have CV := Lib.hid cV
    clear cV cU hvx hvf
    go_enter Tryd.func21, Tryd.ntmps21
    go_wp2_with fail
    refine (CV.out _ hra).mono ?_
    rintro e w' ⟨rfl, rfl⟩
    go_wp2
    go_ret3
    exact ⟨_, _, by rw [HR.out]; rfl, by rw [HR.out]; exact Own.nil _ _ _, by rw [HR.out]; exact Own.nil _ _ _, .inl rfl, Below.refl _ _⟩
  by_cases hvy : vld ys = true
  case neg =>
    have hvf : vld ys = false := by simpa using hvy
    have HR := Lib.hid (show divRes xs ys = ([], [], 30) by rw [divRes, if_neg (fun h => hvy h.2)])
    rw [hvx] at cV
    rw [hvf] at cU
    have CV := Lib.hid cV
    have CU := Lib.hid cU
    clear cV cU hvx hvy hvf
    go_enter Tryd.func21, Tryd.ntmps21
    go_wp2_with fail
    refine (CV.out _ hra).mono ?_
    rintro e w' ⟨rfl, rfl⟩
    go_wp2_with fail
    refine (CU.out _ hrb).mono ?_
    rintro e w' ⟨rfl, rfl⟩
    go_wp2
    go_ret3
    exact ⟨_, _, by rw [HR.out]; rfl, by rw [HR.out]; exact Own.nil _ _ _, by rw [HR.out]; exact Own.nil _ _ _, .inl rfl, Below.refl _ _⟩
  have hnx := vld_norm hx hvx
  have hny := vld_norm hy hvy
  by_cases hy0 : ys = []
  · have HR := Lib.hid (show divRes xs ys = ([], [], 1) by rw [divRes, if_pos ⟨hvx, hvy⟩, if_pos hy0])
    have hb : ((ys.length : Int) == 0) = true := by rw [hy0]; rfl
    rw [hvx] at cV
    rw [hvy] at cU
    have CV := Lib.hid cV
    have CU := Lib.hid cU
    clear cV cU hvx hvy hy0
    go_enter Tryd.func21, Tryd.ntmps21
    go_wp2_with fail
    refine (CV.out _ hra).mono ?_
    rintro e w' ⟨rfl, rfl⟩
    go_wp2_with fail
    refine (CU.out _ hrb).mono ?_
    rintro e w' ⟨rfl, rfl⟩
    go_wp2
    go_ret3
    exact ⟨_, _, by rw [HR.out]; rfl, by rw [HR.out]; exact Own.nil _ _ _, by rw [HR.out]; exact Own.nil _ _ _, .inl rfl, Below.refl _ _⟩
  have hyl : 1 ≤ ys.length := List.length_pos_iff.2 hy0
  have hb : ((ys.length : Int) == 0) = false := by simp; exact hy0
  have HR := Lib.hid (show divRes xs ys = (dig B32 (vl B32 xs / vl B32 ys), dig B32 (vl B32 xs % vl B32 ys), 0) by rw [divRes, if_pos ⟨hvx, hvy⟩, if_neg hy0])
  have hyp := vl_pos hny.2 hy0
  have cC := cmp_any A A' ca cb xs ys w hnx hny (by omega) (by omega) hra hrb
  rw [hvx] at cV
  rw [hvy] at cU
  have CV := Lib.hid cV
  have CU := Lib.hid cU
  clear cV cU hvx hvy
  by_cases hlt : vl B32 xs < vl B32 ys
  · rw [cmpZ_lt hlt] at cC
    have hd : vl B32 xs / vl B32 ys = 0 := Nat.div_eq_of_lt hlt
    have hm : vl B32 xs % vl B32 ys = vl B32 xs := Nat.mod_eq_of_lt hlt
    rw [hd, hm, dig_zero, natres_fix hnx] at HR
    have CC := Lib.hid cC
    clear cC hd hm hlt hyp
    go_enter Tryd.func21, Tryd.ntmps21
    go_wp2_with fail
    refine (CV.out _ hra).mono ?_
    rintro e w' ⟨rfl, rfl⟩
    go_wp2_with fail
    refine (CU.out _ hrb).mono ?_
    rintro e w' ⟨rfl, rfl⟩
    go_wp2_with fail
    refine CC.out.mono ?_
    rintro e w' ⟨rfl, nd, rfl⟩
    have cF := fresh_any A ca xs (w.drewN nd) (by omega) (hra.below (below_drewN' (Below.refl _ _) nd)) hA
    have CF := Lib.hid cF
    clear cF CC
    go_wp2_with fail
    refine CF.out.mono ?_
    rintro e w2 ⟨v, rfl, hO, hB⟩
    have HO := Lib.hid hO
    clear hO
    go_wp2
    go_ret3
    exact ⟨_, _, by rw [HR.out]; rfl, by rw [HR.out]; exact Own.nil _ _ _, by rw [HR.out]; exact HO.out, .inl rfl, (below_drewN' (Below.refl _ _) nd).trans hB⟩
  have hcz : ¬ cmpZ (vl B32 xs) (vl B32 ys) < 0 := by unfold cmpZ; split <;> omega
  obtain ⟨z, hz⟩ : ∃ z, cmpZ (vl B32 xs) (vl B32 ys) = z := ⟨_, rfl⟩
  rw [hz] at cC hcz
  have CC := Lib.hid cC
  have hxl : ys.length ≤ xs.length := by
    rcases Nat.lt_or_ge xs.length ys.length with h | h
    · exact absurd (norm_len_lt (by decide) hnx.1 hny.2 h) hlt
    · exact h
  clear cC hz
  by_cases hy1 : ys.length = 1
  · obtain ⟨d, hd⟩ : ∃ d, ys = [d] := List.length_eq_one_iff.1 hy1
    have hb1 : ((ys.length : Int) == 1) = true := by rw [hy1]; rfl
    have hdl : d < 4294967296 := by rw [hd] at hy; exact lim_one.1 hy
    have hd0 : 0 < d := by rw [hd, vl_one] at hyp; exact hyp
    obtain ⟨g', o', rfl, hcd⟩ := hrb.at_ hy0
    have hc0 := hcd 0 (by omega)
    have hvd : vl B32 ys = d := by rw [hd, vl_one]
    rw [hvd] at HR
    have hg0 : ys[0] = d := by simp [hd]
    rw [hg0] at hc0
    have hlb := World.block_lt_of_cell? w _ hc0
    have h01 : (0 : Int) < (ys.length : Int) := by omega
    clear hcd hg0 hvd hd hy1 hyp hlt
    go_enter Tryd.func21, Tryd.ntmps21
    go_wp2_with fail
    refine (CV.out _ hra).mono ?_
    rintro e w' ⟨rfl, rfl⟩
    go_wp2_with fail
    refine (CU.out _ hrb).mono ?_
    rintro e w' ⟨rfl, rfl⟩
    go_wp2_with fail
    refine CC.out.mono ?_
    rintro e w' ⟨rfl, nd, rfl⟩
    have cF := fresh_any A ca xs (w.drewN nd) (by omega) (hra.below (below_drewN' (Below.refl _ _) nd)) hA
    have CF := Lib.hid cF
    clear cF CC
    go_wp2_with fail
    refine CF.out.mono ?_
    rintro e w2 ⟨v, rfl, hO, hB⟩
    obtain ⟨g, cap, rfl, hgB, hcap⟩ := hO.form (by omega)
    obtain ⟨R, hAt, hR⟩ := at_of_own hO
    have cD := divLimb_any g 0 cap d 47 [] R xs w2 hAt rfl hx (by omega) hd0 hdl
    have CD := Lib.hid cD
    have HRR := Lib.hid hR
    have hB0 : Below w.heap.size w w2 := (below_drewN' (Below.refl _ _) nd).trans hB
    have hc2 : w2.cell? ⟨g', o', none⟩ = some (.int .u32 (d : Nat)) := (hB0.cell hlb).trans hc0
    clear cD CF hO hAt hR hB
    go_wp2_with fail
    refine CD.out.mono ?_
    rintro e w3 ⟨⟨left, cur, hA3, hD3, rfl⟩, hG3⟩
    obtain ⟨e1, e2, e3, e4⟩ := one_div hD3
    have hB3 : Below w.heap.size w w3 := grown_below hB0 hG3 hB0.size hgB
    have hO3 := own_of_at (B := w.heap.size) (cap := cap) hA3 hgB (by rw [e4]; exact HRR.out) hcap.2
    rw [e4] at hO3
    have cT := trim_own _ _ cur w3 e3 (by omega) hO3
    rw [e1] at cT
    have CT := Lib.hid cT
    have hleft : left < 4294967296 := by have := hD3.2.2; omega
    have E2 := Lib.hid e2
    clear hA3 hD3 hG3 e1 e2 e3 e4 cT hO3 CD hc2 hB0
    go_wp2_with fail
    refine CT.out.mono ?_
    rintro e w' ⟨⟨v', rfl, hO4, hbl⟩, rfl⟩
    have cM := from_small left w3 hleft
    have CM := Lib.hid cM
    have HO4 := Lib.hid hO4
    have HBL := Lib.hid hbl
    clear cM hO4 hbl CT
    go_wp2_with fail
    refine CM.out.mono ?_
    rintro e w5 ⟨v2, rfl, hO5, hB5⟩
    have hap := own_apart HO4.out (Nat.le_refl _) hO5
    have h4 := HO4.out.below hB5
    have h5 := hO5.mono hB3.size
    rw [E2.out] at h5
    have H4 := Lib.hid h4
    have H5 := Lib.hid h5
    have HAP := Lib.hid hap
    have hBz : Below w.heap.size w w5 := hB3.trans (hB5.mono hB3.size)
    clear hap h4 h5 hO5 hB5 CM
    go_wp2
    go_ret3
    exact ⟨_, _, by rw [HR.out]; rfl, by rw [HR.out]; exact H4.out, by rw [HR.out]; exact H5.out, HAP.out, hBz⟩
  · have hb1 : ((ys.length : Int) == 1) = false := by rw [beq_eq_false_iff_ne]; omega
    have hy2 : 2 ≤ ys.length := by omega
    clear hlt hyp hy1
    go_enter Tryd.func21, Tryd.ntmps21
    go_wp2_with fail
    refine (CV.out _ hra).mono ?_
    rintro e w' ⟨rfl, rfl⟩
    go_wp2_with fail
    refine (CU.out _ hrb).mono ?_
    rintro e w' ⟨rfl, rfl⟩
    go_wp2_with fail
    refine CC.out.mono ?_
    rintro e w' ⟨rfl, nd, rfl⟩
    have hBn := below_drewN' (Below.refl w.heap.size w) nd
    have cL := divLong_any A A' ca cb xs ys (w.drewN nd) hx hny hy2 hxl hxn (hra.below hBn) (hrb.below hBn)
    have CL := Lib.hid cL
    clear cL CC
    go_wp2_with fail
    refine CL.out.mono ?_
    rintro e w3 ⟨v, v', qs, rs, rfl, hq, hr, lq, lr, eq, er, nq, nr, hap, hB3⟩
    have cT := trim_own _ _ qs w3 lq (by omega) hq
    have cS := trim_own _ _ rs w3 lr (by omega) hr
    rw [eq] at cT
    rw [er] at cS
    have CT := Lib.hid cT
    have CS := Lib.hid cS
    have HAP := Lib.hid hap
    clear cT cS hq hr lq lr eq er nq nr hap CL
    go_wp2_with fail
    refine CT.out.mono ?_
    rintro e w' ⟨⟨v2, rfl, hO4, hbl⟩, rfl⟩
    have HO4 := Lib.hid hO4
    have HBL := Lib.hid hbl
    clear hO4 hbl
    go_wp2_with fail
    refine CS.out.mono ?_
    rintro e w' ⟨⟨v3, rfl, hO5, hbl⟩, rfl⟩
    have HO5 := Lib.hid hO5
    have hap2 := HAP.out
    rw [← HBL.out, ← hbl] at hap2
    have HAP2 := Lib.hid hap2
    clear hO5 hbl hap2
    go_wp2
    go_ret3
    exact ⟨_, _, by rw [HR.out]; rfl, by rw [HR.out]; exact HO4.out, by rw [HR.out]; exact HO5.out, .inr HAP2.out, hBn.trans hB3⟩
end Go.Proofs.YtflnackpkcldjaaDoor
