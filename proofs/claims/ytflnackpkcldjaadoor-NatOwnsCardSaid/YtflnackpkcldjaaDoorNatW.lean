/- Contracts of layer 2: Sub, Bits, Shl. -/
import Derived.Test.YtflnackpkcldjaaDoorNatV
namespace Go.Proofs.YtflnackpkcldjaaDoor
open Go.RowKit Go.Lib

theorem takeFrom_nil (A A' : Option Addr) (cap cb n : Nat) (w : World) :
    Calls Tryd.prog 37 #[.slice A 0 cap, .slice A' n cb, .int .u32 1] w fun e w' => e = .returned (.bool false) ∧ w = w' := by
  go_enter Tryd.func37, Tryd.ntmps37
  go_wp2
  refine wp_loop_rounds 1 ?_
  rw [rounds_succ]
  go_wp2
  go_ret
  exact ⟨rfl, rfl⟩
/-- What Sub answers. -/
noncomputable def subRes (xs ys : List Nat) : List Nat × Int :=
  if vld xs = true ∧ vld ys = true then (if vl B32 xs < vl B32 ys then ([], 1) else (dig B32 (vl B32 xs - vl B32 ys), 0)) else ([], 30)
theorem sub_diff {B : Nat} {xs ys cur : List Nat} {m r : Nat} (h : TakeR B 1 xs ys cur xs.length m r) (hl : ys.length ≤ xs.length) (hle : vl B ys ≤ vl B xs) : vl B cur = vl B xs - vl B ys ∧ Lim B cur ∧ cur.length = xs.length := by
  obtain ⟨h1, h2, h3, h4, _⟩ := h
  have hm : m = 0 := by omega
  subst hm
  rw [vl_take_all (by rw [h1.len]; exact Nat.le_refl _), vl_take_all hl, vl_take_all (Nat.le_refl _), Nat.one_mul, Nat.zero_add] at h2
  have h5 := vl_lt h1.lim
  rw [h1.len] at h5
  have hr : r = 0 := by
    rcases Nat.eq_zero_or_pos r with h | h
    · exact h
    · have a : B ^ xs.length * 1 ≤ B ^ xs.length * r := Nat.mul_le_mul_left _ h
      omega
  subst hr
  exact ⟨by omega, h1.lim, h1.len⟩

set_option maxRecDepth 100000 in
set_option maxHeartbeats 4000000 in
theorem sub_any (A A' : Option Addr) (ca cb : Nat) (xs ys : List Nat) (w : World) (hx : Lim B32 xs) (hy : Lim B32 ys) (hxn : xs.length ≤ 1000) (hyn : ys.length ≤ 1000) (hA : A = none → ca = 0) (hra : Rd .u32 w A xs) (hrb : Rd .u32 w A' ys) :
    Calls Tryd.prog 14 #[.slice A xs.length ca, .slice A' ys.length cb] w (RowErr w.heap.size w (subRes xs ys)) := by
  have cV := fun (W : World) (h : Rd .u32 W A xs) => valid_any A ca xs W (by omega) hx h
  have cU := fun (W : World) (h : Rd .u32 W A' ys) => valid_any A' cb ys W (by omega) hy h
  by_cases hvx : vld xs = true
  case neg =>
    have hvf : vld xs = false := by simpa using hvx
    have HR := Lib.hid (show subRes xs ys = ([], 30) by rw [subRes, if_neg (fun h => hvx h.1)])
    rw [hvf] at cV
    have CV := Lib.hid cV
    clear cV cU hvx hvf
    go_enter Tryd.func14, Tryd.ntmps14
    go_wp2_with fail
    refine (CV.out _ hra).mono ?_
    rintro e w' ⟨rfl, rfl⟩
    go_wp2
    go_ret2
    exact ⟨_, by rw [HR.out]; rfl, by rw [HR.out]; exact Own.nil _ _ _, Below.refl _ _⟩
  by_cases hvy : vld ys = true
  case neg =>
    have hvf : vld ys = false := by simpa using hvy
    have HR := Lib.hid (show subRes xs ys = ([], 30) by rw [subRes, if_neg (fun h => hvy h.2)])
    rw [hvx] at cV
    rw [hvf] at cU
    have CV := Lib.hid cV
    have CU := Lib.hid cU
    clear cV cU hvx hvy hvf
    go_enter Tryd.func14, Tryd.ntmps14
    go_wp2_with fail
    refine (CV.out _ hra).mono ?_
    rintro e w' ⟨rfl, rfl⟩
    go_wp2_with fail
    refine (CU.out _ hrb).mono ?_
    rintro e w' ⟨rfl, rfl⟩
    go_wp2
    go_ret2
    exact ⟨_, by rw [HR.out]; rfl, by rw [HR.out]; exact Own.nil _ _ _, Below.refl _ _⟩
  have hnx := vld_norm hx hvx
  have hny := vld_norm hy hvy
  have cC := cmp_any A A' ca cb xs ys w hnx hny (by omega) (by omega) hra hrb
  by_cases hlt : vl B32 xs < vl B32 ys
  · have HR := Lib.hid (show subRes xs ys = ([], 1) by rw [subRes, if_pos ⟨hvx, hvy⟩, if_pos hlt])
    rw [hvx] at cV
    rw [hvy] at cU
    rw [cmpZ_lt hlt] at cC
    have CV := Lib.hid cV
    have CU := Lib.hid cU
    have CC := Lib.hid cC
    clear cV cU hvx hvy cC hlt
    go_enter Tryd.func14, Tryd.ntmps14
    go_wp2_with fail
    refine (CV.out _ hra).mono ?_
    rintro e w' ⟨rfl, rfl⟩
    go_wp2_with fail
    refine (CU.out _ hrb).mono ?_
    rintro e w' ⟨rfl, rfl⟩
    go_wp2_with fail
    refine CC.out.mono ?_
    rintro e w' ⟨rfl, nd, rfl⟩
    go_wp2
    go_ret2
    exact ⟨_, by rw [HR.out]; rfl, by rw [HR.out]; exact Own.nil _ _ _, below_drewN' (Below.refl _ _) nd⟩
  have HR := Lib.hid (show subRes xs ys = (dig B32 (vl B32 xs - vl B32 ys), 0) by rw [subRes, if_pos ⟨hvx, hvy⟩, if_neg hlt])
  have hcz : ¬ cmpZ (vl B32 xs) (vl B32 ys) < 0 := by unfold cmpZ; split <;> omega
  obtain ⟨z, hz⟩ : ∃ z, cmpZ (vl B32 xs) (vl B32 ys) = z := ⟨_, rfl⟩
  rw [hz] at cC hcz
  have hxl : ys.length ≤ xs.length := by
    rcases Nat.lt_or_ge xs.length ys.length with h | h
    · exact absurd (norm_len_lt (by decide) hnx.1 hny.2 h) hlt
    · exact h
  rw [hvx] at cV
  rw [hvy] at cU
  have CV := Lib.hid cV
  have CU := Lib.hid cU
  have CC := Lib.hid cC
  have HLE := Lib.hid (show vl B32 ys ≤ vl B32 xs by omega)
  clear cV cU hvx hvy cC hlt hz
  go_enter Tryd.func14, Tryd.ntmps14
  go_wp2_with fail
  refine (CV.out _ hra).mono ?_
  rintro e w' ⟨rfl, rfl⟩
  go_wp2_with fail
  refine (CU.out _ hrb).mono ?_
  rintro e w' ⟨rfl, rfl⟩
  go_wp2_with fail
  refine CC.out.mono ?_
  rintro e w' ⟨rfl, nd, rfl⟩
  have hBn := below_drewN' (Below.refl w.heap.size w) nd
  have cF := fresh_any A ca xs (w.drewN nd) (by omega) (hra.below hBn) hA
  have CF := Lib.hid cF
  clear cF CC
  go_wp2_with fail
  refine CF.out.mono ?_
  rintro e w2 ⟨v, rfl, hO, hB⟩
  have hB0 : Below w.heap.size w w2 := hBn.trans hB
  clear CF
  by_cases hx0 : xs.length = 0
  · have hxe : xs = [] := List.eq_nil_of_length_eq_zero hx0
    obtain ⟨Av, cap, hv, _⟩ := hO.slice
    rw [hx0] at hv
    subst hv
    have CT := Lib.hid (takeFrom_nil Av A' cap cb ys.length w2)
    have cM := trim_own _ _ xs w2 hx (by omega) hO
    have hye : vl B32 ys = 0 := by
      have := HLE.out
      rw [hxe, vl_nil] at this
      omega
    have HX := Lib.hid (show dig B32 (vl B32 xs) = dig B32 (vl B32 xs - vl B32 ys) by rw [hye, Nat.sub_zero])
    have CM := Lib.hid cM
    clear hxe hx0 cM hye hO hB
    go_wp2_with fail
    refine CT.out.mono ?_
    rintro e w' ⟨rfl, rfl⟩
    go_wp2_with fail
    refine CM.out.mono ?_
    rintro e w' ⟨⟨v', rfl, hO4, _⟩, rfl⟩
    have HO4 := Lib.hid hO4
    clear hO4 CM CT
    go_wp2
    go_ret2
    exact ⟨_, by rw [HR.out]; rfl, by rw [HR.out, ← HX.out]; exact HO4.out, hB0⟩
  · obtain ⟨g, cap, rfl, hgB, hcap⟩ := hO.form (by omega)
    obtain ⟨R, hAt, hR⟩ := at_of_own hO
    have cT := takeFrom_any g 0 cap cb 1 A' 47 [] R xs ys w2 hAt rfl hx hy (by omega) hxl (by omega) (hrb.below hB0) (fun h0 => hrb.off h0 hgB)
    have CT := Lib.hid cT
    have HRR := Lib.hid hR
    clear cT hO hAt hR hB
    go_wp2_with fail
    refine CT.out.mono ?_
    rintro e w3 ⟨⟨cur, m, r, hA3, hT3, rfl⟩, hG3⟩
    obtain ⟨e1, e2, e3⟩ := sub_diff (xs := xs) (ys := ys) (cur := cur) (m := m) (r := r) hT3 hxl HLE.out
    have hB3 : Below w.heap.size w w3 := grown_below hB0 hG3 hB0.size hgB
    have hO3 := own_of_at (B := w.heap.size) (cap := cap) hA3 hgB (by rw [e3]; exact HRR.out) hcap.2
    rw [e3] at hO3
    have cM := trim_own _ _ cur w3 e2 (by omega) hO3
    rw [e1] at cM
    have CM := Lib.hid cM
    clear hA3 hT3 hG3 e1 e2 e3 cM hO3 CT hB0
    go_wp2_with fail
    refine CM.out.mono ?_
    rintro e w' ⟨⟨v', rfl, hO4, _⟩, rfl⟩
    have HO4 := Lib.hid hO4
    clear hO4 CM
    go_wp2
    go_ret2
    exact ⟨_, by rw [HR.out]; rfl, by rw [HR.out]; exact HO4.out, hB3⟩

/-- How many binary digits. -/
def bitsN (xs : List Nat) : Nat := if xs = [] then 0 else (xs.length - 1) * 32 + Lib.bitLen (xs.getD (xs.length - 1) 0)
set_option maxRecDepth 100000 in
set_option maxHeartbeats 1000000 in
theorem bits_any (A : Option Addr) (ca : Nat) (xs : List Nat) (w : World) (hx : Lim B32 xs) (hxn : xs.length ≤ 1000) (hra : Rd .u32 w A xs) :
    Calls Tryd.prog 28 #[.slice A xs.length ca] w fun e w' => e = .returned (.int .i64 (bitsN xs)) ∧ w = w' := by
  by_cases h0 : xs = []
  · have hb : ((xs.length : Int) == 0) = true := by rw [h0]; rfl
    have HR := Lib.hid (show bitsN xs = 0 by rw [bitsN, if_pos h0])
    clear h0
    go_enter Tryd.func28, Tryd.ntmps28
    go_wp2
    go_ret
    exact ⟨by rw [HR.out]; rfl, rfl⟩
  · have hl : 1 ≤ xs.length := List.length_pos_iff.2 h0
    have hb : ((xs.length : Int) == 0) = false := by rw [beq_eq_false_iff_ne]; omega
    obtain ⟨g, o, rfl, hc⟩ := hra (xs.length - 1) (by omega)
    obtain ⟨y, hye, hyk⟩ := lim32 hx (xs.length - 1) (by omega)
    rw [hye] at hc
    have HR := Lib.hid (show bitsN xs = (xs.length - 1) * 32 + Lib.bitLen y by rw [bitsN, if_neg h0, getD_of (by omega), hye])
    have cL := Tryd.bits_Len32 (y : Int) w (by omega) (by omega)
    rw [show ((y : Int)).toNat = y from rfl] at cL
    have hbl : Lib.bitLen y ≤ 64 := by
      by_cases hy0 : y = 0
      · subst hy0; decide
      · have e : Lib.bitLen y = Lib.bitLenAux 32 y := Lib.bitLenAux_fuel 32 y hyk 64 (by omega)
        have := (bitLenAux_bounds 32 y hyk hy0).2.1
        omega
    obtain ⟨b, hbb⟩ : ∃ b, Lib.bitLen y = b := ⟨_, rfl⟩
    rw [hbb] at cL hbl HR
    have CL := Lib.hid cL
    clear cL hye h0 hbb
    go_enter Tryd.func28, Tryd.ntmps28
    go_wp2_with fail
    refine CL.out.mono ?_
    rintro e w' ⟨rfl, rfl⟩
    go_wp2
    go_ret
    exact ⟨by rw [HR.out]; exact congrArg Ending.returned (vint (by omega)), rfl⟩
end Go.Proofs.YtflnackpkcldjaaDoor
