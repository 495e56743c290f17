/- The law NatTexts, walked. -/
import Derived.Test.YtflnackpkcldjaaDoorNatRj
import Derived.Test.YtflnackpkcldjaaDoorNatRi
namespace Go.Proofs.YtflnackpkcldjaaDoor
open Go.RowKit Go.Lib

theorem dig4_pv {l : List UInt8} (h : Dec l) : (dig D4 (pv l)).length ≤ l.length := by
  rw [dig_len_le (by decide)]
  exact Nat.lt_of_lt_of_le (pv_lt h) (Nat.pow_le_pow_left (by decide) _)
set_option maxRecDepth 100000 in
set_option maxHeartbeats 8000000 in
theorem natTexts_yes (A : Option Addr) (ca : Nat) (xs : List Nat) (s : ByteArray) (w : World) (hx : Lim B32 xs) (hxn : xs.length ≤ 400) (hsn : s.size ≤ 3000) (hA : A = none → ca = 0) (hra : Rd .u32 w A xs) (hvx : vld xs = true) :
    Calls Tryd.prog 5 #[.slice A xs.length ca, .string s] w fun e w' => e = .returned (.bool true) ∧ Below w.heap.size w w' := by
  have CF := Lib.hid (fixed_any w)
  have cX := fun (W : World) (h : Rd .u32 W A xs) => refValid_any A ca xs W (by omega) hx h
  rw [hvx] at cX
  have cT := fun (W : World) (h : Rd .u32 W A xs) => text_any A ca xs W hx (by omega) hA h
  have hT : textRes xs = (decs (vl B32 xs), 0) := by rw [textRes, if_pos hvx]
  have oA := fun (W : World) (h : Rd .u32 W A xs) => rof_any A ca xs W hx (by omega) h
  have la := dig4_len hx
  have lx : (dig D4 (vl B32 xs)).length ≤ 1200 := by omega
  rw [hT] at cT
  obtain ⟨a, ha⟩ : ∃ a, vl B32 xs = a := ⟨_, rfl⟩
  rw [ha] at cT oA lx
  have rT := fun (A1 : Option Addr) (c1 : Nat) (W : World) (h : Rd .i64 W A1 (dig D4 a)) => rtext_any A1 c1 (dig D4 a) W (dig_norm (by decide) a) (by omega) h
  rw [dig_vl (by decide)] at rT
  obtain ⟨S, hS⟩ : ∃ S : ByteArray, (⟨(decs a).toArray⟩ : ByteArray) = S := ⟨_, rfl⟩
  replace cT : ∀ (W : World), Rd .u32 W A xs → Calls Tryd.prog 22 #[.slice A xs.length ca] W fun e w' => e = .returned (.tuple #[.string S, .int .i64 0]) ∧ Below W.heap.size W w' := by rw [← hS]; exact cT
  rw [hS] at rT
  have cP := fun (W : World) => parse_any s W (by omega)
  have rP := fun (W : World) => rparse_any s W (by omega)
  have hpr : parseRes s = resF (isDec s) (pv s.data.toList) := rfl
  have hz : isDec s = true → rparRes s = dig D4 (pv s.data.toList) := fun h => by rw [rparRes, if_pos h]
  have hl : isDec s = true → (dig D4 (pv s.data.toList)).length ≤ 1000000 := fun h => by have := dig4_pv (isDec_iff.1 h).2; rw [ba_len] at this; omega
  rw [hpr] at cP
  obtain ⟨f, hf⟩ : ∃ f, isDec s = f := ⟨_, rfl⟩
  obtain ⟨n, hn⟩ : ∃ n, pv s.data.toList = n := ⟨_, rfl⟩
  obtain ⟨zs, hzs⟩ : ∃ zs, rparRes s = zs := ⟨_, rfl⟩
  rw [hf, hn] at cP hz hl
  rw [hzs] at hz
  rw [hf, hzs] at rP
  obtain ⟨x, hX⟩ : ∃ x, resF f n = x := ⟨_, rfl⟩
  rw [hX] at cP
  have nA := fun (A1 A2 : Option Addr) (c1 c2 : Nat) (W : World) (h1 : Rd .u32 W A1 x.1) (h2 : Rd .i64 W A2 zs) => ans_any A1 A2 c1 c2 n f x zs W hX hz hl h1 h2
  have cX' := Lib.hid cX
  have cT' := Lib.hid cT
  have cP' := Lib.hid cP
  have rP' := Lib.hid rP
  have nA' := Lib.hid nA
  have oA' := Lib.hid oA
  have rT' := Lib.hid rT
  clear cX cT cP rP nA oA rT hT la lx ha hS hpr hz hl hf hn hzs hX hvx
  go_enter Tryd.func5, Tryd.ntmps5
  go_wp2_with fail
  refine CF.out.mono ?_
  rintro e w0 ⟨rfl, hB⟩
  clear CF
  go_wp2_with fail
  with_reducible refine (cT'.out _ (hra.below hB)).mono ?_
  rintro e w1 ⟨rfl, hBn⟩
  have hB := hB.trans (hBn.mono hB.size)
  clear hBn
  go_wp2_with fail
  with_reducible refine (cX'.out _ (hra.below hB)).mono ?_
  rintro e w' ⟨rfl, rfl⟩
  go_wp2_with fail
  with_reducible refine (oA'.out _ (hra.below hB)).mono ?_
  rintro e w2 ⟨v, rfl, hO, hBn⟩
  obtain ⟨Ax, cx, rfl, ex⟩ := hO.slice_
  have hB := hB.trans (hBn.mono hB.size)
  have Qx : Hid (Rd .i64 w2 Ax (dig D4 a)) := hO.rd
  clear hO hBn
  go_wp2_with fail
  with_reducible refine (rT'.out _ _ _ Qx.out).mono ?_
  rintro e w3 ⟨rfl, hBn⟩
  have Qx := Lib.hid (Qx.out.below hBn)
  have hB := hB.trans (hBn.mono hB.size)
  clear hBn
  clear Qx
  go_wp2_with fail
  with_reducible refine (cP'.out _).mono ?_
  rintro e w4 ⟨v, rfl, hO, hBn⟩
  replace hO : Own .u32 w4 w3.heap.size 47 v (x.1) := hO
  obtain ⟨Ap, cp, rfl, ep⟩ := hO.slice_
  have hB := hB.trans (hBn.mono hB.size)
  have Qp : Hid (Rd .u32 w4 Ap (x.1)) := hO.rd
  clear hO hBn
  go_wp2_with fail
  with_reducible refine (rP'.out _).mono ?_
  rintro e w5 ⟨v, rfl, hO, hBn⟩
  obtain ⟨Ar, cr, rfl, er⟩ := hO.slice_
  have Qp := Lib.hid (Qp.out.below hBn)
  have hB := hB.trans (hBn.mono hB.size)
  have Qr : Hid (Rd .i64 w5 Ar (zs)) := hO.rd
  clear hO hBn
  go_wp2_with fail
  with_reducible refine (nA'.out _ _ _ _ _ Qp.out Qr.out).mono ?_
  rintro e w6 ⟨rfl, hBn⟩
  have Qp := Lib.hid (Qp.out.below hBn)
  have Qr := Lib.hid (Qr.out.below hBn)
  have hB := hB.trans (hBn.mono hB.size)
  clear hBn
  go_wp2
  go_ret
  exact ⟨rfl, hB⟩
set_option maxRecDepth 100000 in
set_option maxHeartbeats 8000000 in
theorem natTexts_no (A : Option Addr) (ca : Nat) (xs : List Nat) (s : ByteArray) (w : World) (hx : Lim B32 xs) (hxn : xs.length ≤ 400) (hsn : s.size ≤ 3000) (hA : A = none → ca = 0) (hra : Rd .u32 w A xs) (hvx : vld xs = false) :
    Calls Tryd.prog 5 #[.slice A xs.length ca, .string s] w fun e w' => e = .returned (.bool true) ∧ Below w.heap.size w w' := by
  have CF := Lib.hid (fixed_any w)
  have cX := fun (W : World) (h : Rd .u32 W A xs) => refValid_any A ca xs W (by omega) hx h
  rw [hvx] at cX
  have cT := fun (W : World) (h : Rd .u32 W A xs) => text_any A ca xs W hx (by omega) hA h
  have hT : textRes xs = ([], 30) := by rw [textRes, if_neg (by rw [hvx]; decide)]
  rw [hT] at cT
  replace cT : ∀ (W : World), Rd .u32 W A xs → Calls Tryd.prog 22 #[.slice A xs.length ca] W fun e w' => e = .returned (.tuple #[.string ⟨#[]⟩, .int .i64 30]) ∧ Below W.heap.size W w' := cT
  have cP := fun (W : World) => parse_any s W (by omega)
  have rP := fun (W : World) => rparse_any s W (by omega)
  have hpr : parseRes s = resF (isDec s) (pv s.data.toList) := rfl
  have hz : isDec s = true → rparRes s = dig D4 (pv s.data.toList) := fun h => by rw [rparRes, if_pos h]
  have hl : isDec s = true → (dig D4 (pv s.data.toList)).length ≤ 1000000 := fun h => by have := dig4_pv (isDec_iff.1 h).2; rw [ba_len] at this; omega
  rw [hpr] at cP
  obtain ⟨f, hf⟩ : ∃ f, isDec s = f := ⟨_, rfl⟩
  obtain ⟨n, hn⟩ : ∃ n, pv s.data.toList = n := ⟨_, rfl⟩
  obtain ⟨zs, hzs⟩ : ∃ zs, rparRes s = zs := ⟨_, rfl⟩
  rw [hf, hn] at cP hz hl
  rw [hzs] at hz
  rw [hf, hzs] at rP
  obtain ⟨x, hX⟩ : ∃ x, resF f n = x := ⟨_, rfl⟩
  rw [hX] at cP
  have nA := fun (A1 A2 : Option Addr) (c1 c2 : Nat) (W : World) (h1 : Rd .u32 W A1 x.1) (h2 : Rd .i64 W A2 zs) => ans_any A1 A2 c1 c2 n f x zs W hX hz hl h1 h2
  have cX' := Lib.hid cX
  have cT' := Lib.hid cT
  have cP' := Lib.hid cP
  have rP' := Lib.hid rP
  have nA' := Lib.hid nA
  clear cX cT cP rP nA hT hpr hz hl hf hn hzs hX hvx
  go_enter Tryd.func5, Tryd.ntmps5
  go_wp2_with fail
  refine CF.out.mono ?_
  rintro e w0 ⟨rfl, hB⟩
  clear CF
  go_wp2_with fail
  with_reducible refine (cT'.out _ (hra.below hB)).mono ?_
  rintro e w1 ⟨rfl, hBn⟩
  have hB := hB.trans (hBn.mono hB.size)
  clear hBn
  go_wp2_with fail
  with_reducible refine (cX'.out _ (hra.below hB)).mono ?_
  rintro e w' ⟨rfl, rfl⟩
  go_wp2_with fail
  with_reducible refine (cP'.out _).mono ?_
  rintro e w2 ⟨v, rfl, hO, hBn⟩
  replace hO : Own .u32 w2 w1.heap.size 47 v (x.1) := hO
  obtain ⟨Ap, cp, rfl, ep⟩ := hO.slice_
  have hB := hB.trans (hBn.mono hB.size)
  have Qp : Hid (Rd .u32 w2 Ap (x.1)) := hO.rd
  clear hO hBn
  go_wp2_with fail
  with_reducible refine (rP'.out _).mono ?_
  rintro e w3 ⟨v, rfl, hO, hBn⟩
  obtain ⟨Ar, cr, rfl, er⟩ := hO.slice_
  have Qp := Lib.hid (Qp.out.below hBn)
  have hB := hB.trans (hBn.mono hB.size)
  have Qr : Hid (Rd .i64 w3 Ar (zs)) := hO.rd
  clear hO hBn
  go_wp2_with fail
  with_reducible refine (nA'.out _ _ _ _ _ Qp.out Qr.out).mono ?_
  rintro e w4 ⟨rfl, hBn⟩
  have Qp := Lib.hid (Qp.out.below hBn)
  have Qr := Lib.hid (Qr.out.below hBn)
  have hB := hB.trans (hBn.mono hB.size)
  clear hBn
  go_wp2
  go_ret
  exact ⟨rfl, hB⟩
set_option maxRecDepth 100000 in
set_option maxHeartbeats 1000000 in
theorem natTexts_any (A : Option Addr) (ca : Nat) (xs : List Nat) (s : ByteArray) (w : World) (hx : Lim B32 xs) (hA : A = none → ca = 0) (hra : Rd .u32 w A xs) :
    Calls Tryd.prog 5 #[.slice A xs.length ca, .string s] w fun e w' => e = .returned (.bool true) ∧ Below w.heap.size w w' := by
  have CF := Lib.hid (fixed_any w)
  by_cases hla : 400 < xs.length
  · go_enter Tryd.func5, Tryd.ntmps5
    go_wp2_with fail
    refine CF.out.mono ?_
    rintro e w0 ⟨rfl, hB⟩
    go_wp2
    go_ret
    exact ⟨rfl, hB⟩
  by_cases hlb : 3000 < s.size
  · go_enter Tryd.func5, Tryd.ntmps5
    go_wp2_with fail
    refine CF.out.mono ?_
    rintro e w0 ⟨rfl, hB⟩
    go_wp2
    go_ret
    exact ⟨rfl, hB⟩
  cases hvx : vld xs with
  | false => exact natTexts_no A ca xs s w hx (by omega) (by omega) hA hra hvx
  | true => exact natTexts_yes A ca xs s w hx (by omega) (by omega) hA hra hvx
end Go.Proofs.YtflnackpkcldjaaDoor
