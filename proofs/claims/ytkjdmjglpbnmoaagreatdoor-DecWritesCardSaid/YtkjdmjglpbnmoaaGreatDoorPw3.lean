/- Several texts in one (Contracts of layer 2: Add, Sub; Contracts of layer 2: Bits; Contracts of layer 2: Shl, Mul; Contracts of layer 2: Mul; The definition of layer 2: trim, Small, Add; The definition of layer 2: Times, Cmp; The definition of layer 2: Times; The definition of layer 2: Pow, of two, five and ten; The definition of layer 2: Add, Times; The definition of layer 2: Mul; Contracts of layer 3: fits, word; Small facts on answers of layer 2). -/
import Derived.Laws.CopyOwn
import Derived.Test.YtkjdmjglpbnmoaaGreatDoorPw2
namespace Go.Proofs.YtkjdmjglpbnmoaaGreatDoor
open Go.RowKit Go.Lib

/-- A natural, or that an argument is none. -/
noncomputable def res2 (xs ys : List Nat) (n : Nat) : List Nat × Int := if vld xs = true ∧ vld ys = true then natRes n else ([], 30)
theorem add_sum' {B : Nat} (hB : 2 ≤ B) {xs ys cur : List Nat} {c : Nat} (hx : Lim B xs) (hy : Lim B ys) (hl : ys.length ≤ xs.length) (h : AddR B (xs ++ [0]) ys cur (xs.length + 1) c) : vl B cur = vl B xs + vl B ys ∧ Lim B cur ∧ cur.length = xs.length + 1 := by
  have hll : (xs ++ [0]).length = xs.length + 1 := by simp
  have ae := add_end (part := xs ++ [0]) (by rw [hll]; exact h) (by rw [hll]; omega)
  rw [hll, vl_snoc, Nat.mul_zero, Nat.add_zero] at ae
  obtain ⟨e1, e2, e3, e4⟩ := ae
  have h1 := vl_lt hx
  have h2 := vl_lt hy
  have h3 : B ^ ys.length ≤ B ^ xs.length := Nat.pow_le_pow_right (by omega) hl
  have h4 : B ^ (xs.length + 1) = B ^ xs.length * B := Nat.pow_succ ..
  have hc : c = 0 := by
    rcases Nat.eq_zero_or_pos c with h | h
    · exact h
    · have a : B ^ (xs.length + 1) * 1 ≤ B ^ (xs.length + 1) * c := Nat.mul_le_mul_left _ h
      have b : B ^ xs.length * 2 ≤ B ^ xs.length * B := Nat.mul_le_mul_left _ hB
      omega
  subst hc
  exact ⟨by omega, e2, e3⟩
theorem add_sum {xs ys cur : List Nat} {c : Nat} (hx : Lim B32 xs) (hy : Lim B32 ys) (hl : ys.length ≤ xs.length) (h : AddR B32 (xs ++ [0]) ys cur (xs.length + 1) c) : vl B32 cur = vl B32 xs + vl B32 ys ∧ Lim B32 cur ∧ cur.length = xs.length + 1 := add_sum' (by decide) hx hy hl h
/-- 'copy(out, a)' into a new row that has one place more. -/
theorem copy_new (A : Option Addr) (cap g : Nat) (xs : List Nat) (W : World) (hr : Rd .u32 W A xs) (hA : At .u32 W g 74 [] (List.replicate (xs.length + 1) 0) []) :
    ∃ w2, (Builtin.copy_ #[44, 44] 3 #[.slice (some ⟨g, 0, none⟩) (xs.length + 1) (xs.length + 1), .slice A xs.length cap]).run Tryz.prog W = .ok (.int .i64 (xs.length : Int)) w2 ∧ At .u32 w2 g 74 [] (xs ++ [0]) [] ∧ W.grownBy w2 (some g) := by
  obtain ⟨i0, hi, hz0, hz1, hz2⟩ := info_parts info_u32
  have hsz : (Tryz.prog.info? 74).map (·.size) = some 1 := by rw [hi]; simp [hz1]
  by_cases h0 : xs = []
  · subst h0
    exact ⟨W, run_copy_none (P := Tryz.prog) W 44 44 3 74 _ A _ _ _ cap Tryz.underlying44 hsz rfl, hA, grown_refl _ _⟩
  · obtain ⟨ga, oa, rfl, _⟩ := hr.at_ h0
    obtain ⟨cs, h1, h2⟩ := hA
    have hl : cs.size = xs.length + 1 := by rw [← Array.length_toList, h2]; simp [nums_len]
    have hrun := run_copy_row (P := Tryz.prog) W 44 44 3 74 g 0 (xs.length + 1) (xs.length + 1) ⟨ga, oa, none⟩ xs.length cap cs 74 (nums .u32 xs) Tryz.underlying44 hsz h1
      (by rw [nums_len]; exact (Nat.min_eq_left (Nat.le_succ _)).symm) hr.news (by rw [nums_len]; omega) (nums_one _ _)
    refine ⟨_, by rw [hrun, nums_len]; rfl, ⟨_, setRow_heap W g cs _ 74 (0, 0) h1, ?_⟩, ?_⟩
    · rw [h2, nums_append]
      simp [nums]
    · refine ⟨rfl, rfl, rfl, by simp [World.setRow], fun k _ hk => ?_⟩
      simp only [World.setRow, Array.getElem?_modify]
      rw [if_neg (fun e => hk (by rw [e]))]

set_option maxRecDepth 100000 in
set_option maxHeartbeats 4000000 in
theorem add_any (A A' : Option Addr) (ca cb : Nat) (xs ys : List Nat) (w : World) (hx : Lim B32 xs) (hy : Lim B32 ys) (hxn : xs.length ≤ 1000) (hyn : ys.length ≤ 1000) (hra : Rd .u32 w A xs) (hrb : Rd .u32 w A' ys) :
    Calls Tryz.prog 46 #[.slice A xs.length ca, .slice A' ys.length cb] w (RowErr w.heap.size w (res2 xs ys (vl B32 xs + vl B32 ys))) := by
  have cV := fun (W : World) (h : Rd .u32 W A xs) => valid_any A ca xs W (by omega) hx h
  have cU := fun (W : World) (h : Rd .u32 W A' ys) => valid_any A' cb ys W (by omega) hy h
  by_cases hvx : vld xs = true
  case neg =>
    have hvf : vld xs = false := by simpa using hvx
    have HR := Lib.hid (show res2 xs ys (vl B32 xs + vl B32 ys) = ([], 30) by rw [res2, if_neg (fun h => hvx h.1)])
    rw [hvf] at cV
    have CV := Lib.hid cV
    clear cV cU hvx hvf
    go_enter Tryz.func46, Tryz.ntmps46
    go_wp2_with fail
    refine (CV.out _ hra).mono ?_
    rintro e w' ⟨rfl, rfl⟩
    go_wp2
    go_ret2
    exact ⟨_, by rw [HR.out]; rfl, by rw [HR.out]; exact Own.nil _ _ _, Below.refl _ _⟩
  by_cases hvy : vld ys = true
  case neg =>
    have hvf : vld ys = false := by simpa using hvy
    have HR := Lib.hid (show res2 xs ys (vl B32 xs + vl B32 ys) = ([], 30) by rw [res2, if_neg (fun h => hvy h.2)])
    rw [hvx] at cV
    rw [hvf] at cU
    have CV := Lib.hid cV
    have CU := Lib.hid cU
    clear cV cU hvx hvy hvf
    go_enter Tryz.func46, Tryz.ntmps46
    go_wp2_with fail
    refine (CV.out _ hra).mono ?_
    rintro e w' ⟨rfl, rfl⟩
    go_wp2_with fail
    refine (CU.out _ hrb).mono ?_
    rintro e w' ⟨rfl, rfl⟩
    go_wp2
    go_ret2
    exact ⟨_, by rw [HR.out]; rfl, by rw [HR.out]; exact Own.nil _ _ _, Below.refl _ _⟩
  have HR := Lib.hid (show res2 xs ys (vl B32 xs + vl B32 ys) = natRes (vl B32 xs + vl B32 ys) by rw [res2, if_pos ⟨hvx, hvy⟩])
  rw [hvx] at cV
  rw [hvy] at cU
  have CV := Lib.hid cV
  have CU := Lib.hid cU
  obtain ⟨i0, hi, hz0, hz1, hz2⟩ := info_parts info_u32
  have hsz : (Tryz.prog.info? 74).map (·.size) = some 1 := by rw [hi]; simp [hz1]
  clear cV cU hvx hvy
  by_cases hlt : xs.length < ys.length
  · have hmk : ∀ W : World, (Instr.makeSlice 44 (.int .i64 ((ys.length : Int) + 1)) (.int .i64 ((ys.length : Int) + 1))).run Tryz.prog W = .ok (.slice (some ⟨W.heap.size, 0, none⟩) (ys.length + 1) (ys.length + 1)) (W.alloc (.cells (madeCells (Value.int .u32 0).cells ((ys.length + 1) * 1)) 74)) := fun W => by
      have := run_make (P := Tryz.prog) W 44 74 i0 (.int .u32 0) Tryz.underlying44 hi hz0 .i64 .i64 ((ys.length : Int) + 1) ((ys.length : Int) + 1) (by omega) (by omega) (by rw [hz2]; omega) (by omega)
      rw [hz1] at this
      exact this
    have HSUM := Lib.hid (show vl B32 ys + vl B32 xs = vl B32 xs + vl B32 ys by omega)
    go_enter Tryz.func46, Tryz.ntmps46
    go_wp2_with fail
    refine (CV.out _ hra).mono ?_
    rintro e w' ⟨rfl, rfl⟩
    go_wp2_with fail
    refine (CU.out _ hrb).mono ?_
    rintro e w' ⟨rfl, rfl⟩
    have hBa := (Below.refl w.heap.size w).alloc (Nat.le_refl _) (.cells (madeCells #[Value.int .u32 0] (ys.length + 1)) 74)
    have fN : At .u32 (w.alloc (.cells (madeCells #[Value.int .u32 0] (ys.length + 1)) 74)) w.heap.size 74 [] (List.replicate (ys.length + 1) 0) [] := by
      have := at_made w (ys.length + 1)
      rwa [Nat.mul_one] at this
    obtain ⟨w2, hcp, fA, hG2⟩ := copy_new A' cb w.heap.size ys _ (hrb.below hBa) fN
    have hB2 : Below w.heap.size w w2 := grown_below hBa hG2 hBa.size (Nat.le_refl _)
    clear fN hG2 hBa
    have cA := addTo_any w.heap.size 0 (ys.length + 1) ca A 74 [] [] (ys ++ [0]) xs w2 fA rfl (lim_append.2 ⟨hy, lim_one.2 (by decide)⟩) hx (by simp; omega) (by simp; omega) (hra.below hB2) (fun h0 => hra.off h0 (Nat.le_refl _))
    have hl1 : (ys ++ [0]).length = ys.length + 1 := by simp
    rw [hl1] at cA
    clear hl1
    have CA := Lib.hid cA
    clear cA fA
    go_wp2_with fail
    refine CA.out.mono ?_
    rintro e w3 ⟨rfl, ⟨cur, c, hA3, hR3⟩, hG3⟩
    obtain ⟨e1, e2, e3⟩ := add_sum (xs := ys) (ys := xs) (cur := cur) (c := c) hy hx (by omega) hR3
    have hB3 : Below w.heap.size w w3 := grown_below hB2 hG3 hB2.size (Nat.le_refl _)
    have hO3 := own_of_at (B := w.heap.size) (cap := ys.length + 1) hA3 (Nat.le_refl _) (by rw [e3]; rfl) (by unfold maxLen; omega)
    rw [e3] at hO3
    have cF := fit_own _ _ cur w3 e2 (by rw [e3]; omega) hO3
    rw [e1, HSUM.out] at cF
    have CF := Lib.hid cF
    clear hA3 hR3 hG3 e1 e2 e3 hO3 cF CA hB2 hcp
    go_wp2_with fail
    refine CF.out.mono ?_
    rintro e w4 ⟨v, rfl, hO4, hB4⟩
    obtain ⟨nr, hnr⟩ : ∃ nr, natRes (vl B32 xs + vl B32 ys) = nr := ⟨_, rfl⟩
    rw [hnr] at hO4 HR
    rw [hnr]
    obtain ⟨nl, ne⟩ := nr
    have HO4 := Lib.hid hO4
    clear hO4 hnr CF
    have hBz := hB3.trans hB4
    go_wp2
    go_ret2
    exact ⟨_, by rw [HR.out]; rfl, by rw [HR.out]; exact HO4.out, hBz⟩
  · have hmk : ∀ W : World, (Instr.makeSlice 44 (.int .i64 ((xs.length : Int) + 1)) (.int .i64 ((xs.length : Int) + 1))).run Tryz.prog W = .ok (.slice (some ⟨W.heap.size, 0, none⟩) (xs.length + 1) (xs.length + 1)) (W.alloc (.cells (madeCells (Value.int .u32 0).cells ((xs.length + 1) * 1)) 74)) := fun W => by
      have := run_make (P := Tryz.prog) W 44 74 i0 (.int .u32 0) Tryz.underlying44 hi hz0 .i64 .i64 ((xs.length : Int) + 1) ((xs.length : Int) + 1) (by omega) (by omega) (by rw [hz2]; omega) (by omega)
      rw [hz1] at this
      exact this
    go_enter Tryz.func46, Tryz.ntmps46
    go_wp2_with fail
    refine (CV.out _ hra).mono ?_
    rintro e w' ⟨rfl, rfl⟩
    go_wp2_with fail
    refine (CU.out _ hrb).mono ?_
    rintro e w' ⟨rfl, rfl⟩
    have hBa := (Below.refl w.heap.size w).alloc (Nat.le_refl _) (.cells (madeCells #[Value.int .u32 0] (xs.length + 1)) 74)
    have fN : At .u32 (w.alloc (.cells (madeCells #[Value.int .u32 0] (xs.length + 1)) 74)) w.heap.size 74 [] (List.replicate (xs.length + 1) 0) [] := by
      have := at_made w (xs.length + 1)
      rwa [Nat.mul_one] at this
    obtain ⟨w2, hcp, fA, hG2⟩ := copy_new A ca w.heap.size xs _ (hra.below hBa) fN
    have hB2 : Below w.heap.size w w2 := grown_below hBa hG2 hBa.size (Nat.le_refl _)
    clear fN hG2 hBa
    have cA := addTo_any w.heap.size 0 (xs.length + 1) cb A' 74 [] [] (xs ++ [0]) ys w2 fA rfl (lim_append.2 ⟨hx, lim_one.2 (by decide)⟩) hy (by simp; omega) (by simp; omega) (hrb.below hB2) (fun h0 => hrb.off h0 (Nat.le_refl _))
    have hl1 : (xs ++ [0]).length = xs.length + 1 := by simp
    rw [hl1] at cA
    clear hl1
    have CA := Lib.hid cA
    clear cA fA
    go_wp2_with fail
    refine CA.out.mono ?_
    rintro e w3 ⟨rfl, ⟨cur, c, hA3, hR3⟩, hG3⟩
    obtain ⟨e1, e2, e3⟩ := add_sum (xs := xs) (ys := ys) (cur := cur) (c := c) hx hy (by omega) hR3
    have hB3 : Below w.heap.size w w3 := grown_below hB2 hG3 hB2.size (Nat.le_refl _)
    have hO3 := own_of_at (B := w.heap.size) (cap := xs.length + 1) hA3 (Nat.le_refl _) (by rw [e3]; rfl) (by unfold maxLen; omega)
    rw [e3] at hO3
    have cF := fit_own _ _ cur w3 e2 (by rw [e3]; omega) hO3
    rw [e1] at cF
    have CF := Lib.hid cF
    clear hA3 hR3 hG3 e1 e2 e3 hO3 cF CA hB2 hcp
    go_wp2_with fail
    refine CF.out.mono ?_
    rintro e w4 ⟨v, rfl, hO4, hB4⟩
    obtain ⟨nr, hnr⟩ : ∃ nr, natRes (vl B32 xs + vl B32 ys) = nr := ⟨_, rfl⟩
    rw [hnr] at hO4 HR
    rw [hnr]
    obtain ⟨nl, ne⟩ := nr
    have HO4 := Lib.hid hO4
    clear hO4 hnr CF
    have hBz := hB3.trans hB4
    go_wp2
    go_ret2
    exact ⟨_, by rw [HR.out]; rfl, by rw [HR.out]; exact HO4.out, hBz⟩
end Go.Proofs.YtkjdmjglpbnmoaaGreatDoor

namespace Go.Proofs.YtkjdmjglpbnmoaaGreatDoor
open Go.RowKit Go.Lib

/-- How many binary digits. -/
def bitsN (xs : List Nat) : Nat := if xs = [] then 0 else (xs.length - 1) * 32 + Lib.bitLen (xs.getD (xs.length - 1) 0)
set_option maxRecDepth 100000 in
set_option maxHeartbeats 1000000 in
theorem bits_any (A : Option Addr) (ca : Nat) (xs : List Nat) (w : World) (hx : Lim B32 xs) (hxn : xs.length ≤ 1000) (hra : Rd .u32 w A xs) :
    Calls Tryz.prog 19 #[.slice A xs.length ca] w fun e w' => e = .returned (.int .i64 (bitsN xs)) ∧ w = w' := by
  by_cases h0 : xs = []
  · have hb : ((xs.length : Int) == 0) = true := by rw [h0]; rfl
    have HR := Lib.hid (show bitsN xs = 0 by rw [bitsN, if_pos h0])
    clear h0
    go_enter Tryz.func19, Tryz.ntmps19
    go_wp2
    go_ret
    exact ⟨by rw [HR.out]; rfl, rfl⟩
  · have hl : 1 ≤ xs.length := List.length_pos_iff.2 h0
    have hb : ((xs.length : Int) == 0) = false := by rw [beq_eq_false_iff_ne]; omega
    obtain ⟨g, o, rfl, hc⟩ := hra (xs.length - 1) (by omega)
    obtain ⟨y, hye, hyk⟩ := lim32 hx (xs.length - 1) (by omega)
    rw [hye] at hc
    have HR := Lib.hid (show bitsN xs = (xs.length - 1) * 32 + Lib.bitLen y by rw [bitsN, if_neg h0, getD_of (by omega), hye])
    have cL := Tryz.bits_Len32 (y : Int) w (by omega) (by omega)
    rw [show ((y : Int)).toNat = y from rfl] at cL
    have hbl : Lib.bitLen y ≤ 64 := by
      by_cases hy0 : y = 0
      · subst hy0; decide
      · have e : Lib.bitLen y = Lib.bitLenAux 32 y := Lib.bitLenAux_fuel 32 y hyk 64 (by omega)
        have := (bitLenAux_bounds 32 y hyk hy0).2.1
        omega
    obtain ⟨b, hbb⟩ : ∃ b, Lib.bitLen y = b := ⟨_, rfl⟩
    rw [hbb] at cL hbl HR
    have CL := Lib.hid cL
    clear cL hye h0 hbb
    go_enter Tryz.func19, Tryz.ntmps19
    go_wp2_with fail
    refine CL.out.mono ?_
    rintro e w' ⟨rfl, rfl⟩
    go_wp2
    go_ret
    exact ⟨by rw [HR.out]; exact congrArg Ending.returned (vint (by omega)), rfl⟩
end Go.Proofs.YtkjdmjglpbnmoaaGreatDoor

namespace Go.Proofs.YtkjdmjglpbnmoaaGreatDoor
open Go.RowKit Go.Lib

/-- What Shl answers. -/
noncomputable def shlRes (xs : List Nat) (k : Int) : List Nat × Int :=
  if vld xs = true then (if k < 0 then ([], 1) else if xs = [] then ([], 0) else if 8192 - (bitsN xs : Int) < k then ([], 3) else (dig B32 (vl B32 xs * 2 ^ k.toNat), 0)) else ([], 30)
theorem shl_value {xs As : List Nat} {low r k : Nat} (hv : vl B32 As = vl B32 xs * 2 ^ r) (hk : k = 32 * low + r) : vl B32 (List.replicate low 0 ++ As) = vl B32 xs * 2 ^ k := by
  rw [vl_append, vl_zeros, Nat.zero_add, List.length_replicate, hv, hk, Nat.pow_add, Nat.pow_mul]
  show (2 ^ 32) ^ low * (vl B32 xs * 2 ^ r) = _
  exact Nat.mul_left_comm _ _ _

set_option maxRecDepth 100000 in
set_option maxHeartbeats 4000000 in
theorem shl_any (A : Option Addr) (ca : Nat) (xs : List Nat) (k : Int) (w : World) (hx : Lim B32 xs) (hxn : xs.length ≤ 1000) (hk1 : -9223372036854775808 ≤ k) (hk2 : k ≤ 9223372036854775807) (hra : Rd .u32 w A xs) :
    Calls Tryz.prog 43 #[.slice A xs.length ca, .int .i64 k] w (RowErr w.heap.size w (shlRes xs k)) := by
  have cV := valid_any A ca xs w (by omega) hx hra
  by_cases hvx : vld xs = true
  case neg =>
    have hvf : vld xs = false := by simpa using hvx
    have HR := Lib.hid (show shlRes xs k = ([], 30) by rw [shlRes, if_neg hvx])
    rw [hvf] at cV
    have CV := Lib.hid cV
    clear cV hvx hvf
    go_enter Tryz.func43, Tryz.ntmps43
    go_wp2_with fail
    refine CV.out.mono ?_
    rintro e w' ⟨rfl, rfl⟩
    go_wp2
    go_ret2
    exact ⟨_, by rw [HR.out]; rfl, by rw [HR.out]; exact Own.nil _ _ _, Below.refl _ _⟩
  rw [hvx] at cV
  have CV := Lib.hid cV
  clear cV
  by_cases hk0 : k < 0
  · have HR := Lib.hid (show shlRes xs k = ([], 1) by rw [shlRes, if_pos hvx, if_pos hk0])
    clear hvx
    go_enter Tryz.func43, Tryz.ntmps43
    go_wp2_with fail
    refine CV.out.mono ?_
    rintro e w' ⟨rfl, rfl⟩
    go_wp2
    go_ret2
    exact ⟨_, by rw [HR.out]; rfl, by rw [HR.out]; exact Own.nil _ _ _, Below.refl _ _⟩
  obtain ⟨kn, rfl⟩ : ∃ kn : Nat, k = kn := ⟨k.toNat, by omega⟩
  by_cases h0 : xs = []
  · have HR := Lib.hid (show shlRes xs (kn : Int) = ([], 0) by rw [shlRes, if_pos hvx, if_neg hk0, if_pos h0])
    have hb : ((xs.length : Int) == 0) = true := by rw [h0]; rfl
    clear hvx h0
    go_enter Tryz.func43, Tryz.ntmps43
    go_wp2_with fail
    refine CV.out.mono ?_
    rintro e w' ⟨rfl, rfl⟩
    go_wp2
    go_ret2
    exact ⟨_, by rw [HR.out]; rfl, by rw [HR.out]; exact Own.nil _ _ _, Below.refl _ _⟩
  have hl : 1 ≤ xs.length := List.length_pos_iff.2 h0
  have hb : ((xs.length : Int) == 0) = false := by rw [beq_eq_false_iff_ne]; omega
  have hxl : xs.length ≤ 256 := (vld_iff.1 hvx).1
  have cB := bits_any A ca xs w hx hxn hra
  have hbn : bitsN xs ≤ 10000 := by
    rw [bitsN, if_neg h0]
    have hy := getD_lt hx (by decide) (xs.length - 1)
    by_cases hy0 : xs.getD (xs.length - 1) 0 = 0
    · rw [hy0]
      have : Lib.bitLen 0 = 0 := by decide
      omega
    · have e : Lib.bitLen (xs.getD (xs.length - 1) 0) = Lib.bitLenAux 32 (xs.getD (xs.length - 1) 0) := Lib.bitLenAux_fuel 32 _ hy 64 (by omega)
      have := (bitLenAux_bounds 32 _ hy hy0).2.1
      omega
  by_cases hbig : 8192 - (bitsN xs : Int) < (kn : Int)
  · have HR := Lib.hid (show shlRes xs (kn : Int) = ([], 3) by rw [shlRes, if_pos hvx, if_neg hk0, if_neg h0, if_pos hbig])
    obtain ⟨bn, hbe⟩ : ∃ bn, bitsN xs = bn := ⟨_, rfl⟩
    rw [hbe] at cB hbn hbig
    have CB := Lib.hid cB
    clear hvx h0 cB hbe
    go_enter Tryz.func43, Tryz.ntmps43
    go_wp2_with fail
    refine CV.out.mono ?_
    rintro e w' ⟨rfl, rfl⟩
    go_wp2_with fail
    refine CB.out.mono ?_
    rintro e w' ⟨rfl, rfl⟩
    go_wp2
    go_ret2
    exact ⟨_, by rw [HR.out]; rfl, by rw [HR.out]; exact Own.nil _ _ _, Below.refl _ _⟩
  have HR := Lib.hid (show shlRes xs (kn : Int) = (dig B32 (vl B32 xs * 2 ^ kn), 0) by rw [shlRes, if_pos hvx, if_neg hk0, if_neg h0, if_neg hbig]; rfl)
  obtain ⟨bn, hbe⟩ : ∃ bn, bitsN xs = bn := ⟨_, rfl⟩
  rw [hbe] at cB hbn hbig
  have CB := Lib.hid cB
  obtain ⟨low, hlow⟩ : ∃ low, kn / 32 = low := ⟨_, rfl⟩
  obtain ⟨r, hr⟩ : ∃ r, kn % 32 = r := ⟨_, rfl⟩
  have hlowi : (kn : Int) / 32 = (low : Int) := by omega
  have hri : (kn : Int) % 32 = (r : Int) := by omega
  have hr32 : r < 32 := by omega
  have hlb : low ≤ 256 := by omega
  have HK := Lib.hid (show kn = 32 * low + r by omega)
  obtain ⟨i0, hi, hz0, hz1, hz2⟩ := info_parts info_u32
  have hmk : ∀ W : World, (Instr.makeSlice 44 (.int .i64 ((low : Int) + (xs.length : Int) + 1)) (.int .i64 ((low : Int) + (xs.length : Int) + 1))).run Tryz.prog W = .ok (.slice (some ⟨W.heap.size, 0, none⟩) (low + xs.length + 1) (low + xs.length + 1)) (W.alloc (.cells (madeCells (Value.int .u32 0).cells ((low + xs.length + 1) * 1)) 74)) := fun W => by
    have := run_make (P := Tryz.prog) W 44 74 i0 (.int .u32 0) Tryz.underlying44 hi hz0 .i64 .i64 ((low : Int) + (xs.length : Int) + 1) ((low : Int) + (xs.length : Int) + 1) (by omega) (by omega) (by rw [hz2]; omega) (by omega)
    rw [hz1, show ((low : Int) + (xs.length : Int) + 1).toNat = low + xs.length + 1 by omega] at this
    exact this
  have HXN := Lib.hid h0
  clear hvx h0 cB hbe hlow hr hi hz0 hz1 hz2
  go_enter Tryz.func43, Tryz.ntmps43
  go_wp2_with fail
  refine CV.out.mono ?_
  rintro e w' ⟨rfl, rfl⟩
  go_wp2_with fail
  refine CB.out.mono ?_
  rintro e w' ⟨rfl, rfl⟩
  clear CV CB
  go_wp2_with fail
  rw [show low + xs.length + 1 - low = xs.length + 1 by omega]
  have fN : At .u32 (w.alloc (.cells (madeCells #[Value.int .u32 0] (low + xs.length + 1)) 74)) w.heap.size 74 (nums .u32 (List.replicate low 0)) (List.replicate (xs.length + 1) 0) [] := by
    have := at_made w (low + xs.length + 1)
    rw [Nat.mul_one] at this
    refine this.recut ?_
    rw [List.nil_append, List.append_nil, List.append_nil, ← nums_append, List.replicate_append_replicate, Nat.add_assoc]
  have hBa := (Below.refl w.heap.size w).alloc (Nat.le_refl _) (.cells (madeCells #[Value.int .u32 0] (low + xs.length + 1)) 74)
  have c1 := fun cap => shiftUp_any w.heap.size low cap ca r A 74 (nums .u32 (List.replicate low 0)) [] (List.replicate (xs.length + 1) 0) xs _ fN (by rw [nums_len, List.length_replicate]) (lim_zeros (by decide) _) hx (by simp; omega) (by simp) hr32 (hra.below hBa) (fun h => hra.off h (Nat.le_refl _))
  rw [List.length_replicate] at c1
  refine (c1 _).mono ?_
  clear c1 fN
  rintro e W2 ⟨rfl, ⟨cur, c, hS, hl1, _, hA1⟩, hG1⟩
  rw [List.length_replicate] at hl1 hA1
  rw [putTop, if_pos (Nat.lt_succ_self _)] at hA1
  obtain ⟨b1, b2, b3⟩ := shu_more hS hl1 (Nat.pow_le_pow_right (by omega) (show r ≤ 32 by omega) : 2 ^ r ≤ 2 ^ 32)
  obtain ⟨As, hAs⟩ : ∃ As, cur.set xs.length c = As := ⟨_, rfl⟩
  rw [hAs] at hA1 b1 b2 b3
  have hB2 : Below w.heap.size w W2 := grown_below hBa hG1 hBa.size (Nat.le_refl _)
  have fF : At .u32 W2 w.heap.size 74 [] (List.replicate low 0 ++ As) [] := hA1.recut (by rw [List.nil_append, List.append_nil, List.append_nil, nums_append])
  have hll : (List.replicate low 0 ++ As).length = low + xs.length + 1 := by rw [List.length_append, List.length_replicate, b2]; omega
  have hO := own_of_at (B := w.heap.size) (cap := low + xs.length + 1) fF (Nat.le_refl _) (by rw [hll]; rfl) (by unfold maxLen; omega)
  rw [hll] at hO
  have cM := trim_own _ _ _ W2 (lim_append.2 ⟨lim_zeros (by decide) low, b1⟩) (by rw [hll]; omega) hO
  rw [shl_value b3 HK.out] at cM
  have CM := Lib.hid cM
  clear cM hO hll fF hA1 hAs hS hl1 hG1 b1 b2 b3 hBa
  go_wp2_with fail
  refine CM.out.mono ?_
  rintro e w' ⟨⟨v', rfl, hO4, _⟩, rfl⟩
  have HO4 := Lib.hid hO4
  clear hO4 CM
  go_wp2
  go_ret2
  exact ⟨_, by rw [HR.out]; rfl, by rw [HR.out]; exact HO4.out, hB2⟩
end Go.Proofs.YtkjdmjglpbnmoaaGreatDoor

namespace Go.Proofs.YtkjdmjglpbnmoaaGreatDoor
open Go.RowKit Go.Lib

/-- The state of the inner loop of the product. -/
structure MulIn (B : Nat) (base cur : List Nat) (i j c x : Nat) (ys : List Nat) : Prop where
  len : cur.length = base.length
  lim : Lim B cur
  hc : c < B
  rest : cur.drop (i + ys.length) = base.drop (i + ys.length)
  eq : vl B cur + B ^ (i + j) * c = vl B base + B ^ i * (x * vl B (ys.take j))
theorem mulIn_start {B : Nat} (hB : 0 < B) {base : List Nat} (h : Lim B base) (i x : Nat) (ys : List Nat) : MulIn B base base i 0 0 x ys := ⟨rfl, h, hB, rfl, by simp [vl]⟩
theorem mulIn_step {B : Nat} {base cur ys : List Nat} {i j c x : Nat} (h : MulIn B base cur i j c x ys) (hx : x < B) (hy : Lim B ys) (hj : j < ys.length) (hi : i + j < cur.length) (z : Nat) (hz : z = c + (x * ys[j] + cur[i + j])) :
    MulIn B base (cur.set (i + j) (z % B)) i (j + 1) (z / B) x ys := by
  have b1 := lim_get hy j hj
  have b2 := lim_get h.lim (i + j) hi
  have hB : 0 < B := by omega
  refine ⟨by rw [List.length_set, h.len], lim_set h.lim (Nat.mod_lt _ hB), ?_, ?_, ?_⟩
  · apply Nat.div_lt_of_lt_mul
    have h1 : x * ys[j] ≤ (B - 1) * (B - 1) := Nat.mul_le_mul (by omega) (by omega)
    have h2 : (B - 1) * (B - 1) + (B - 1) + (B - 1) < B * B := by
      obtain ⟨b, rfl⟩ : ∃ b, B = b + 1 := ⟨B - 1, by omega⟩
      simp only [Nat.add_sub_cancel, Nat.add_mul, Nat.mul_add, Nat.mul_one, Nat.one_mul]
      omega
    have h3 := h.hc
    omega
  · rw [List.drop_set_of_lt (by omega), h.rest]
  · have e1 := vl_set B cur (i + j) (z % B) hi
    have e2 := h.eq
    have hd := digit_step (B := B) (P := B ^ (i + j)) (z := z)
    have e3 := congrArg (B ^ (i + j) * ·) hz
    have e4 : B ^ i * (x * (B ^ j * ys[j])) = B ^ (i + j) * (x * ys[j]) := by rw [Nat.pow_add, Nat.mul_left_comm x, Nat.mul_assoc]
    rw [vl_take_succ B ys j hj, show i + (j + 1) = (i + j) + 1 by omega, Nat.pow_succ]
    simp only [Nat.mul_add] at e3 ⊢
    rw [e4]
    omega
/-- One row of the product more. -/
theorem mul_row {B : Nat} {base cur xs ys : List Nat} {i c x : Nat} (h : MulIn B base cur i ys.length c x ys) (hv : vl B base = vl B (xs.take i) * vl B ys) (hi : i < xs.length) (hx : xs[i] = x) (hl : base.length = xs.length + ys.length)
    (hz : base.drop (i + ys.length) = List.replicate (xs.length - i) 0) :
    vl B (cur.set (i + ys.length) c) = vl B (xs.take (i + 1)) * vl B ys ∧ (cur.set (i + ys.length) c).drop (i + 1 + ys.length) = List.replicate (xs.length - (i + 1)) 0 ∧ Lim B (cur.set (i + ys.length) c) := by
  have hlen : i + ys.length < cur.length := by have := h.len; omega
  have h0 : cur[i + ys.length] = 0 := by
    have a := drop_get cur (i + ys.length) hlen
    rw [h.rest, hz, show xs.length - i = (xs.length - (i + 1)) + 1 by omega, List.replicate_succ] at a
    exact (List.cons.inj a).1.symm
  refine ⟨?_, ?_, lim_set h.lim h.hc⟩
  · have e1 := vl_set B cur (i + ys.length) c hlen
    have e2 := h.eq
    rw [h0, Nat.mul_zero, Nat.add_zero] at e1
    rw [vl_take_all (Nat.le_refl _), hv] at e2
    rw [e1, e2, vl_take_succ B xs i hi, hx, Nat.add_mul, Nat.mul_assoc]
  · rw [List.drop_set_of_lt (by omega), show i + 1 + ys.length = (i + ys.length) + 1 by omega, ← List.drop_drop, h.rest, hz, List.drop_replicate]
    congr 1
theorem mul_fits {x y d c : Nat} (hx : x < 4294967296) (hy : y < 4294967296) (hd : d < 4294967296) (hc : c < 4294967296) : ∃ p : Nat, x * y = p ∧ (x : Int) * (y : Int) = (p : Int) ∧ (p : Int) + (d : Int) + (c : Int) ≤ 18446744073709551615 := by
  have h : x * y ≤ 4294967295 * 4294967295 := Nat.mul_le_mul (by omega) (by omega)
  exact ⟨x * y, rfl, (Int.natCast_mul _ _).symm, by omega⟩

set_option maxRecDepth 100000 in
set_option maxHeartbeats 4000000 in
theorem mul_any (A A' : Option Addr) (ca cb : Nat) (xs ys : List Nat) (w : World) (hx : Lim B32 xs) (hy : Lim B32 ys) (hxn : xs.length ≤ 1000) (hyn : ys.length ≤ 1000) (hra : Rd .u32 w A xs) (hrb : Rd .u32 w A' ys) :
    Calls Tryz.prog 40 #[.slice A xs.length ca, .slice A' ys.length cb] w (RowErr w.heap.size w (res2 xs ys (vl B32 xs * vl B32 ys))) := by
  have cV := fun (W : World) (h : Rd .u32 W A xs) => valid_any A ca xs W (by omega) hx h
  have cU := fun (W : World) (h : Rd .u32 W A' ys) => valid_any A' cb ys W (by omega) hy h
  by_cases hvx : vld xs = true
  case neg =>
    have hvf : vld xs = false := by simpa using hvx
    have HR := Lib.hid (show res2 xs ys (vl B32 xs * vl B32 ys) = ([], 30) by rw [res2, if_neg (fun h => hvx h.1)])
    rw [hvf] at cV
    have CV := Lib.hid cV
    clear cV cU hvx hvf
    go_enter Tryz.func40, Tryz.ntmps40
    go_wp2_with fail
    refine (CV.out _ hra).mono ?_
    rintro e w' ⟨rfl, rfl⟩
    go_wp2
    go_ret2
    exact ⟨_, by rw [HR.out]; rfl, by rw [HR.out]; exact Own.nil _ _ _, Below.refl _ _⟩
  by_cases hvy : vld ys = true
  case neg =>
    have hvf : vld ys = false := by simpa using hvy
    have HR := Lib.hid (show res2 xs ys (vl B32 xs * vl B32 ys) = ([], 30) by rw [res2, if_neg (fun h => hvy h.2)])
    rw [hvx] at cV
    rw [hvf] at cU
    have CV := Lib.hid cV
    have CU := Lib.hid cU
    clear cV cU hvx hvy hvf
    go_enter Tryz.func40, Tryz.ntmps40
    go_wp2_with fail
    refine (CV.out _ hra).mono ?_
    rintro e w' ⟨rfl, rfl⟩
    go_wp2_with fail
    refine (CU.out _ hrb).mono ?_
    rintro e w' ⟨rfl, rfl⟩
    go_wp2
    go_ret2
    exact ⟨_, by rw [HR.out]; rfl, by rw [HR.out]; exact Own.nil _ _ _, Below.refl _ _⟩
  have HR := Lib.hid (show res2 xs ys (vl B32 xs * vl B32 ys) = natRes (vl B32 xs * vl B32 ys) by rw [res2, if_pos ⟨hvx, hvy⟩])
  rw [hvx] at cV
  rw [hvy] at cU
  have CV := Lib.hid cV
  have CU := Lib.hid cU
  obtain ⟨i0, hi, hz0, hz1, hz2⟩ := info_parts info_u32
  have hmk : ∀ W : World, (Instr.makeSlice 44 (.int .i64 ((xs.length : Int) + (ys.length : Int))) (.int .i64 ((xs.length : Int) + (ys.length : Int)))).run Tryz.prog W = .ok (.slice (some ⟨W.heap.size, 0, none⟩) (xs.length + ys.length) (xs.length + ys.length)) (W.alloc (.cells (madeCells (Value.int .u32 0).cells ((xs.length + ys.length) * 1)) 74)) := fun W => by
    have := run_make (P := Tryz.prog) W 44 74 i0 (.int .u32 0) Tryz.underlying44 hi hz0 .i64 .i64 ((xs.length : Int) + (ys.length : Int)) ((xs.length : Int) + (ys.length : Int)) (by omega) (by omega) (by rw [hz2]; omega) (by omega)
    rw [hz1, show ((xs.length : Int) + (ys.length : Int)).toNat = xs.length + ys.length by omega] at this
    exact this
  clear cV cU hvx hvy hi hz0 hz1 hz2
  go_enter Tryz.func40, Tryz.ntmps40
  go_wp2_with fail
  refine (CV.out _ hra).mono ?_
  rintro e w' ⟨rfl, rfl⟩
  go_wp2_with fail
  refine (CU.out _ hrb).mono ?_
  rintro e w' ⟨rfl, rfl⟩
  clear CV CU
  have fN : At .u32 (w.alloc (.cells (madeCells #[Value.int .u32 0] (xs.length + ys.length)) 74)) w.heap.size 74 [] (List.replicate (xs.length + ys.length) 0) [] := by
    have := at_made w (xs.length + ys.length)
    rwa [Nat.mul_one] at this
  have hBa := (Below.refl w.heap.size w).alloc (Nat.le_refl _) (.cells (madeCells #[Value.int .u32 0] (xs.length + ys.length)) 74)
  go_wp2
  obtain ⟨g, hg⟩ : ∃ g, w.heap.size = g := ⟨_, rfl⟩
  have hgB : w.heap.size ≤ g := by omega
  have HG := Lib.hid hg
  rw [hg] at fN
  rw [hg]
  go_loopw [28] (fun i wr => ∃ (k : Nat) (cur : List Nat), k ≤ xs.length ∧ i = .int .i64 k ∧ At .u32 wr g 74 [] cur [] ∧ cur.length = xs.length + ys.length ∧ Lim B32 cur ∧ vl B32 cur = vl B32 (xs.take k) * vl B32 ys ∧ cur.drop (k + ys.length) = List.replicate (xs.length - k) 0 ∧ Below w.heap.size w wr) (fun i _ => xs.length - (RowKit.intOf i).toNat)
  case atStart => exact ⟨0, _, Nat.zero_le _, rfl, fN, List.length_replicate, lim_zeros (by decide) _, by rw [vl_zeros]; simp [vl], by rw [List.drop_replicate]; congr 1; omega, hBa⟩
  case round =>
    clear fN hBa hg
    obtain ⟨k, cur, hk, rfl, fA, hlen, hL, hv, hz, hB⟩ := hrel
    have HLEN := Lib.hid hlen
    have HV := Lib.hid hv
    have HZ := Lib.hid hz
    clear hlen hv hz
    by_cases hlt : k < xs.length
    · obtain ⟨ga, oa, rfl, hca⟩ := (hra.below hB) k hlt
      obtain ⟨x, hxe, hxk⟩ := lim32 hx k hlt
      rw [hxe] at hca
      have HXE := Lib.hid hxe
      clear hxe
      go_wp2
      obtain ⟨wo, rfl⟩ : ∃ wo : World, wo = wr := ⟨wr, rfl⟩
      go_loopw [9, 35] (fun c j wi => ∃ (m z : Nat) (cur' : List Nat), m ≤ ys.length ∧ j = .int .i64 m ∧ c = .int .u64 z ∧ At .u32 wi g 74 [] cur' [] ∧ MulIn B32 cur cur' k m z x ys ∧ Below w.heap.size w wi) (fun _ j _ => ys.length - (RowKit.intOf j).toNat)
      case atStart => exact ⟨0, 0, cur, Nat.zero_le _, rfl, rfl, fA, mulIn_start (by decide) hL k x ys, hB⟩
      case round =>
        clear fA hB
        obtain ⟨m, z, cur', hm, rfl, rfl, fA, hM, hB⟩ := hrel
        have hzb : z < 4294967296 := hM.hc
        have hlc : cur'.length = xs.length + ys.length := by rw [hM.len, HLEN.out]
        by_cases hmt : m < ys.length
        · obtain ⟨gb, ob, rfl, hcb⟩ := (hrb.below hB) m hmt
          obtain ⟨y, hye, hyk⟩ := lim32 hy m hmt
          rw [hye] at hcb
          have hkm : k + m < cur'.length := by omega
          obtain ⟨d, hde, hdk⟩ := lim32 hM.lim (k + m) hkm
          have hcd := fA.cell (o := 0) rfl (k + m) hkm
          rw [Nat.zero_add, hde] at hcd
          have hfz := fA.frozen (k + m)
          obtain ⟨p, hp, hpi, hpb⟩ := mul_fits hxk hyk hdk hzb
          have hS := mulIn_step (B := 4294967296) hM hxk hy hmt hkm (z + (p + d)) (by rw [hye, hde, hp])
          have hA1 := fA.set (o := 0) rfl (k + m) ((z + (p + d)) % 4294967296) hkm
          rw [Nat.zero_add] at hA1
          have HS := Lib.hid hS
          have HA1 := Lib.hid hA1
          have hkml : (k : Int) + (m : Int) < (xs.length : Int) + (ys.length : Int) := by omega
          clear hye hde hp hS hA1 hM hlc hkm fA
          go_wp2
          clear hpi
          go_roundw
          case rel => exact ⟨m + 1, (z + (p + d)) / 4294967296, _, hmt, by go_num, vint (by omega), by rw [show ((z : Int) + ((p : Int) + (d : Int))) % 4294967296 = (((z + (p + d)) % 4294967296 : Nat) : Int) by omega]; exact HA1.out, HS.out, hB.setCell hgB _⟩
          case measure => simp [RowKit.intOf]; omega
        · obtain rfl : m = ys.length := by omega
          obtain ⟨r1, r2, r3⟩ := mul_row hM HV.out hlt HXE.out HLEN.out HZ.out
          have hkm : k + ys.length < cur'.length := by omega
          have hcd := fA.cell (o := 0) rfl (k + ys.length) hkm
          rw [Nat.zero_add] at hcd
          obtain ⟨u, hu⟩ : ∃ u, cur'[k + ys.length] = u := ⟨_, rfl⟩
          rw [hu] at hcd
          have hfz := fA.frozen (k + ys.length)
          have hA1 := fA.set (o := 0) rfl (k + ys.length) z hkm
          rw [Nat.zero_add] at hA1
          have hl2 : (cur'.set (k + ys.length) z).length = xs.length + ys.length := by rw [List.length_set, hlc]
          have R1 := Lib.hid r1
          have R2 := Lib.hid r2
          have HA1 := Lib.hid hA1
          have HL2 := Lib.hid hl2
          have hkml : (k : Int) + (ys.length : Int) < (xs.length : Int) + (ys.length : Int) := by omega
          clear r1 r2 hA1 hl2 hM hlc hkm fA hu
          go_wp2
          go_roundw
          case rel => exact ⟨k + 1, _, hlt, by go_num, HA1.out, HL2.out, r3, R1.out, R2.out, hB.setCell hgB _⟩
          case measure => simp [RowKit.intOf]; omega
    · obtain rfl : k = xs.length := by omega
      have hO := own_of_at (B := w.heap.size) (cap := xs.length + ys.length) fA hgB (by rw [HLEN.out]; rfl) (by unfold maxLen; omega)
      rw [HLEN.out] at hO
      have cF := fit_own _ _ cur wr hL (by rw [HLEN.out]; omega) hO
      have hv := HV.out
      rw [vl_take_all (Nat.le_refl _)] at hv
      rw [hv] at cF
      have CF := Lib.hid cF
      clear cF hO hv fA
      go_wp2_with fail
      refine CF.out.mono ?_
      rintro e w4 ⟨v, rfl, hO4, hB4⟩
      obtain ⟨nr, hnr⟩ : ∃ nr, natRes (vl B32 xs * vl B32 ys) = nr := ⟨_, rfl⟩
      rw [hnr] at hO4 HR
      rw [hnr]
      obtain ⟨nl, ne⟩ := nr
      have HO4 := Lib.hid hO4
      clear hO4 hnr CF
      have hBz := hB.trans hB4
      go_wp2
      go_ret2
      exact ⟨_, by rw [HR.out]; rfl, by rw [HR.out]; exact HO4.out, hBz⟩
end Go.Proofs.YtkjdmjglpbnmoaaGreatDoor

namespace Go.Proofs.YtkjdmjglpbnmoaaGreatDoor
open Go.RowKit Go.Lib

/-- The unit of a piece. -/
abbrev D4 : Nat := 10000
theorem lim4 {l : List Nat} (h : Lim D4 l) (k : Nat) (hk : k < l.length) : ∃ x, l[k] = x ∧ x < 10000 := ⟨_, rfl, lim_get h k hk⟩

set_option maxRecDepth 100000 in
set_option maxHeartbeats 1000000 in
theorem rtrim_any (A : Option Addr) (cap : Nat) (xs : List Nat) (w : World) (hx : Lim D4 xs) (hxn : xs.length ≤ 10000000000000) (hcap : xs.length ≤ cap) (hcm : cap ≤ maxLen) (hr : Rd .i64 w A xs) :
    Calls Tryz.prog 49 #[.slice A xs.length cap] w fun e w' => (∃ m : Nat, m ≤ xs.length ∧ dig D4 (vl D4 xs) = xs.take m ∧ e = .returned (.slice A m cap)) ∧ w = w' := by
  unfold maxLen at hcm
  go_enter Tryz.func49, Tryz.ntmps49
  go_wp2
  go_loop [0] (fun v => ∃ k : Nat, k ≤ xs.length ∧ v = .slice A k cap ∧ ∀ j (_ : k ≤ j) (hj : j < xs.length), xs[j] = 0) (fun v => lenOf v)
  case atStart => exact ⟨xs.length, Nat.le_refl _, rfl, fun j _ _ => by omega⟩
  case round =>
    obtain ⟨k, hk, rfl, h0⟩ := hrel
    have H0 := Lib.hid h0; clear h0
    by_cases hz : k = 0
    · subst hz
      go_wp2
      go_ret
      exact ⟨⟨0, Nat.zero_le _, (trim_take (by decide) hx (Nat.zero_le _) H0.out (.inl rfl)).1, rfl⟩, rfl⟩
    · obtain ⟨g, o, rfl, hc⟩ := hr (k - 1) (by omega)
      obtain ⟨x, hxe, hxk⟩ := lim4 hx (k - 1) (by omega)
      rw [hxe] at hc
      have HX := Lib.hid hxe; clear hxe
      have hkn : ((k : Int) - 1).toNat = k - 1 := by omega
      by_cases hx0 : x = 0
      · subst hx0
        go_wp2
        go_round
        case rel => exact ⟨k - 1, by omega, rfl, fun j h1 h2 => by
          by_cases e : j = k - 1
          · subst e; exact HX.out
          · exact H0.out j (by omega) h2⟩
        case measure => simp [lenOf]; omega
      · have hxi : ((x : Int) == 0) = false := by rw [beq_eq_false_iff_ne]; omega
        go_wp2
        go_ret
        exact ⟨⟨k, hk, (trim_take (by decide) hx hk H0.out (.inr ⟨by omega, by rw [HX.out]; exact hx0⟩)).1, rfl⟩, rfl⟩
theorem rtrim_own (v : Value) (B : Nat) (xs : List Nat) (w : World) (hx : Lim D4 xs) (hxn : xs.length ≤ 10000000000000) (hO : Own .i64 w B 3 v xs) :
    Calls Tryz.prog 49 #[v] w fun e w' => (∃ v', e = .returned v' ∧ Own .i64 w B 3 v' (dig D4 (vl D4 xs))) ∧ w = w' := by
  obtain ⟨A, cap, rfl, h1, h2⟩ := hO.slice
  refine (rtrim_any A cap xs w hx hxn h1 h2 hO.rd).mono ?_
  rintro e w' ⟨⟨m, hm, hd, rfl⟩, rfl⟩
  exact ⟨⟨_, rfl, by rw [hd]; exact hO.take m hm⟩, rfl⟩

theorem small_step {ds : List Nat} {m n : Nat} (h : vl D4 ds + D4 ^ ds.length * m = n) : vl D4 (ds ++ [m % 10000]) + D4 ^ (ds ++ [m % 10000]).length * (m / 10000) = n := by
  rw [vl_snoc, List.length_append, List.length_singleton, Nat.pow_succ, ← h]
  have hd : D4 ^ ds.length * m = D4 ^ ds.length * (m % 10000) + D4 ^ ds.length * D4 * (m / 10000) := digit_step (B := 10000) (P := D4 ^ ds.length) (z := m)
  omega
set_option maxRecDepth 100000 in
set_option maxHeartbeats 2000000 in
theorem small_any (n : Nat) (w : World) (hn : n ≤ 9223372036854775807) : Calls Tryz.prog 52 #[.int .i64 n] w (Makes .i64 3 w (dig D4 n)) := by
  obtain ⟨i0, hi, hz0, hz1, hz2⟩ := info_parts info_i64
  go_enter Tryz.func52, Tryz.ntmps52
  go_wp2
  go_loopw [0, 3] (fun q v wr => ∃ (m : Nat) (ds : List Nat), q = .int .i64 m ∧ (ds.length ≤ 16 ∧ m ≤ n ∧ m < 10000 ^ (16 - ds.length)) ∧ Own .i64 wr w.heap.size 3 v ds ∧ Lim D4 ds ∧ vl D4 ds + D4 ^ ds.length * m = n ∧ (0 < m ∨ Top ds) ∧ Below w.heap.size w wr) (fun q _ _ => (RowKit.intOf q).toNat)
  case atStart => exact ⟨n, [], rfl, ⟨Nat.zero_le _, Nat.le_refl _, Nat.lt_of_le_of_lt hn (by decide)⟩, Own.nil _ _ _, lim_nil _, by simp [vl], .inr top_nil, Below.refl _ _⟩
  case round =>
    obtain ⟨m, ds, rfl, ⟨hd16, hmn, hmp⟩, hO, hL, hv, ht, hB⟩ := hrel
    obtain ⟨A, cap, rfl, hcap⟩ := hO.slice
    by_cases hm : m = 0
    · subst hm
      have HE := Lib.hid (show dig D4 n = ds from dig_eq (by decide) ⟨hL, by rcases ht with h | h; omega; exact h⟩ (by rw [← hv]; simp))
      have HO := Lib.hid hO
      clear hv hO hL ht
      go_wp2
      go_ret
      exact ⟨_, rfl, by rw [HE.out]; exact HO.out, hB⟩
    · have hown := hO.row (n := ds.length) rfl
      have HS := Lib.hid (small_step hv)
      have hlim : Lim D4 (ds ++ [m % 10000]) := lim_append.2 ⟨hL, lim_one.2 (Nat.mod_lt _ (by decide))⟩
      have htop : 0 < m / 10000 ∨ Top (ds ++ [m % 10000]) := by
        rcases Nat.eq_zero_or_pos (m / 10000) with h | h
        · exact .inr (top_snoc.2 (by omega))
        · exact .inl h
      have hsz := hB.size
      have hd15 : ds.length < 16 := by
        rcases Nat.lt_or_ge ds.length 16 with h | h
        · exact h
        · rw [show 16 - ds.length = 0 by omega, Nat.pow_zero] at hmp
          omega
      have hm1 : ds.length + 1 ≤ 16 ∧ m / 10000 ≤ n ∧ m / 10000 < 10000 ^ (16 - (ds.length + 1)) := by
        refine ⟨by omega, by omega, Nat.div_lt_of_lt_mul ?_⟩
        rw [← Nat.pow_succ', show (16 - (ds.length + 1)).succ = 16 - ds.length by omega]
        exact hmp
      clear hmp
      clear hv hO hL ht
      go_wp2_with (at_builtin; refine wpList_append_own _ rfl _ _ 56 rfl w.heap.size 3 i0 (.int .i64 0) 1 8 Tryz.underlying56 hi hz0 hz1 hz2 rfl (by decide) _ _ _ rfl (hown.alloc _) ⟨wr.heap.size, 0, none⟩ 1 1 [.int .i64 ((m % 10000 : Nat) : Int)] rfl rfl (cell_one_new _ _ _) ?c2 ?c3 ?c4 ?c5 ?_)
      case c2 => simp [Value.oneCell']
      case c3 => unfold maxLen; omega
      case c4 => omega
      case c5 => first | omega | (simp; omega)
      intro v' w4 hown' hgrow _
      have hB4 : Below w.heap.size w w4 := (hB.alloc hsz _).grown hgrow (by simp; omega) (fun z e => (hown.lt z e).1)
      have HO1 := Lib.hid (Own.snoc hown' rfl)
      clear hown hown' hgrow
      go_wp2
      go_roundw
      case rel => exact ⟨m / 10000, ds ++ [m % 10000], vint (by omega), by rw [List.length_append]; exact hm1, HO1.out, hlim, HS.out, htop, hB4⟩
      case measure => simp [RowKit.intOf]; omega
end Go.Proofs.YtkjdmjglpbnmoaaGreatDoor

namespace Go.Proofs.YtkjdmjglpbnmoaaGreatDoor
open Go.RowKit Go.Lib

/-- The product's pieces so far. -/
structure RTim (xs ds : List Nat) (n k c : Nat) : Prop where
  len : ds.length = k
  lim : Lim D4 ds
  hc : c < n
  eq : vl D4 ds + D4 ^ k * c = vl D4 (xs.take k) * n
  top : k ≤ xs.length ∨ k + c ≤ xs.length + n
theorem rtim_step {xs ds : List Nat} {n k c : Nat} (h : RTim xs ds n k c) (hx : Lim D4 xs) (hgo : k < xs.length ∨ 0 < c) (z : Nat) (hz : z = c + xs.getD k 0 * n) : RTim xs (ds ++ [z % 10000]) n (k + 1) (z / 10000) := by
  have b1 := getD_lt hx (by decide) k
  have h3 := h.hc
  refine ⟨by rw [List.length_append, h.len]; rfl, lim_append.2 ⟨h.lim, lim_one.2 (Nat.mod_lt _ (by decide))⟩, ?_, ?_, ?_⟩
  · apply Nat.div_lt_of_lt_mul
    have : (xs.getD k 0 + 1) * n ≤ 10000 * n := Nat.mul_le_mul_right _ b1
    rw [Nat.add_mul] at this
    omega
  · have e1 := h.eq
    have hd : D4 ^ k * z = D4 ^ k * (z % 10000) + D4 ^ k * D4 * (z / 10000) := digit_step (B := 10000) (P := D4 ^ k) (z := z)
    have e2 := congrArg (D4 ^ k * ·) hz
    simp only [Nat.mul_add, ← Nat.mul_assoc] at e2
    rw [vl_snoc, h.len, vl_take_get, Nat.pow_succ, Nat.add_mul]
    omega
  · by_cases a : k < xs.length
    · exact .inl a
    · rw [getD_no a, Nat.zero_mul, Nat.add_zero] at hz
      have := h.top
      exact .inr (by omega)
theorem rtim_end {xs ds : List Nat} {n k : Nat} (h : RTim xs ds n k 0) (hx : xs.length ≤ k) : vl D4 ds = vl D4 xs * n := by
  have := h.eq
  rwa [vl_take_all hx, Nat.mul_zero, Nat.add_zero] at this

set_option maxRecDepth 100000 in
set_option maxHeartbeats 4000000 in
theorem rcmp_any (A A' : Option Addr) (ca cb : Nat) (xs ys : List Nat) (w : World) (hx : Norm D4 xs) (hy : Norm D4 ys) (hxn : xs.length ≤ 1000000) (hyn : ys.length ≤ 1000000) (hra : Rd .i64 w A xs) (hrb : Rd .i64 w A' ys) :
    Calls Tryz.prog 54 #[.slice A xs.length ca, .slice A' ys.length cb] w fun e w' => e = .returned (.int .i64 (cmpZ (vl D4 xs) (vl D4 ys))) ∧ ∃ n, w' = w.drewN n := by
  by_cases hne : xs.length = ys.length
  · have hnb : ((xs.length : Int) != (ys.length : Int)) = false := by simp [hne]
    have HN := Lib.hid hne; clear hne
    go_enter Tryz.func54, Tryz.ntmps54
    go_wp2
    go_loopw [5] (fun i wr => ∃ k n : Nat, k ≤ xs.length ∧ i = .int .i64 ((k : Int) - 1) ∧ xs.drop k = ys.drop k ∧ wr = w.drewN n) (fun i _ => (RowKit.intOf i + 1).toNat)
    case atStart => exact ⟨xs.length, 0, Nat.le_refl _, rfl, by rw [List.drop_length, HN.out, List.drop_length], rfl⟩
    case round =>
      obtain ⟨k, n, hk, rfl, hd, rfl⟩ := hrel
      have HD := Lib.hid hd; clear hd
      rcases k with _ | k
      · have he : cmpZ (vl D4 xs) (vl D4 ys) = 0 := by
          have := HD.out
          simp at this
          rw [this]; exact cmpZ_eq rfl
        have HE := Lib.hid he; clear he
        go_wp2
        go_ret
        exact ⟨by rw [HE.out]; rfl, n, rfl⟩
      · have hlx : k < xs.length := hk
        have hly : k < ys.length := by have := HN.out; omega
        obtain ⟨g, o, rfl, hc⟩ := hra k hlx
        obtain ⟨g', o', rfl, hc'⟩ := hrb k hly
        obtain ⟨x, hxe, hxk⟩ := lim4 hx.1 k hlx
        obtain ⟨y, hye, hyk⟩ := lim4 hy.1 k hly
        rw [hxe] at hc
        rw [hye] at hc'
        rcases Nat.lt_trichotomy x y with h | h | h
        · have HE := Lib.hid (show cmpZ (vl D4 xs) (vl D4 ys) = -1 from cmpZ_lt (vl_cmp_at hx.1 HN.out hlx HD.out (by rw [hxe, hye]; exact h)))
          clear hxe hye
          rw [show ((k + 1 : Nat) : Int) - 1 = (k : Int) by omega]
          go_wp2
          go_quiet (fail)
          go_wp2
          go_ret
          exact ⟨by rw [HE.out]; rfl, _, by rw [World.drewN_drewN]⟩
        · have hd2 : xs.drop k = ys.drop k := by rw [drop_get xs k hlx, drop_get ys k hly, HD.out, hxe, hye, h]
          have HD2 := Lib.hid hd2
          subst h
          clear hd2 hxe hye
          rw [show ((k + 1 : Nat) : Int) - 1 = (k : Int) by omega]
          go_wp2
          go_quiet (fail)
          go_wp2
          go_quiet (fail)
          go_wp2
          go_roundw
          case rel => exact ⟨k, _, by omega, rfl, HD2.out, rfl⟩
          case measure => simp [RowKit.intOf]
        · have HE := Lib.hid (show cmpZ (vl D4 xs) (vl D4 ys) = 1 from cmpZ_gt (vl_cmp_at hy.1 HN.out.symm hly HD.out.symm (by rw [hxe, hye]; exact h)))
          have h2 : ¬ x < y := by omega
          clear hxe hye
          rw [show ((k + 1 : Nat) : Int) - 1 = (k : Int) by omega]
          go_wp2
          go_quiet (fail)
          go_wp2
          go_quiet (fail)
          go_wp2
          go_ret
          exact ⟨by rw [HE.out]; rfl, _, by rw [World.drewN_drewN, World.drewN_drewN]⟩
  · have hnb : ((xs.length : Int) != (ys.length : Int)) = true := by simp; omega
    rcases Nat.lt_or_gt_of_ne hne with h | h
    · have HE := Lib.hid (show cmpZ (vl D4 xs) (vl D4 ys) = -1 from cmpZ_lt (norm_len_lt (by decide) hx.1 hy.2 h))
      clear hne
      go_enter Tryz.func54, Tryz.ntmps54
      go_wp2
      go_ret
      exact ⟨by rw [HE.out]; rfl, 0, rfl⟩
    · have HE := Lib.hid (show cmpZ (vl D4 xs) (vl D4 ys) = 1 from cmpZ_gt (norm_len_lt (by decide) hy.1 hx.2 h))
      have h2 : ¬ xs.length < ys.length := by omega
      clear hne
      go_enter Tryz.func54, Tryz.ntmps54
      go_wp2
      go_ret
      exact ⟨by rw [HE.out]; rfl, 0, rfl⟩
end Go.Proofs.YtkjdmjglpbnmoaaGreatDoor

namespace Go.Proofs.YtkjdmjglpbnmoaaGreatDoor
open Go.RowKit Go.Lib

theorem piece_prod {x n c : Nat} (hx : x < 10000) (hn : n ≤ 1099511627776) (hc : c < n) : ∃ p : Nat, x * n = p ∧ (x : Int) * (n : Int) = (p : Int) ∧ (p : Int) + (c : Int) ≤ 9223372036854775807 ∧ p ≤ 10995116277760000 := by
  have h : x * n ≤ 9999 * 1099511627776 := Nat.mul_le_mul (by omega) hn
  exact ⟨x * n, rfl, (Int.natCast_mul _ _).symm, by omega, by omega⟩

set_option maxRecDepth 100000 in
set_option maxHeartbeats 4000000 in
theorem rtim_any (A : Option Addr) (ca n : Nat) (xs : List Nat) (w : World) (hx : Lim D4 xs) (hxn : xs.length ≤ 1000000) (hn0 : 0 < n) (hn : n ≤ 1099511627776) (hra : Rd .i64 w A xs) :
    Calls Tryz.prog 76 #[.slice A xs.length ca, .int .i64 n] w (Makes .i64 3 w (dig D4 (vl D4 xs * n))) := by
  obtain ⟨i0, hi, hz0, hz1, hz2⟩ := info_parts info_i64
  go_enter Tryz.func76, Tryz.ntmps76
  go_wp2
  go_loopw [5, 6, 7] (fun v c i wr => ∃ (k z : Nat) (ds : List Nat), i = .int .i64 k ∧ c = .int .i64 z ∧ Own .i64 wr w.heap.size 3 v ds ∧ RTim xs ds n k z ∧ Below w.heap.size w wr) (fun _ c i _ => (xs.length - (RowKit.intOf i).toNat) * 2199023255552 + (RowKit.intOf c).toNat)
  case atStart => exact ⟨0, 0, [], rfl, rfl, Own.nil _ _ _, ⟨rfl, lim_nil _, hn0, by simp [vl], .inl (Nat.zero_le _)⟩, Below.refl _ _⟩
  case round =>
    obtain ⟨k, z, ds, rfl, rfl, hO, hR, hB⟩ := hrel
    obtain ⟨A5, c5, rfl, _⟩ := hO.slice
    have hzn : z < n := hR.hc
    have htop := hR.top
    by_cases hgo : k < xs.length ∨ 0 < z
    · have hdl := hR.len
      have hown := hO.row hdl
      have HDL := Lib.hid hdl
      have hsz := hB.size
      rw [hdl] at hown
      rw [hdl]
      by_cases hlx : k < xs.length
      · obtain ⟨g, o, rfl, hc⟩ := (hra.below hB) k hlx
        obtain ⟨x, hxe, hxk⟩ := lim4 hx k hlx
        rw [hxe] at hc
        obtain ⟨p, hp, hpi, hpb, hpb2⟩ := piece_prod hxk hn hzn
        have HS := Lib.hid (rtim_step hR hx hgo (z + p) (by rw [getD_of hlx, hxe, hp]))
        have hz2b : (z + p) / 10000 < 1099511627776 := by have := HS.out.hc; omega
        clear hR hdl hO hxe hp hgo htop
        go_wp2_with (at_builtin; refine wpList_append_own _ rfl _ _ 56 rfl w.heap.size 3 i0 (.int .i64 0) 1 8 Tryz.underlying56 hi hz0 hz1 hz2 rfl (by decide) _ _ _ rfl (hown.alloc _) ⟨wr.heap.size, 0, none⟩ 1 1 [.int .i64 (((z + p) % 10000 : Nat) : Int)] rfl rfl (cell_one_new _ _ _) ?c2 ?c3 ?c4 ?c5 ?_)
        case c2 => simp [Value.oneCell']
        case c3 => unfold maxLen; omega
        case c4 => omega
        case c5 => first | omega | (simp; omega)
        intro v' w4 hown' hgrow _
        have hB4 : Below w.heap.size w w4 := (hB.alloc hsz _).grown hgrow (by simp; omega) (fun z e => (hown.lt z e).1)
        have HO1 := Lib.hid (Own.snoc hown' HDL.out.symm)
        clear hown hown' hgrow hpi
        go_wp2
        go_roundw
        case rel => exact ⟨k + 1, (z + p) / 10000, ds ++ [(z + p) % 10000], by go_num, vint (by omega), HO1.out, HS.out, hB4⟩
        case measure => simp [RowKit.intOf]; omega
      · have hz0' : 0 < z := by omega
        have HS := Lib.hid (rtim_step hR hx hgo z (by rw [getD_no hlx, Nat.zero_mul, Nat.add_zero]))
        clear hR hdl hO hgo
        go_wp2_with (at_builtin; refine wpList_append_own _ rfl _ _ 56 rfl w.heap.size 3 i0 (.int .i64 0) 1 8 Tryz.underlying56 hi hz0 hz1 hz2 rfl (by decide) _ _ _ rfl (hown.alloc _) ⟨wr.heap.size, 0, none⟩ 1 1 [.int .i64 ((z % 10000 : Nat) : Int)] rfl rfl (cell_one_new _ _ _) ?c2 ?c3 ?c4 ?c5 ?_)
        case c2 => simp [Value.oneCell']
        case c3 => unfold maxLen; omega
        case c4 => omega
        case c5 => first | omega | (simp; omega)
        intro v' w4 hown' hgrow _
        have hB4 : Below w.heap.size w w4 := (hB.alloc hsz _).grown hgrow (by simp; omega) (fun z e => (hown.lt z e).1)
        have HO1 := Lib.hid (Own.snoc hown' HDL.out.symm)
        clear hown hown' hgrow
        go_wp2
        go_roundw
        case rel => exact ⟨k + 1, z / 10000, ds ++ [z % 10000], by go_num, vint (by omega), HO1.out, HS.out, hB4⟩
        case measure => simp [RowKit.intOf]; omega
    · have hlx : ¬ k < xs.length := by omega
      obtain rfl : z = 0 := by omega
      have he := rtim_end hR (by omega)
      have hl := hR.len
      have cT := rtrim_own _ _ ds wr hR.lim (by omega) hO
      rw [he] at cT
      have CT := Lib.hid cT
      rw [hl]
      rw [hl] at CT
      clear cT hO hR he hl hgo
      go_wp2_with fail
      refine CT.out.mono ?_
      rintro e w' ⟨⟨v', rfl, hO7⟩, rfl⟩
      have HO7 := Lib.hid hO7
      clear hO7 CT
      go_wp2
      go_ret
      exact ⟨_, rfl, HO7.out, hB⟩
end Go.Proofs.YtkjdmjglpbnmoaaGreatDoor

namespace Go.Proofs.YtkjdmjglpbnmoaaGreatDoor
open Go.RowKit Go.Lib

theorem dig4_powb {b j : Nat} (hb : b ≤ 10000) (h1 : 1 ≤ b) : (dig D4 (b ^ j)).length ≤ j + 1 := by
  rw [dig_len_le (by decide)]
  have h1 : b ^ j ≤ D4 ^ j := Nat.pow_le_pow_left hb _
  have h2 : D4 ^ j < D4 ^ (j + 1) := Nat.pow_lt_pow_right (by decide) (by omega)
  omega
theorem own_oneb (w : World) (a : Nat) (t : TypeId) : Own .i64 (w.alloc (.cells #[.int .i64 (a : Nat)] t)) w.heap.size t (.slice (some ⟨w.heap.size, 0, none⟩) 1 1) [a] :=
  World.ownsRow_lit (e := t) (size := 1) w #[.int .i64 (a : Nat)] 1 (Nat.le_refl _) (by decide) rfl
theorem dig4_oneb (b : Nat) : dig D4 (b ^ 0) = [1] := by
  rw [Nat.pow_zero]
  exact dig_eq (by decide) ⟨fun x hx => by rw [List.mem_singleton] at hx; subst hx; decide, by simp [Top]⟩ (by simp [vl])
theorem lim4p (n : Nat) : Lim D4 (dig D4 n) := (dig_norm (by decide) n).1
set_option maxRecDepth 100000 in
set_option maxHeartbeats 4000000 in
theorem rpow_b2 (k : Nat) (w : World) (hk : k ≤ 10000) :
    Calls Tryz.prog 53 #[.int .i64 2, .int .i64 k] w (Makes .i64 3 w (dig D4 (2 ^ k))) := by
  have hO0 := own_oneb w 1 3
  rw [← dig4_oneb 2] at hO0
  have HO0 := Lib.hid hO0
  have hB0 := (Below.refl w.heap.size w).alloc (Nat.le_refl _) (.cells #[.int .i64 (1 : Nat)] 3)
  clear hO0
  go_enter Tryz.func53, Tryz.ntmps53
  go_wp2
  go_loopw [5, 1] (fun v q wr => ∃ j m : Nat, j + m = k ∧ q = .int .i64 m ∧ Own .i64 wr w.heap.size 3 v (dig D4 (2 ^ j)) ∧ Below w.heap.size w wr) (fun _ q _ => (RowKit.intOf q).toNat)
  case atStart => exact ⟨0, k, by omega, rfl, HO0.out, hB0⟩
  case round =>
    clear HO0 hB0
    obtain ⟨j, m, hjm, rfl, hO, hB⟩ := hrel
    obtain ⟨A5, c5, rfl, _⟩ := hO.slice
    by_cases h8 : 8 ≤ m
    · have cT := rtim_any A5 c5 256 (dig D4 (2 ^ j)) wr (lim4p _) (by have := dig4_powb (b := 2) (j := j) (by omega) (by omega); omega) (by omega) (by omega) hO.rd
      have hp : 2 ^ j * 256 = 2 ^ (j + 8) := by rw [Nat.pow_add]
      rw [dig_vl (by decide), hp, show ((256 : Nat) : Int) = 256 from rfl] at cT
      have CT := Lib.hid cT
      clear cT hp hO
      go_wp2_with fail
      refine CT.out.mono ?_
      rintro e w1 ⟨v, rfl, hO1, hB1⟩
      have HO1 := Lib.hid (hO1.mono hB.size)
      have hB2 := hB.trans (hB1.mono hB.size)
      clear hO1 hB1 CT
      go_wp2
      go_roundw
      case rel => exact ⟨j + 8, m - 8, by omega, vint (by omega), HO1.out, hB2⟩
      case measure => simp [RowKit.intOf]; omega
    · go_wp2
      obtain ⟨wo, rfl⟩ : ∃ wo : World, wo = wr := ⟨wr, rfl⟩
      go_loopw [5, 1] (fun v q wi => ∃ j m : Nat, j + m = k ∧ q = .int .i64 m ∧ Own .i64 wi w.heap.size 3 v (dig D4 (2 ^ j)) ∧ Below w.heap.size w wi) (fun _ q _ => (RowKit.intOf q).toNat)
      case atStart => exact ⟨j, m, hjm, rfl, hO, hB⟩
      case round =>
        clear hO hB hjm h8
        obtain ⟨j, m, hjm, rfl, hO, hB⟩ := hrel
        obtain ⟨A5, c5, rfl, _⟩ := hO.slice
        by_cases h1 : 0 < m
        · have cT := rtim_any A5 c5 2 (dig D4 (2 ^ j)) wr (lim4p _) (by have := dig4_powb (b := 2) (j := j) (by omega) (by omega); omega) (by omega) (by omega) hO.rd
          have hp : 2 ^ j * 2 = 2 ^ (j + 1) := by rw [Nat.pow_succ]
          rw [dig_vl (by decide), hp, show ((2 : Nat) : Int) = 2 from rfl] at cT
          have CT := Lib.hid cT
          clear cT hp hO
          go_wp2_with fail
          refine CT.out.mono ?_
          rintro e w1 ⟨v, rfl, hO1, hB1⟩
          have HO1 := Lib.hid (hO1.mono hB.size)
          have hB2 := hB.trans (hB1.mono hB.size)
          clear hO1 hB1 CT
          go_wp2
          go_roundw
          case rel => exact ⟨j + 1, m - 1, by omega, vint (by omega), HO1.out, hB2⟩
          case measure => simp [RowKit.intOf]; omega
        · obtain rfl : m = 0 := by omega
          obtain rfl : j = k := by omega
          have HO := Lib.hid hO
          clear hO
          go_wp2
          go_ret
          exact ⟨_, rfl, HO.out, hB⟩

set_option maxRecDepth 100000 in
set_option maxHeartbeats 4000000 in
theorem rpow_b5 (k : Nat) (w : World) (hk : k ≤ 10000) :
    Calls Tryz.prog 53 #[.int .i64 5, .int .i64 k] w (Makes .i64 3 w (dig D4 (5 ^ k))) := by
  have hO0 := own_oneb w 1 3
  rw [← dig4_oneb 5] at hO0
  have HO0 := Lib.hid hO0
  have hB0 := (Below.refl w.heap.size w).alloc (Nat.le_refl _) (.cells #[.int .i64 (1 : Nat)] 3)
  clear hO0
  go_enter Tryz.func53, Tryz.ntmps53
  go_wp2
  go_loopw [5, 1] (fun v q wr => ∃ j m : Nat, j + m = k ∧ q = .int .i64 m ∧ Own .i64 wr w.heap.size 3 v (dig D4 (5 ^ j)) ∧ Below w.heap.size w wr) (fun _ q _ => (RowKit.intOf q).toNat)
  case atStart => exact ⟨0, k, by omega, rfl, HO0.out, hB0⟩
  case round =>
    clear HO0 hB0
    obtain ⟨j, m, hjm, rfl, hO, hB⟩ := hrel
    obtain ⟨A5, c5, rfl, _⟩ := hO.slice
    by_cases h8 : 8 ≤ m
    · have cT := rtim_any A5 c5 390625 (dig D4 (5 ^ j)) wr (lim4p _) (by have := dig4_powb (b := 5) (j := j) (by omega) (by omega); omega) (by omega) (by omega) hO.rd
      have hp : 5 ^ j * 390625 = 5 ^ (j + 8) := by rw [Nat.pow_add]
      rw [dig_vl (by decide), hp, show ((390625 : Nat) : Int) = 390625 from rfl] at cT
      have CT := Lib.hid cT
      clear cT hp hO
      go_wp2_with fail
      refine CT.out.mono ?_
      rintro e w1 ⟨v, rfl, hO1, hB1⟩
      have HO1 := Lib.hid (hO1.mono hB.size)
      have hB2 := hB.trans (hB1.mono hB.size)
      clear hO1 hB1 CT
      go_wp2
      go_roundw
      case rel => exact ⟨j + 8, m - 8, by omega, vint (by omega), HO1.out, hB2⟩
      case measure => simp [RowKit.intOf]; omega
    · go_wp2
      obtain ⟨wo, rfl⟩ : ∃ wo : World, wo = wr := ⟨wr, rfl⟩
      go_loopw [5, 1] (fun v q wi => ∃ j m : Nat, j + m = k ∧ q = .int .i64 m ∧ Own .i64 wi w.heap.size 3 v (dig D4 (5 ^ j)) ∧ Below w.heap.size w wi) (fun _ q _ => (RowKit.intOf q).toNat)
      case atStart => exact ⟨j, m, hjm, rfl, hO, hB⟩
      case round =>
        clear hO hB hjm h8
        obtain ⟨j, m, hjm, rfl, hO, hB⟩ := hrel
        obtain ⟨A5, c5, rfl, _⟩ := hO.slice
        by_cases h1 : 0 < m
        · have cT := rtim_any A5 c5 5 (dig D4 (5 ^ j)) wr (lim4p _) (by have := dig4_powb (b := 5) (j := j) (by omega) (by omega); omega) (by omega) (by omega) hO.rd
          have hp : 5 ^ j * 5 = 5 ^ (j + 1) := by rw [Nat.pow_succ]
          rw [dig_vl (by decide), hp, show ((5 : Nat) : Int) = 5 from rfl] at cT
          have CT := Lib.hid cT
          clear cT hp hO
          go_wp2_with fail
          refine CT.out.mono ?_
          rintro e w1 ⟨v, rfl, hO1, hB1⟩
          have HO1 := Lib.hid (hO1.mono hB.size)
          have hB2 := hB.trans (hB1.mono hB.size)
          clear hO1 hB1 CT
          go_wp2
          go_roundw
          case rel => exact ⟨j + 1, m - 1, by omega, vint (by omega), HO1.out, hB2⟩
          case measure => simp [RowKit.intOf]; omega
        · obtain rfl : m = 0 := by omega
          obtain rfl : j = k := by omega
          have HO := Lib.hid hO
          clear hO
          go_wp2
          go_ret
          exact ⟨_, rfl, HO.out, hB⟩

set_option maxRecDepth 100000 in
set_option maxHeartbeats 4000000 in
theorem rpow_b10 (k : Nat) (w : World) (hk : k ≤ 10000) :
    Calls Tryz.prog 53 #[.int .i64 10, .int .i64 k] w (Makes .i64 3 w (dig D4 (10 ^ k))) := by
  have hO0 := own_oneb w 1 3
  rw [← dig4_oneb 10] at hO0
  have HO0 := Lib.hid hO0
  have hB0 := (Below.refl w.heap.size w).alloc (Nat.le_refl _) (.cells #[.int .i64 (1 : Nat)] 3)
  clear hO0
  go_enter Tryz.func53, Tryz.ntmps53
  go_wp2
  go_loopw [5, 1] (fun v q wr => ∃ j m : Nat, j + m = k ∧ q = .int .i64 m ∧ Own .i64 wr w.heap.size 3 v (dig D4 (10 ^ j)) ∧ Below w.heap.size w wr) (fun _ q _ => (RowKit.intOf q).toNat)
  case atStart => exact ⟨0, k, by omega, rfl, HO0.out, hB0⟩
  case round =>
    clear HO0 hB0
    obtain ⟨j, m, hjm, rfl, hO, hB⟩ := hrel
    obtain ⟨A5, c5, rfl, _⟩ := hO.slice
    by_cases h8 : 8 ≤ m
    · have cT := rtim_any A5 c5 100000000 (dig D4 (10 ^ j)) wr (lim4p _) (by have := dig4_powb (b := 10) (j := j) (by omega) (by omega); omega) (by omega) (by omega) hO.rd
      have hp : 10 ^ j * 100000000 = 10 ^ (j + 8) := by rw [Nat.pow_add]
      rw [dig_vl (by decide), hp, show ((100000000 : Nat) : Int) = 100000000 from rfl] at cT
      have CT := Lib.hid cT
      clear cT hp hO
      go_wp2_with fail
      refine CT.out.mono ?_
      rintro e w1 ⟨v, rfl, hO1, hB1⟩
      have HO1 := Lib.hid (hO1.mono hB.size)
      have hB2 := hB.trans (hB1.mono hB.size)
      clear hO1 hB1 CT
      go_wp2
      go_roundw
      case rel => exact ⟨j + 8, m - 8, by omega, vint (by omega), HO1.out, hB2⟩
      case measure => simp [RowKit.intOf]; omega
    · go_wp2
      obtain ⟨wo, rfl⟩ : ∃ wo : World, wo = wr := ⟨wr, rfl⟩
      go_loopw [5, 1] (fun v q wi => ∃ j m : Nat, j + m = k ∧ q = .int .i64 m ∧ Own .i64 wi w.heap.size 3 v (dig D4 (10 ^ j)) ∧ Below w.heap.size w wi) (fun _ q _ => (RowKit.intOf q).toNat)
      case atStart => exact ⟨j, m, hjm, rfl, hO, hB⟩
      case round =>
        clear hO hB hjm h8
        obtain ⟨j, m, hjm, rfl, hO, hB⟩ := hrel
        obtain ⟨A5, c5, rfl, _⟩ := hO.slice
        by_cases h1 : 0 < m
        · have cT := rtim_any A5 c5 10 (dig D4 (10 ^ j)) wr (lim4p _) (by have := dig4_powb (b := 10) (j := j) (by omega) (by omega); omega) (by omega) (by omega) hO.rd
          have hp : 10 ^ j * 10 = 10 ^ (j + 1) := by rw [Nat.pow_succ]
          rw [dig_vl (by decide), hp, show ((10 : Nat) : Int) = 10 from rfl] at cT
          have CT := Lib.hid cT
          clear cT hp hO
          go_wp2_with fail
          refine CT.out.mono ?_
          rintro e w1 ⟨v, rfl, hO1, hB1⟩
          have HO1 := Lib.hid (hO1.mono hB.size)
          have hB2 := hB.trans (hB1.mono hB.size)
          clear hO1 hB1 CT
          go_wp2
          go_roundw
          case rel => exact ⟨j + 1, m - 1, by omega, vint (by omega), HO1.out, hB2⟩
          case measure => simp [RowKit.intOf]; omega
        · obtain rfl : m = 0 := by omega
          obtain rfl : j = k := by omega
          have HO := Lib.hid hO
          clear hO
          go_wp2
          go_ret
          exact ⟨_, rfl, HO.out, hB⟩

end Go.Proofs.YtkjdmjglpbnmoaaGreatDoor

namespace Go.Proofs.YtkjdmjglpbnmoaaGreatDoor
open Go.RowKit Go.Lib

/-- The sum's pieces so far. -/
structure RAdd (xs ys ds : List Nat) (k c : Nat) : Prop where
  len : ds.length = k
  lim : Lim D4 ds
  hc : c ≤ 1
  eq : vl D4 ds + D4 ^ k * c = vl D4 (xs.take k) + vl D4 (ys.take k)
  top : k ≤ xs.length ∨ k ≤ ys.length ∨ c = 0
theorem radd_step {xs ys ds : List Nat} {k c : Nat} (h : RAdd xs ys ds k c) (hx : Lim D4 xs) (hy : Lim D4 ys) (z : Nat) (hz : z = c + xs.getD k 0 + ys.getD k 0) : RAdd xs ys (ds ++ [z % 10000]) (k + 1) (z / 10000) := by
  have b1 := getD_lt hx (by decide) k
  have b2 := getD_lt hy (by decide) k
  have h3 := h.hc
  refine ⟨by rw [List.length_append, h.len]; rfl, lim_append.2 ⟨h.lim, lim_one.2 (Nat.mod_lt _ (by decide))⟩, ?_, ?_, ?_⟩
  · have : z < 20000 := by show z < 20000; have a : D4 = 10000 := rfl; omega
    omega
  · have e1 := h.eq
    have hd : D4 ^ k * z = D4 ^ k * (z % 10000) + D4 ^ k * D4 * (z / 10000) := digit_step (B := 10000) (P := D4 ^ k) (z := z)
    have e2 := congrArg (D4 ^ k * ·) hz
    simp only [Nat.mul_add] at e2
    rw [vl_snoc, h.len, vl_take_get, vl_take_get, Nat.pow_succ]
    omega
  · by_cases a : k < xs.length
    · exact .inl a
    · by_cases b : k < ys.length
      · exact .inr (.inl b)
      · rw [getD_no a, getD_no b] at hz
        exact .inr (.inr (by omega))
theorem radd_end {xs ys ds : List Nat} {k : Nat} (h : RAdd xs ys ds k 0) (hx : xs.length ≤ k) (hy : ys.length ≤ k) : vl D4 ds = vl D4 xs + vl D4 ys := by
  have := h.eq
  rwa [vl_take_all hx, vl_take_all hy, Nat.mul_zero, Nat.add_zero] at this

set_option maxRecDepth 100000 in
set_option maxHeartbeats 4000000 in
theorem radd_any (A A' : Option Addr) (ca cb : Nat) (xs ys : List Nat) (w : World) (hx : Lim D4 xs) (hy : Lim D4 ys) (hxn : xs.length ≤ 1000000) (hyn : ys.length ≤ 1000000) (hra : Rd .i64 w A xs) (hrb : Rd .i64 w A' ys) :
    Calls Tryz.prog 50 #[.slice A xs.length ca, .slice A' ys.length cb] w (Makes .i64 3 w (dig D4 (vl D4 xs + vl D4 ys))) := by
  obtain ⟨i0, hi, hz0, hz1, hz2⟩ := info_parts info_i64
  go_enter Tryz.func50, Tryz.ntmps50
  go_wp2
  go_loopw [5, 6, 7] (fun v c i wr => ∃ (k z : Nat) (ds : List Nat), i = .int .i64 k ∧ c = .int .i64 z ∧ Own .i64 wr w.heap.size 3 v ds ∧ RAdd xs ys ds k z ∧ k ≤ 1000001 ∧ Below w.heap.size w wr) (fun _ _ i _ => xs.length + ys.length + 1 - (RowKit.intOf i).toNat)
  case atStart => exact ⟨0, 0, [], rfl, rfl, Own.nil _ _ _, ⟨rfl, lim_nil _, by omega, by simp [vl], .inl (Nat.zero_le _)⟩, by omega, Below.refl _ _⟩
  case round =>
    obtain ⟨k, z, ds, rfl, rfl, hO, hR, hk, hB⟩ := hrel
    obtain ⟨A5, c5, rfl, _⟩ := hO.slice
    have hz1' : z ≤ 1 := hR.hc
    by_cases hgo : k < xs.length ∨ k < ys.length ∨ 0 < z
    · have hkb : k ≤ 1000000 := by have := hR.top; omega
      have hks : k ≤ xs.length + ys.length := by have := hR.top; omega
      have hdl := hR.len
      have hown := hO.row hdl
      have HDL := Lib.hid hdl
      have hsz := hB.size
      rw [hdl] at hown
      rw [hdl]
      have hg2 : k < xs.length ∨ ¬ k < xs.length := by omega
      obtain ⟨x, hxe, hxk⟩ : ∃ x, xs.getD k 0 = x ∧ x < 10000 := ⟨_, rfl, getD_lt hx (by decide) k⟩
      obtain ⟨y, hye, hyk⟩ : ∃ y, ys.getD k 0 = y ∧ y < 10000 := ⟨_, rfl, getD_lt hy (by decide) k⟩
      have HS := Lib.hid (radd_step hR hx hy (z + x + y) (by rw [hxe, hye]))
      clear hR hdl hO
      have hcx : k < xs.length → ∃ g o, A = some ⟨g, o, none⟩ ∧ wr.cell? ⟨g, o + k, none⟩ = some (.int .i64 (x : Nat)) := fun h => by
        obtain ⟨g, o, e, hc⟩ := (hra.below hB) k h
        exact ⟨g, o, e, by rw [hc, ← getD_of h, hxe]⟩
      have hcy : k < ys.length → ∃ g o, A' = some ⟨g, o, none⟩ ∧ wr.cell? ⟨g, o + k, none⟩ = some (.int .i64 (y : Nat)) := fun h => by
        obtain ⟨g, o, e, hc⟩ := (hrb.below hB) k h
        exact ⟨g, o, e, by rw [hc, ← getD_of h, hye]⟩
      have hx0 : ¬ k < xs.length → x = 0 := fun h => by rw [← hxe]; exact getD_no h
      have hy0 : ¬ k < ys.length → y = 0 := fun h => by rw [← hye]; exact getD_no h
      have HCX := Lib.hid hcx
      have HCY := Lib.hid hcy
      have HX0 := Lib.hid hx0
      have HY0 := Lib.hid hy0
      clear hcx hcy hx0 hy0 hxe hye hg2
      by_cases hlx : k < xs.length
      · by_cases hly : k < ys.length
        · obtain ⟨g, o, rfl, hc⟩ := HCX.out hlx
          obtain ⟨g', o', rfl, hc'⟩ := HCY.out hly
          clear hgo HCX HCY HX0 HY0
          obtain ⟨S, hS⟩ : ∃ S, z + x + y = S := ⟨_, rfl⟩
          rw [hS] at HS
          have hSi : (z : Int) + (x : Int) + (y : Int) = (S : Int) := by omega
          clear hS
          go_wp2_with (at_builtin; refine wpList_append_own _ rfl _ _ 56 rfl w.heap.size 3 i0 (.int .i64 0) 1 8 Tryz.underlying56 hi hz0 hz1 hz2 rfl (by decide) _ _ _ rfl (hown.alloc _) ⟨wr.heap.size, 0, none⟩ 1 1 [.int .i64 ((S % 10000 : Nat) : Int)] rfl rfl (cell_one_new _ _ _) ?c2 ?c3 ?c4 ?c5 ?_)
          case c2 => simp [Value.oneCell']
          case c3 => unfold maxLen; omega
          case c4 => omega
          case c5 => first | omega | (simp; omega)
          intro v' w4 hown' hgrow _
          have hB4 : Below w.heap.size w w4 := (hB.alloc hsz _).grown hgrow (by simp; omega) (fun z e => (hown.lt z e).1)
          have HO1 := Lib.hid (Own.snoc hown' HDL.out.symm)
          clear hown hown' hgrow
          go_wp2
          go_roundw
          case rel => exact ⟨k + 1, S / 10000, ds ++ [S % 10000], vint (by omega), vint (by omega), HO1.out, HS.out, Nat.succ_le_succ hkb, hB4⟩
          case measure => simp [RowKit.intOf]; omega
        · obtain ⟨g, o, rfl, hc⟩ := HCX.out hlx
          obtain rfl := HY0.out hly
          clear hgo HCX HCY HX0 HY0
          obtain ⟨S, hS⟩ : ∃ S, z + x + 0 = S := ⟨_, rfl⟩
          rw [hS] at HS
          have hSi : (z : Int) + (x : Int) = (S : Int) := by omega
          clear hS
          go_wp2_with (at_builtin; refine wpList_append_own _ rfl _ _ 56 rfl w.heap.size 3 i0 (.int .i64 0) 1 8 Tryz.underlying56 hi hz0 hz1 hz2 rfl (by decide) _ _ _ rfl (hown.alloc _) ⟨wr.heap.size, 0, none⟩ 1 1 [.int .i64 ((S % 10000 : Nat) : Int)] rfl rfl (cell_one_new _ _ _) ?c2 ?c3 ?c4 ?c5 ?_)
          case c2 => simp [Value.oneCell']
          case c3 => unfold maxLen; omega
          case c4 => omega
          case c5 => first | omega | (simp; omega)
          intro v' w4 hown' hgrow _
          have hB4 : Below w.heap.size w w4 := (hB.alloc hsz _).grown hgrow (by simp; omega) (fun z e => (hown.lt z e).1)
          have HO1 := Lib.hid (Own.snoc hown' HDL.out.symm)
          clear hown hown' hgrow
          go_wp2
          go_roundw
          case rel => exact ⟨k + 1, S / 10000, ds ++ [S % 10000], vint (by omega), vint (by omega), HO1.out, HS.out, Nat.succ_le_succ hkb, hB4⟩
          case measure => simp [RowKit.intOf]; omega
      · by_cases hly : k < ys.length
        · obtain rfl := HX0.out hlx
          obtain ⟨g', o', rfl, hc'⟩ := HCY.out hly
          clear hgo HCX HCY HX0 HY0
          obtain ⟨S, hS⟩ : ∃ S, z + 0 + y = S := ⟨_, rfl⟩
          rw [hS] at HS
          have hSi : (z : Int) + (y : Int) = (S : Int) := by omega
          clear hS
          go_wp2_with (at_builtin; refine wpList_append_own _ rfl _ _ 56 rfl w.heap.size 3 i0 (.int .i64 0) 1 8 Tryz.underlying56 hi hz0 hz1 hz2 rfl (by decide) _ _ _ rfl (hown.alloc _) ⟨wr.heap.size, 0, none⟩ 1 1 [.int .i64 ((S % 10000 : Nat) : Int)] rfl rfl (cell_one_new _ _ _) ?c2 ?c3 ?c4 ?c5 ?_)
          case c2 => simp [Value.oneCell']
          case c3 => unfold maxLen; omega
          case c4 => omega
          case c5 => first | omega | (simp; omega)
          intro v' w4 hown' hgrow _
          have hB4 : Below w.heap.size w w4 := (hB.alloc hsz _).grown hgrow (by simp; omega) (fun z e => (hown.lt z e).1)
          have HO1 := Lib.hid (Own.snoc hown' HDL.out.symm)
          clear hown hown' hgrow
          go_wp2
          go_roundw
          case rel => exact ⟨k + 1, S / 10000, ds ++ [S % 10000], vint (by omega), vint (by omega), HO1.out, HS.out, Nat.succ_le_succ hkb, hB4⟩
          case measure => simp [RowKit.intOf]; omega
        · obtain rfl := HX0.out hlx
          obtain rfl := HY0.out hly
          have hzp : 0 < z := by omega
          clear hgo HCX HCY HX0 HY0
          go_wp2_with (at_builtin; refine wpList_append_own _ rfl _ _ 56 rfl w.heap.size 3 i0 (.int .i64 0) 1 8 Tryz.underlying56 hi hz0 hz1 hz2 rfl (by decide) _ _ _ rfl (hown.alloc _) ⟨wr.heap.size, 0, none⟩ 1 1 [.int .i64 ((z % 10000 : Nat) : Int)] rfl rfl (cell_one_new _ _ _) ?c2 ?c3 ?c4 ?c5 ?_)
          case c2 => simp [Value.oneCell']
          case c3 => unfold maxLen; omega
          case c4 => omega
          case c5 => first | omega | (simp; omega)
          intro v' w4 hown' hgrow _
          have hB4 : Below w.heap.size w w4 := (hB.alloc hsz _).grown hgrow (by simp; omega) (fun z e => (hown.lt z e).1)
          have HO1 := Lib.hid (Own.snoc hown' HDL.out.symm)
          clear hown hown' hgrow
          go_wp2
          go_roundw
          case rel => exact ⟨k + 1, z / 10000, ds ++ [z % 10000], vint (by omega), vint (by omega), HO1.out, HS.out, Nat.succ_le_succ hkb, hB4⟩
          case measure => simp [RowKit.intOf]; omega
    · have hlx : ¬ k < xs.length := by omega
      have hly : ¬ k < ys.length := by omega
      obtain rfl : z = 0 := by omega
      have he := radd_end hR (by omega) (by omega)
      have hl := hR.len
      have cT := rtrim_own _ _ ds wr hR.lim (by omega) hO
      rw [he] at cT
      have CT := Lib.hid cT
      clear cT hO hR he hl hgo
      go_wp2_with fail
      refine CT.out.mono ?_
      rintro e w' ⟨⟨v', rfl, hO7⟩, rfl⟩
      have HO7 := Lib.hid hO7
      clear hO7 CT
      go_wp2
      go_ret
      exact ⟨_, rfl, HO7.out, hB⟩
end Go.Proofs.YtkjdmjglpbnmoaaGreatDoor

namespace Go.Proofs.YtkjdmjglpbnmoaaGreatDoor
open Go.RowKit Go.Lib

/-- The state of the inner loop. -/
structure RMul (base cur : List Nat) (i j c x : Nat) (ys : List Nat) : Prop where
  len : cur.length = base.length
  lim : Lim D4 cur
  hc : c < 10000
  eq : vl D4 cur + D4 ^ (i + j) * c = vl D4 base + D4 ^ i * (x * vl D4 (ys.take j))
theorem rmul_start {base : List Nat} (h : Lim D4 base) (i x : Nat) (ys : List Nat) : RMul base base i 0 0 x ys := ⟨rfl, h, by omega, by simp [vl]⟩
theorem rmul_step {base cur ys : List Nat} {i j c x : Nat} (h : RMul base cur i j c x ys) (hx : x < 10000) (hy : Lim D4 ys) (hi : i + j < cur.length) (z : Nat) (hz : z = c + cur[i + j] + x * ys.getD j 0) :
    RMul base (cur.set (i + j) (z % 10000)) i (j + 1) (z / 10000) x ys := by
  have b1 : ys.getD j 0 < 10000 := getD_lt hy (by decide) j
  have b2 : cur[i + j] < 10000 := lim_get h.lim (i + j) hi
  refine ⟨by rw [List.length_set, h.len], lim_set h.lim (Nat.mod_lt _ (by decide)), ?_, ?_⟩
  · have h1 : x * ys.getD j 0 ≤ 9999 * 9999 := Nat.mul_le_mul (by omega) (by omega)
    have h3 := h.hc
    omega
  · have e1 := vl_set D4 cur (i + j) (z % 10000) hi
    have e2 := h.eq
    have hd : D4 ^ (i + j) * z = D4 ^ (i + j) * (z % 10000) + D4 ^ (i + j) * D4 * (z / 10000) := digit_step (B := 10000) (P := D4 ^ (i + j)) (z := z)
    have e3 := congrArg (D4 ^ (i + j) * ·) hz
    have e4 : D4 ^ i * (x * (D4 ^ j * ys.getD j 0)) = D4 ^ (i + j) * (x * ys.getD j 0) := by rw [Nat.pow_add, Nat.mul_left_comm x, Nat.mul_assoc]
    rw [vl_take_get, show i + (j + 1) = (i + j) + 1 by omega, Nat.pow_succ]
    simp only [Nat.mul_add] at e3 ⊢
    rw [e4]
    omega
/-- Beyond the second number's last piece and one more nothing is carried. -/
theorem rmul_carry {base cur xs ys : List Nat} {i j c x : Nat} (h : RMul base cur i j c x ys) (hv : vl D4 base = vl D4 (xs.take i) * vl D4 ys) (hxi : i < xs.length) (hxx : xs[i] = x) (hx : Lim D4 xs) (hy : Lim D4 ys) (hj : ys.length ≤ j) (hc : 0 < c) : j ≤ ys.length := by
  have e := h.eq
  rw [vl_take_all hj, hv] at e
  have e2 : vl D4 (xs.take i) * vl D4 ys + D4 ^ i * (x * vl D4 ys) = vl D4 (xs.take (i + 1)) * vl D4 ys := by
    rw [vl_take_succ D4 xs i hxi, hxx, Nat.add_mul, Nat.mul_assoc]
  rw [e2] at e
  have h1 : vl D4 (xs.take (i + 1)) < D4 ^ (i + 1) := by
    have := vl_lt (lim_take hx (i + 1))
    rwa [List.length_take, Nat.min_eq_left (by omega)] at this
  have h2 := vl_lt hy
  have h3 : vl D4 (xs.take (i + 1)) * vl D4 ys < D4 ^ (i + 1) * D4 ^ ys.length := Nat.mul_lt_mul'' h1 h2
  rw [← Nat.pow_add] at h3
  have h4 : D4 ^ (i + j) * 1 ≤ D4 ^ (i + j) * c := Nat.mul_le_mul_left _ hc
  have h5 : D4 ^ (i + j) < D4 ^ (i + 1 + ys.length) := by omega
  have := (Nat.pow_lt_pow_iff_right (show 1 < D4 by decide)).1 h5
  omega
theorem at_madeI (w : World) (n : Nat) : At .i64 (w.alloc (.cells (madeCells #[Value.int .i64 0] n) 3)) w.heap.size 3 [] (List.replicate n 0) [] := by
  refine ⟨_, heap_alloc_new w _, ?_⟩
  rw [toList_madeCells_one, nums, List.map_replicate]
  simp

set_option maxRecDepth 100000 in
set_option maxHeartbeats 4000000 in
theorem rmul_any (A A' : Option Addr) (ca cb : Nat) (xs ys : List Nat) (w : World) (hx : Lim D4 xs) (hy : Lim D4 ys) (hxn : xs.length ≤ 1000000) (hyn : ys.length ≤ 1000000) (hra : Rd .i64 w A xs) (hrb : Rd .i64 w A' ys) :
    Calls Tryz.prog 51 #[.slice A xs.length ca, .slice A' ys.length cb] w (Makes .i64 3 w (dig D4 (vl D4 xs * vl D4 ys))) := by
  obtain ⟨i0, hi, hz0, hz1, hz2⟩ := info_parts info_i64
  have hmk : ∀ W : World, (Instr.makeSlice 56 (.int .i64 ((xs.length : Int) + (ys.length : Int) + 1)) (.int .i64 ((xs.length : Int) + (ys.length : Int) + 1))).run Tryz.prog W = .ok (.slice (some ⟨W.heap.size, 0, none⟩) (xs.length + ys.length + 1) (xs.length + ys.length + 1)) (W.alloc (.cells (madeCells (Value.int .i64 0).cells ((xs.length + ys.length + 1) * 1)) 3)) := fun W => by
    have := run_make (P := Tryz.prog) W 56 3 i0 (.int .i64 0) Tryz.underlying56 hi hz0 .i64 .i64 ((xs.length : Int) + (ys.length : Int) + 1) ((xs.length : Int) + (ys.length : Int) + 1) (by omega) (by omega) (by rw [hz2]; omega) (by omega)
    rw [hz1, show ((xs.length : Int) + (ys.length : Int) + 1).toNat = xs.length + ys.length + 1 by omega] at this
    exact this
  clear hi hz0 hz1 hz2
  go_enter Tryz.func51, Tryz.ntmps51
  go_wp2
  have fN := at_madeI w (xs.length + ys.length + 1)
  have hBa := (Below.refl w.heap.size w).alloc (Nat.le_refl _) (.cells (madeCells #[Value.int .i64 0] (xs.length + ys.length + 1)) 3)
  obtain ⟨g, hg⟩ : ∃ g, w.heap.size = g := ⟨_, rfl⟩
  have hgB : w.heap.size ≤ g := by omega
  rw [hg] at fN
  rw [hg]
  have HG := Lib.hid hg
  clear hg
  go_loopw [6] (fun i wr => ∃ (k : Nat) (cur : List Nat), k ≤ xs.length ∧ i = .int .i64 k ∧ At .i64 wr g 3 [] cur [] ∧ cur.length = xs.length + ys.length + 1 ∧ Lim D4 cur ∧ vl D4 cur = vl D4 (xs.take k) * vl D4 ys ∧ Below w.heap.size w wr) (fun i _ => xs.length - (RowKit.intOf i).toNat)
  case atStart => exact ⟨0, _, Nat.zero_le _, rfl, fN, List.length_replicate, lim_zeros (by decide) _, by rw [vl_zeros]; simp [vl], hBa⟩
  case round =>
    clear fN hBa
    obtain ⟨k, cur, hk, rfl, fA, hlen, hL, hv, hB⟩ := hrel
    have HLEN := Lib.hid hlen
    have HV := Lib.hid hv
    clear hlen hv
    by_cases hlt : k < xs.length
    · obtain ⟨ga, oa, rfl, hca⟩ := hra k hlt
      obtain ⟨x, hxe, hxk⟩ := lim4 hx k hlt
      rw [hxe] at hca
      have HXE := Lib.hid hxe
      have hgab := World.block_lt_of_cell? w _ hca
      clear hxe
      go_wp2
      obtain ⟨wo, rfl⟩ : ∃ wo : World, wo = wr := ⟨wr, rfl⟩
      go_loopw [7, 8] (fun c j wi => ∃ (m z : Nat) (cur' : List Nat), j = .int .i64 m ∧ c = .int .i64 z ∧ At .i64 wi g 3 [] cur' [] ∧ RMul cur cur' k m z x ys ∧ (m ≤ ys.length ∨ z = 0) ∧ m ≤ ys.length + 1 ∧ Below w.heap.size w wi) (fun _ j _ => ys.length + 1 - (RowKit.intOf j).toNat)
      case atStart => exact ⟨0, 0, cur, rfl, rfl, fA, rmul_start hL k x ys, .inl (Nat.zero_le _), by omega, hB⟩
      case round =>
        clear fA hB
        obtain ⟨m, z, cur', rfl, rfl, fA, hM, hmz, hmb, hB⟩ := hrel
        have hzb : z < 10000 := hM.hc
        have hlc : cur'.length = xs.length + ys.length + 1 := by rw [hM.len, HLEN.out]
        by_cases hgo : m < ys.length ∨ 0 < z
        · have hml : m ≤ ys.length := by omega
          have hkm : k + m < cur'.length := by omega
          obtain ⟨d, hde, hdk⟩ := lim4 hM.lim (k + m) hkm
          have hcd := fA.cell (o := 0) rfl (k + m) hkm
          rw [Nat.zero_add, hde] at hcd
          have hfz := fA.frozen (k + m)
          have hkml : (k : Int) + (m : Int) < (xs.length : Int) + (ys.length : Int) + 1 := by omega
          have hcw : wr.cell? ⟨ga, oa + k, none⟩ = some (.int .i64 (x : Nat)) := (hB.cell hgab).trans hca
          by_cases hmt : m < ys.length
          · obtain ⟨gb, ob, rfl, hcb⟩ := (hrb.below hB) m hmt
            obtain ⟨y, hye, hyk⟩ := lim4 hy m hmt
            rw [hye] at hcb
            have hpb : x * y ≤ 9999 * 9999 := Nat.mul_le_mul (by omega) (by omega)
            obtain ⟨p, hp⟩ : ∃ p, x * y = p := ⟨_, rfl⟩
            have hpi : (x : Int) * (y : Int) = (p : Int) := by rw [← hp]; exact (Int.natCast_mul _ _).symm
            rw [hp] at hpb
            have hS := rmul_step hM hxk hy hkm (z + d + p) (by rw [getD_of hmt, hye, hde, hp])
            have hA1 := fA.set (o := 0) rfl (k + m) ((z + d + p) % 10000) hkm
            rw [Nat.zero_add] at hA1
            have HS := Lib.hid hS
            have hx1 : (k : Int) < (xs.length : Int) := by omega
            have hy1 : (m : Int) < (ys.length : Int) := by omega
            clear hye hde hp hS hM hlc hkm hmz hgo
            obtain ⟨S, hSe⟩ : ∃ S, z + d + p = S := ⟨_, rfl⟩
            rw [hSe] at HS hA1
            have hSi : (z : Int) + (d : Int) + (p : Int) = (S : Int) := by omega
            have hSb : S ≤ 100000000 := by omega
            have hw1 : IntKind.i64.wrap (p : Int) = (p : Int) := IntWalk.i64_in _ (by omega)
            have hw2 : IntKind.i64.wrap (S : Int) = (S : Int) := IntWalk.i64_in _ (by omega)
            have HA1 := Lib.hid hA1
            clear hA1 hSe
            go_wp2
            go_quiet (fail)
            clear hw1 hw2
            go_wp2
            clear hpi hSi
            go_roundw
            case rel => exact ⟨m + 1, S / 10000, _, by go_num, vint (by omega), HA1.out, HS.out, by omega, by omega, (below_drewN' hB _).setCell hgB _⟩
            case measure => simp [RowKit.intOf]; omega
          · have hzp : 0 < z := by omega
            have hS := rmul_step hM hxk hy hkm (z + d) (by rw [getD_no hmt, hde]; simp)
            have hA1 := fA.set (o := 0) rfl (k + m) ((z + d) % 10000) hkm
            rw [Nat.zero_add] at hA1
            have HS := Lib.hid hS
            have HA1 := Lib.hid hA1
            have hc2 : m + 1 ≤ ys.length ∨ (z + d) / 10000 = 0 := by
              rcases Nat.eq_zero_or_pos ((z + d) / 10000) with h | h
              · exact .inr h
              · have := rmul_carry hS HV.out hlt HXE.out hx hy (by omega) h
                omega
            clear hde hS hA1 hM hlc hkm hmz hgo
            go_wp2
            go_roundw
            case rel => exact ⟨m + 1, (z + d) / 10000, _, by go_num, vint (by omega), HA1.out, HS.out, hc2, by omega, hB.setCell hgB _⟩
            case measure => simp [RowKit.intOf]; omega
        · have hmy : ys.length ≤ m := by omega
          obtain rfl : z = 0 := by omega
          have hv2 : vl D4 cur' = vl D4 (xs.take (k + 1)) * vl D4 ys := by
            have e := hM.eq
            rw [vl_take_all hmy, Nat.mul_zero, Nat.add_zero, HV.out] at e
            rw [e, vl_take_succ D4 xs k hlt, HXE.out, Nat.add_mul, Nat.mul_assoc]
          have HV2 := Lib.hid hv2
          have HLC := Lib.hid hlc
          have hlim := hM.lim
          have hm1 : ¬ m < ys.length := by omega
          clear hv2 hlc hM hmz hgo
          go_wp2
          go_roundw
          case rel => exact ⟨k + 1, cur', hlt, by go_num, fA, HLC.out, hlim, HV2.out, hB⟩
          case measure => simp [RowKit.intOf]; omega
    · obtain rfl : k = xs.length := by omega
      have hO := own_of_at (B := w.heap.size) (cap := xs.length + ys.length + 1) fA hgB (by rw [HLEN.out]; rfl) (by unfold maxLen; omega)
      rw [HLEN.out] at hO
      have cT := rtrim_own _ _ cur wr hL (by rw [HLEN.out]; omega) hO
      have hv := HV.out
      rw [vl_take_all (Nat.le_refl _)] at hv
      rw [hv] at cT
      have CT := Lib.hid cT
      clear cT hO hv fA
      go_wp2_with fail
      refine CT.out.mono ?_
      rintro e w' ⟨⟨v', rfl, hO7⟩, rfl⟩
      have HO7 := Lib.hid hO7
      clear hO7 CT
      go_wp2
      go_ret
      exact ⟨_, rfl, HO7.out, hB⟩
end Go.Proofs.YtkjdmjglpbnmoaaGreatDoor

namespace Go.Proofs.YtkjdmjglpbnmoaaGreatDoor
open Go.RowKit Go.Lib

/-- May so many digits stand behind the point? -/
def fitsB (p : Int) : Bool := decide (0 ≤ p ∧ p ≤ 200)
theorem fits_yes (p : Int) (w : World) (h0 : 0 ≤ p) (h2 : p ≤ 200) : Calls Tryz.prog 28 #[.int .i64 p] w fun e w' => e = .returned (.bool true) ∧ w = w' := by
  go_enter Tryz.func28, Tryz.ntmps28
  go_wp2
  go_ret
  exact ⟨rfl, rfl⟩
theorem fits_no (p : Int) (w : World) (h : p < 0 ∨ 200 < p) : Calls Tryz.prog 28 #[.int .i64 p] w fun e w' => e = .returned (.bool false) ∧ w = w' := by
  rcases h with h | h
  · have h1 : ¬ 0 ≤ p := by omega
    go_enter Tryz.func28, Tryz.ntmps28
    go_wp2
    go_ret
    exact ⟨rfl, rfl⟩
  · have h1 : ¬ p ≤ 200 := by omega
    have h0 : 0 ≤ p := by omega
    go_enter Tryz.func28, Tryz.ntmps28
    go_wp2
    go_ret
    exact ⟨rfl, rfl⟩

/-- A natural's lowest 64 binary digits, as limbs. -/
def low64 (xs : List Nat) : Nat := vl B32 (xs.take 2)
theorem low64_mod {xs : List Nat} (hx : Lim B32 xs) : low64 xs = vl B32 xs % 18446744073709551616 := by
  unfold low64
  by_cases h : 2 ≤ xs.length
  · have h1 := vl_take_drop B32 xs 2 h
    have h2 := vl_lt (lim_take hx 2)
    rw [List.length_take, Nat.min_eq_left h] at h2
    have e : B32 ^ 2 = 18446744073709551616 := by decide
    rw [e] at h1 h2
    rw [h1, Nat.add_mul_mod_self_left, Nat.mod_eq_of_lt h2]
  · have h2 := vl_lt hx
    rw [List.take_of_length_le (by omega)]
    rw [Nat.mod_eq_of_lt]
    have h3 : B32 ^ xs.length ≤ B32 ^ 2 := Nat.pow_le_pow_right (by decide) (by omega)
    have e : B32 ^ 2 = 18446744073709551616 := by decide
    omega
theorem or_lo (x : Nat) (hx : x < 4294967296) : bits .or .u64 0 (x : Int) = (x : Int) := by
  have h := u64_or_nat 0 x (by omega) (by omega)
  rwa [Nat.zero_or] at h
theorem or_hi {z x : Nat} (hz : z < 4294967296) (hx : x < 4294967296) : bits .or .u64 (x : Int) ((z : Int) * 4294967296) = (x : Int) + (z : Int) * 4294967296 := by
  have h := u64_or_nat x (z * 4294967296) (by omega) (by omega)
  rw [Nat.or_comm, show z * 4294967296 ||| x = z * 4294967296 + x from or_low (k := 32) hx] at h
  rw [Int.natCast_mul, Int.natCast_add, Int.natCast_mul] at h
  rw [Int.add_comm]
  exact h
set_option maxRecDepth 100000 in
set_option maxHeartbeats 1000000 in
theorem word_any (A : Option Addr) (ca : Nat) (xs : List Nat) (w : World) (hx : Lim B32 xs) (hxn : xs.length ≤ 1000) (hcap : xs.length ≤ ca) (hcm : ca ≤ maxLen) (hr : Rd .u32 w A xs) :
    Calls Tryz.prog 23 #[.slice A xs.length ca] w fun e w' => e = .returned (.int .u64 (low64 xs)) ∧ w = w' := by
  unfold maxLen at hcm
  obtain ⟨n, hn⟩ : ∃ n, min 2 xs.length = n := ⟨_, rfl⟩
  have hni : min (2 : Int) (xs.length : Int) = (n : Int) := by omega
  have hn2 : n ≤ 2 := by omega
  have hnl : n ≤ xs.length := by omega
  have hnc : n ≤ ca := by omega
  have HE := Lib.hid (show low64 xs = vl B32 (xs.take n) by
    unfold low64
    by_cases h : 2 ≤ xs.length
    · rw [show n = 2 by omega]
    · rw [List.take_of_length_le (by omega), List.take_of_length_le (by omega)])
  clear hn
  go_enter Tryz.func23, Tryz.ntmps23
  go_wp2
  go_loop [3, 12] (fun v i => ∃ k : Nat, k ≤ n ∧ i = .int .i64 k ∧ v = .int .u64 (vl B32 (xs.take k))) (fun _ i => n - (RowKit.intOf i).toNat)
  case atStart => exact ⟨0, Nat.zero_le _, rfl, rfl⟩
  case round =>
    obtain ⟨k, hk, rfl, rfl⟩ := hrel
    by_cases hlt : k < n
    · have hkl : k < xs.length := by omega
      obtain ⟨g, o, rfl, hc⟩ := hr k hkl
      obtain ⟨x, hxe, hxk⟩ := lim32 hx k hkl
      rw [hxe] at hc
      have HV := Lib.hid (vl_take_succ B32 xs k hkl)
      rw [hxe] at HV
      clear hxe
      rcases (by omega : k = 0 ∨ k = 1) with rfl | rfl
      · have hor := or_lo x hxk
        rw [Nat.add_zero] at hc
        rw [List.take_zero, vl_nil]
        go_wp2
        clear hor
        go_round
        case rel => exact ⟨1, by omega, rfl, by rw [HV.out, List.take_zero, vl_nil]; exact vint (by simp)⟩
        case measure => simp [RowKit.intOf]; omega
      · have hy := vl_lt (lim_take hx 1)
        rw [List.length_take, Nat.min_eq_left (by omega), Nat.pow_one] at hy
        obtain ⟨y, hye⟩ : ∃ y, vl B32 (xs.take 1) = y := ⟨_, rfl⟩
        rw [hye] at hy HV
        rw [hye]
        have hor := or_hi hxk hy
        clear hye
        go_wp2
        clear hor
        go_round
        case rel => exact ⟨2, by omega, rfl, by rw [HV.out]; exact vint (by simp; omega)⟩
        case measure => simp [RowKit.intOf]; omega
    · obtain rfl : k = n := by omega
      go_wp2
      go_ret
      exact ⟨by rw [HE.out]; rfl, rfl⟩
end Go.Proofs.YtkjdmjglpbnmoaaGreatDoor

namespace Go.Proofs.YtkjdmjglpbnmoaaGreatDoor
open Go.RowKit Go.Lib

theorem Own.slice_ {κ : IntKind} {w : World} {B : Nat} {t : TypeId} {v : Value} {xs : List Nat} (h : Own κ w B t v xs) : ∃ A cap, v = .slice A xs.length cap ∧ (A = none → cap = 0) := by
  rcases h.forms with ⟨rfl, rfl⟩ | ⟨g, cap, rfl, _, _, _⟩
  · exact ⟨none, 0, rfl, fun _ => rfl⟩
  · exact ⟨_, cap, rfl, fun e => by cases e⟩
theorem len_dig {n : Nat} (h : n < B32 ^ 256) : (dig B32 n).length ≤ 256 := (dig_len_le (by decide) n 256).2 h
theorem vld_dig {n : Nat} (h : n < B32 ^ 256) : vld (dig B32 n) = true := vld_iff.2 ⟨len_dig h, (dig_norm (by decide) n).2⟩
theorem res2_ok {xs ys : List Nat} {n : Nat} (hx : vld xs = true) (hy : vld ys = true) (h : n < B32 ^ 256) : res2 xs ys n = (dig B32 n, 0) := by
  rw [res2, if_pos ⟨hx, hy⟩, natRes, if_pos (len_dig h)]
theorem lim_dig (n : Nat) : Lim B32 (dig B32 n) := (dig_norm (by decide) n).1
end Go.Proofs.YtkjdmjglpbnmoaaGreatDoor
