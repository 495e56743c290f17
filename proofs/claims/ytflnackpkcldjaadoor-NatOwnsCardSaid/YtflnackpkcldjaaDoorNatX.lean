/- Contracts of layer 2: Shl, Mul. -/
import Derived.Test.YtflnackpkcldjaaDoorNatW
namespace Go.Proofs.YtflnackpkcldjaaDoor
open Go.RowKit Go.Lib

/-- What Shl answers. -/
noncomputable def shlRes (xs : List Nat) (k : Int) : List Nat × Int :=
  if vld xs = true then (if k < 0 then ([], 1) else if xs = [] then ([], 0) else if 8192 - (bitsN xs : Int) < k then ([], 3) else (dig B32 (vl B32 xs * 2 ^ k.toNat), 0)) else ([], 30)
theorem shl_value {xs As : List Nat} {low r k : Nat} (hv : vl B32 As = vl B32 xs * 2 ^ r) (hk : k = 32 * low + r) : vl B32 (List.replicate low 0 ++ As) = vl B32 xs * 2 ^ k := by
  rw [vl_append, vl_zeros, Nat.zero_add, List.length_replicate, hv, hk, Nat.pow_add, Nat.pow_mul]
  show (2 ^ 32) ^ low * (vl B32 xs * 2 ^ r) = _
  exact Nat.mul_left_comm _ _ _

set_option maxRecDepth 100000 in
set_option maxHeartbeats 4000000 in
theorem shl_any (A : Option Addr) (ca : Nat) (xs : List Nat) (k : Int) (w : World) (hx : Lim B32 xs) (hxn : xs.length ≤ 1000) (hk1 : -9223372036854775808 ≤ k) (hk2 : k ≤ 9223372036854775807) (hra : Rd .u32 w A xs) :
    Calls Tryd.prog 27 #[.slice A xs.length ca, .int .i64 k] w (RowErr w.heap.size w (shlRes xs k)) := by
  have cV := valid_any A ca xs w (by omega) hx hra
  by_cases hvx : vld xs = true
  case neg =>
    have hvf : vld xs = false := by simpa using hvx
    have HR := Lib.hid (show shlRes xs k = ([], 30) by rw [shlRes, if_neg hvx])
    rw [hvf] at cV
    have CV := Lib.hid cV
    clear cV hvx hvf
    go_enter Tryd.func27, Tryd.ntmps27
    go_wp2_with fail
    refine CV.out.mono ?_
    rintro e w' ⟨rfl, rfl⟩
    go_wp2
    go_ret2
    exact ⟨_, by rw [HR.out]; rfl, by rw [HR.out]; exact Own.nil _ _ _, Below.refl _ _⟩
  rw [hvx] at cV
  have CV := Lib.hid cV
  clear cV
  by_cases hk0 : k < 0
  · have HR := Lib.hid (show shlRes xs k = ([], 1) by rw [shlRes, if_pos hvx, if_pos hk0])
    clear hvx
    go_enter Tryd.func27, Tryd.ntmps27
    go_wp2_with fail
    refine CV.out.mono ?_
    rintro e w' ⟨rfl, rfl⟩
    go_wp2
    go_ret2
    exact ⟨_, by rw [HR.out]; rfl, by rw [HR.out]; exact Own.nil _ _ _, Below.refl _ _⟩
  obtain ⟨kn, rfl⟩ : ∃ kn : Nat, k = kn := ⟨k.toNat, by omega⟩
  by_cases h0 : xs = []
  · have HR := Lib.hid (show shlRes xs (kn : Int) = ([], 0) by rw [shlRes, if_pos hvx, if_neg hk0, if_pos h0])
    have hb : ((xs.length : Int) == 0) = true := by rw [h0]; rfl
    clear hvx h0
    go_enter Tryd.func27, Tryd.ntmps27
    go_wp2_with fail
    refine CV.out.mono ?_
    rintro e w' ⟨rfl, rfl⟩
    go_wp2
    go_ret2
    exact ⟨_, by rw [HR.out]; rfl, by rw [HR.out]; exact Own.nil _ _ _, Below.refl _ _⟩
  have hl : 1 ≤ xs.length := List.length_pos_iff.2 h0
  have hb : ((xs.length : Int) == 0) = false := by rw [beq_eq_false_iff_ne]; omega
  have hxl : xs.length ≤ 256 := (vld_iff.1 hvx).1
  have cB := bits_any A ca xs w hx hxn hra
  have hbn : bitsN xs ≤ 10000 := by
    rw [bitsN, if_neg h0]
    have hy := getD_lt hx (by decide) (xs.length - 1)
    by_cases hy0 : xs.getD (xs.length - 1) 0 = 0
    · rw [hy0]
      have : Lib.bitLen 0 = 0 := by decide
      omega
    · have e : Lib.bitLen (xs.getD (xs.length - 1) 0) = Lib.bitLenAux 32 (xs.getD (xs.length - 1) 0) := Lib.bitLenAux_fuel 32 _ hy 64 (by omega)
      have := (bitLenAux_bounds 32 _ hy hy0).2.1
      omega
  by_cases hbig : 8192 - (bitsN xs : Int) < (kn : Int)
  · have HR := Lib.hid (show shlRes xs (kn : Int) = ([], 3) by rw [shlRes, if_pos hvx, if_neg hk0, if_neg h0, if_pos hbig])
    obtain ⟨bn, hbe⟩ : ∃ bn, bitsN xs = bn := ⟨_, rfl⟩
    rw [hbe] at cB hbn hbig
    have CB := Lib.hid cB
    clear hvx h0 cB hbe
    go_enter Tryd.func27, Tryd.ntmps27
    go_wp2_with fail
    refine CV.out.mono ?_
    rintro e w' ⟨rfl, rfl⟩
    go_wp2_with fail
    refine CB.out.mono ?_
    rintro e w' ⟨rfl, rfl⟩
    go_wp2
    go_ret2
    exact ⟨_, by rw [HR.out]; rfl, by rw [HR.out]; exact Own.nil _ _ _, Below.refl _ _⟩
  have HR := Lib.hid (show shlRes xs (kn : Int) = (dig B32 (vl B32 xs * 2 ^ kn), 0) by rw [shlRes, if_pos hvx, if_neg hk0, if_neg h0, if_neg hbig]; rfl)
  obtain ⟨bn, hbe⟩ : ∃ bn, bitsN xs = bn := ⟨_, rfl⟩
  rw [hbe] at cB hbn hbig
  have CB := Lib.hid cB
  obtain ⟨low, hlow⟩ : ∃ low, kn / 32 = low := ⟨_, rfl⟩
  obtain ⟨r, hr⟩ : ∃ r, kn % 32 = r := ⟨_, rfl⟩
  have hlowi : (kn : Int) / 32 = (low : Int) := by omega
  have hri : (kn : Int) % 32 = (r : Int) := by omega
  have hr32 : r < 32 := by omega
  have hlb : low ≤ 256 := by omega
  have HK := Lib.hid (show kn = 32 * low + r by omega)
  obtain ⟨i0, hi, hz0, hz1, hz2⟩ := info_parts info_u32
  have hmk : ∀ W : World, (Instr.makeSlice 22 (.int .i64 ((low : Int) + (xs.length : Int) + 1)) (.int .i64 ((low : Int) + (xs.length : Int) + 1))).run Tryd.prog W = .ok (.slice (some ⟨W.heap.size, 0, none⟩) (low + xs.length + 1) (low + xs.length + 1)) (W.alloc (.cells (madeCells (Value.int .u32 0).cells ((low + xs.length + 1) * 1)) 47)) := fun W => by
    have := run_make (P := Tryd.prog) W 22 47 i0 (.int .u32 0) Tryd.underlying22 hi hz0 .i64 .i64 ((low : Int) + (xs.length : Int) + 1) ((low : Int) + (xs.length : Int) + 1) (by omega) (by omega) (by rw [hz2]; omega) (by omega)
    rw [hz1, show ((low : Int) + (xs.length : Int) + 1).toNat = low + xs.length + 1 by omega] at this
    exact this
  have HXN := Lib.hid h0
  clear hvx h0 cB hbe hlow hr hi hz0 hz1 hz2
  go_enter Tryd.func27, Tryd.ntmps27
  go_wp2_with fail
  refine CV.out.mono ?_
  rintro e w' ⟨rfl, rfl⟩
  go_wp2_with fail
  refine CB.out.mono ?_
  rintro e w' ⟨rfl, rfl⟩
  clear CV CB
  go_wp2_with fail
  rw [show low + xs.length + 1 - low = xs.length + 1 by omega]
  have fN : At .u32 (w.alloc (.cells (madeCells #[Value.int .u32 0] (low + xs.length + 1)) 47)) w.heap.size 47 (nums .u32 (List.replicate low 0)) (List.replicate (xs.length + 1) 0) [] := by
    have := at_made w (low + xs.length + 1)
    rw [Nat.mul_one] at this
    refine this.recut ?_
    rw [List.nil_append, List.append_nil, List.append_nil, ← nums_append, List.replicate_append_replicate, Nat.add_assoc]
  have hBa := (Below.refl w.heap.size w).alloc (Nat.le_refl _) (.cells (madeCells #[Value.int .u32 0] (low + xs.length + 1)) 47)
  have c1 := fun cap => shiftUp_any w.heap.size low cap ca r A 47 (nums .u32 (List.replicate low 0)) [] (List.replicate (xs.length + 1) 0) xs _ fN (by rw [nums_len, List.length_replicate]) (lim_zeros (by decide) _) hx (by simp; omega) (by simp) hr32 (hra.below hBa) (fun h => hra.off h (Nat.le_refl _))
  rw [List.length_replicate] at c1
  refine (c1 _).mono ?_
  clear c1 fN
  rintro e W2 ⟨rfl, ⟨cur, c, hS, hl1, _, hA1⟩, hG1⟩
  rw [List.length_replicate] at hl1 hA1
  rw [putTop, if_pos (Nat.lt_succ_self _)] at hA1
  obtain ⟨b1, b2, b3⟩ := shu_more hS hl1 (Nat.pow_le_pow_right (by omega) (show r ≤ 32 by omega) : 2 ^ r ≤ 2 ^ 32)
  obtain ⟨As, hAs⟩ : ∃ As, cur.set xs.length c = As := ⟨_, rfl⟩
  rw [hAs] at hA1 b1 b2 b3
  have hB2 : Below w.heap.size w W2 := grown_below hBa hG1 hBa.size (Nat.le_refl _)
  have fF : At .u32 W2 w.heap.size 47 [] (List.replicate low 0 ++ As) [] := hA1.recut (by rw [List.nil_append, List.append_nil, List.append_nil, nums_append])
  have hll : (List.replicate low 0 ++ As).length = low + xs.length + 1 := by rw [List.length_append, List.length_replicate, b2]; omega
  have hO := own_of_at (B := w.heap.size) (cap := low + xs.length + 1) fF (Nat.le_refl _) (by rw [hll]; rfl) (by unfold maxLen; omega)
  rw [hll] at hO
  have cM := trim_own _ _ _ W2 (lim_append.2 ⟨lim_zeros (by decide) low, b1⟩) (by rw [hll]; omega) hO
  rw [shl_value b3 HK.out] at cM
  have CM := Lib.hid cM
  clear cM hO hll fF hA1 hAs hS hl1 hG1 b1 b2 b3 hBa
  go_wp2_with fail
  refine CM.out.mono ?_
  rintro e w' ⟨⟨v', rfl, hO4, _⟩, rfl⟩
  have HO4 := Lib.hid hO4
  clear hO4 CM
  go_wp2
  go_ret2
  exact ⟨_, by rw [HR.out]; rfl, by rw [HR.out]; exact HO4.out, hB2⟩
end Go.Proofs.YtflnackpkcldjaaDoor
