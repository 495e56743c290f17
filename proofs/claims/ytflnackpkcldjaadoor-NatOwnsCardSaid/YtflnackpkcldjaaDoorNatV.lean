/- Contracts of layer 2: Add, Sub. -/
import Derived.Laws.CopyOwn
import Derived.Test.YtflnackpkcldjaaDoorNatQ
namespace Go.Proofs.YtflnackpkcldjaaDoor
open Go.RowKit Go.Lib

/-- A natural, or that an argument is none. -/
noncomputable def res2 (xs ys : List Nat) (n : Nat) : List Nat × Int := if vld xs = true ∧ vld ys = true then natRes n else ([], 30)
theorem add_sum' {B : Nat} (hB : 2 ≤ B) {xs ys cur : List Nat} {c : Nat} (hx : Lim B xs) (hy : Lim B ys) (hl : ys.length ≤ xs.length) (h : AddR B (xs ++ [0]) ys cur (xs.length + 1) c) : vl B cur = vl B xs + vl B ys ∧ Lim B cur ∧ cur.length = xs.length + 1 := by
  have hll : (xs ++ [0]).length = xs.length + 1 := by simp
  have ae := add_end (part := xs ++ [0]) (by rw [hll]; exact h) (by rw [hll]; omega)
  rw [hll, vl_snoc, Nat.mul_zero, Nat.add_zero] at ae
  obtain ⟨e1, e2, e3, e4⟩ := ae
  have h1 := vl_lt hx
  have h2 := vl_lt hy
  have h3 : B ^ ys.length ≤ B ^ xs.length := Nat.pow_le_pow_right (by omega) hl
  have h4 : B ^ (xs.length + 1) = B ^ xs.length * B := Nat.pow_succ ..
  have hc : c = 0 := by
    rcases Nat.eq_zero_or_pos c with h | h
    · exact h
    · have a : B ^ (xs.length + 1) * 1 ≤ B ^ (xs.length + 1) * c := Nat.mul_le_mul_left _ h
      have b : B ^ xs.length * 2 ≤ B ^ xs.length * B := Nat.mul_le_mul_left _ hB
      omega
  subst hc
  exact ⟨by omega, e2, e3⟩
theorem add_sum {xs ys cur : List Nat} {c : Nat} (hx : Lim B32 xs) (hy : Lim B32 ys) (hl : ys.length ≤ xs.length) (h : AddR B32 (xs ++ [0]) ys cur (xs.length + 1) c) : vl B32 cur = vl B32 xs + vl B32 ys ∧ Lim B32 cur ∧ cur.length = xs.length + 1 := add_sum' (by decide) hx hy hl h
/-- 'copy(out, a)' into a new row that has one place more. -/
theorem copy_new (A : Option Addr) (cap g : Nat) (xs : List Nat) (W : World) (hr : Rd .u32 W A xs) (hA : At .u32 W g 47 [] (List.replicate (xs.length + 1) 0) []) :
    ∃ w2, (Builtin.copy_ #[22, 22] 3 #[.slice (some ⟨g, 0, none⟩) (xs.length + 1) (xs.length + 1), .slice A xs.length cap]).run Tryd.prog W = .ok (.int .i64 (xs.length : Int)) w2 ∧ At .u32 w2 g 47 [] (xs ++ [0]) [] ∧ W.grownBy w2 (some g) := by
  obtain ⟨i0, hi, hz0, hz1, hz2⟩ := info_parts info_u32
  have hsz : (Tryd.prog.info? 47).map (·.size) = some 1 := by rw [hi]; simp [hz1]
  by_cases h0 : xs = []
  · subst h0
    exact ⟨W, run_copy_none (P := Tryd.prog) W 22 22 3 47 _ A _ _ _ cap Tryd.underlying22 hsz rfl, hA, grown_refl _ _⟩
  · obtain ⟨ga, oa, rfl, _⟩ := hr.at_ h0
    obtain ⟨cs, h1, h2⟩ := hA
    have hl : cs.size = xs.length + 1 := by rw [← Array.length_toList, h2]; simp [nums_len]
    have hrun := run_copy_row (P := Tryd.prog) W 22 22 3 47 g 0 (xs.length + 1) (xs.length + 1) ⟨ga, oa, none⟩ xs.length cap cs 47 (nums .u32 xs) Tryd.underlying22 hsz h1
      (by rw [nums_len]; exact (Nat.min_eq_left (Nat.le_succ _)).symm) hr.news (by rw [nums_len]; omega) (nums_one _ _)
    refine ⟨_, by rw [hrun, nums_len]; rfl, ⟨_, setRow_heap W g cs _ 47 (0, 0) h1, ?_⟩, ?_⟩
    · rw [h2, nums_append]
      simp [nums]
    · refine ⟨rfl, rfl, rfl, by simp [World.setRow], fun k _ hk => ?_⟩
      simp only [World.setRow, Array.getElem?_modify]
      rw [if_neg (fun e => hk (by rw [e]))]

set_option maxRecDepth 100000 in
set_option maxHeartbeats 4000000 in
theorem add_any (A A' : Option Addr) (ca cb : Nat) (xs ys : List Nat) (w : World) (hx : Lim B32 xs) (hy : Lim B32 ys) (hxn : xs.length ≤ 1000) (hyn : ys.length ≤ 1000) (hra : Rd .u32 w A xs) (hrb : Rd .u32 w A' ys) :
    Calls Tryd.prog 12 #[.slice A xs.length ca, .slice A' ys.length cb] w (RowErr w.heap.size w (res2 xs ys (vl B32 xs + vl B32 ys))) := by
  have cV := fun (W : World) (h : Rd .u32 W A xs) => valid_any A ca xs W (by omega) hx h
  have cU := fun (W : World) (h : Rd .u32 W A' ys) => valid_any A' cb ys W (by omega) hy h
  by_cases hvx : vld xs = true
  case neg =>
    have hvf : vld xs = false := by simpa using hvx
    have HR := Lib.hid (show res2 xs ys (vl B32 xs + vl B32 ys) = ([], 30) by rw [res2, if_neg (fun h => hvx h.1)])
    rw [hvf] at cV
    have CV := Lib.hid cV
    clear cV cU hvx hvf
    go_enter Tryd.func12, Tryd.ntmps12
    go_wp2_with fail
    refine (CV.out _ hra).mono ?_
    rintro e w' ⟨rfl, rfl⟩
    go_wp2
    go_ret2
    exact ⟨_, by rw [HR.out]; rfl, by rw [HR.out]; exact Own.nil _ _ _, Below.refl _ _⟩
  by_cases hvy : vld ys = true
  case neg =>
    have hvf : vld ys = false := by simpa using hvy
    have HR := Lib.hid (show res2 xs ys (vl B32 xs + vl B32 ys) = ([], 30) by rw [res2, if_neg (fun h => hvy h.2)])
    rw [hvx] at cV
    rw [hvf] at cU
    have CV := Lib.hid cV
    have CU := Lib.hid cU
    clear cV cU hvx hvy hvf
    go_enter Tryd.func12, Tryd.ntmps12
    go_wp2_with fail
    refine (CV.out _ hra).mono ?_
    rintro e w' ⟨rfl, rfl⟩
    go_wp2_with fail
    refine (CU.out _ hrb).mono ?_
    rintro e w' ⟨rfl, rfl⟩
    go_wp2
    go_ret2
    exact ⟨_, by rw [HR.out]; rfl, by rw [HR.out]; exact Own.nil _ _ _, Below.refl _ _⟩
  have HR := Lib.hid (show res2 xs ys (vl B32 xs + vl B32 ys) = natRes (vl B32 xs + vl B32 ys) by rw [res2, if_pos ⟨hvx, hvy⟩])
  rw [hvx] at cV
  rw [hvy] at cU
  have CV := Lib.hid cV
  have CU := Lib.hid cU
  obtain ⟨i0, hi, hz0, hz1, hz2⟩ := info_parts info_u32
  have hsz : (Tryd.prog.info? 47).map (·.size) = some 1 := by rw [hi]; simp [hz1]
  clear cV cU hvx hvy
  by_cases hlt : xs.length < ys.length
  · have hmk : ∀ W : World, (Instr.makeSlice 22 (.int .i64 ((ys.length : Int) + 1)) (.int .i64 ((ys.length : Int) + 1))).run Tryd.prog W = .ok (.slice (some ⟨W.heap.size, 0, none⟩) (ys.length + 1) (ys.length + 1)) (W.alloc (.cells (madeCells (Value.int .u32 0).cells ((ys.length + 1) * 1)) 47)) := fun W => by
      have := run_make (P := Tryd.prog) W 22 47 i0 (.int .u32 0) Tryd.underlying22 hi hz0 .i64 .i64 ((ys.length : Int) + 1) ((ys.length : Int) + 1) (by omega) (by omega) (by rw [hz2]; omega) (by omega)
      rw [hz1] at this
      exact this
    have HSUM := Lib.hid (show vl B32 ys + vl B32 xs = vl B32 xs + vl B32 ys by omega)
    go_enter Tryd.func12, Tryd.ntmps12
    go_wp2_with fail
    refine (CV.out _ hra).mono ?_
    rintro e w' ⟨rfl, rfl⟩
    go_wp2_with fail
    refine (CU.out _ hrb).mono ?_
    rintro e w' ⟨rfl, rfl⟩
    have hBa := (Below.refl w.heap.size w).alloc (Nat.le_refl _) (.cells (madeCells #[Value.int .u32 0] (ys.length + 1)) 47)
    have fN : At .u32 (w.alloc (.cells (madeCells #[Value.int .u32 0] (ys.length + 1)) 47)) w.heap.size 47 [] (List.replicate (ys.length + 1) 0) [] := by
      have := at_made w (ys.length + 1)
      rwa [Nat.mul_one] at this
    obtain ⟨w2, hcp, fA, hG2⟩ := copy_new A' cb w.heap.size ys _ (hrb.below hBa) fN
    have hB2 : Below w.heap.size w w2 := grown_below hBa hG2 hBa.size (Nat.le_refl _)
    clear fN hG2 hBa
    have cA := addTo_any w.heap.size 0 (ys.length + 1) ca A 47 [] [] (ys ++ [0]) xs w2 fA rfl (lim_append.2 ⟨hy, lim_one.2 (by decide)⟩) hx (by simp; omega) (by simp; omega) (hra.below hB2) (fun h0 => hra.off h0 (Nat.le_refl _))
    have hl1 : (ys ++ [0]).length = ys.length + 1 := by simp
    rw [hl1] at cA
    clear hl1
    have CA := Lib.hid cA
    clear cA fA
    go_wp2_with fail
    refine CA.out.mono ?_
    rintro e w3 ⟨rfl, ⟨cur, c, hA3, hR3⟩, hG3⟩
    obtain ⟨e1, e2, e3⟩ := add_sum (xs := ys) (ys := xs) (cur := cur) (c := c) hy hx (by omega) hR3
    have hB3 : Below w.heap.size w w3 := grown_below hB2 hG3 hB2.size (Nat.le_refl _)
    have hO3 := own_of_at (B := w.heap.size) (cap := ys.length + 1) hA3 (Nat.le_refl _) (by rw [e3]; rfl) (by unfold maxLen; omega)
    rw [e3] at hO3
    have cF := fit_own _ _ cur w3 e2 (by rw [e3]; omega) hO3
    rw [e1, HSUM.out] at cF
    have CF := Lib.hid cF
    clear hA3 hR3 hG3 e1 e2 e3 hO3 cF CA hB2 hcp
    go_wp2_with fail
    refine CF.out.mono ?_
    rintro e w4 ⟨v, rfl, hO4, hB4⟩
    obtain ⟨nr, hnr⟩ : ∃ nr, natRes (vl B32 xs + vl B32 ys) = nr := ⟨_, rfl⟩
    rw [hnr] at hO4 HR
    rw [hnr]
    obtain ⟨nl, ne⟩ := nr
    have HO4 := Lib.hid hO4
    clear hO4 hnr CF
    have hBz := hB3.trans hB4
    go_wp2
    go_ret2
    exact ⟨_, by rw [HR.out]; rfl, by rw [HR.out]; exact HO4.out, hBz⟩
  · have hmk : ∀ W : World, (Instr.makeSlice 22 (.int .i64 ((xs.length : Int) + 1)) (.int .i64 ((xs.length : Int) + 1))).run Tryd.prog W = .ok (.slice (some ⟨W.heap.size, 0, none⟩) (xs.length + 1) (xs.length + 1)) (W.alloc (.cells (madeCells (Value.int .u32 0).cells ((xs.length + 1) * 1)) 47)) := fun W => by
      have := run_make (P := Tryd.prog) W 22 47 i0 (.int .u32 0) Tryd.underlying22 hi hz0 .i64 .i64 ((xs.length : Int) + 1) ((xs.length : Int) + 1) (by omega) (by omega) (by rw [hz2]; omega) (by omega)
      rw [hz1] at this
      exact this
    go_enter Tryd.func12, Tryd.ntmps12
    go_wp2_with fail
    refine (CV.out _ hra).mono ?_
    rintro e w' ⟨rfl, rfl⟩
    go_wp2_with fail
    refine (CU.out _ hrb).mono ?_
    rintro e w' ⟨rfl, rfl⟩
    have hBa := (Below.refl w.heap.size w).alloc (Nat.le_refl _) (.cells (madeCells #[Value.int .u32 0] (xs.length + 1)) 47)
    have fN : At .u32 (w.alloc (.cells (madeCells #[Value.int .u32 0] (xs.length + 1)) 47)) w.heap.size 47 [] (List.replicate (xs.length + 1) 0) [] := by
      have := at_made w (xs.length + 1)
      rwa [Nat.mul_one] at this
    obtain ⟨w2, hcp, fA, hG2⟩ := copy_new A ca w.heap.size xs _ (hra.below hBa) fN
    have hB2 : Below w.heap.size w w2 := grown_below hBa hG2 hBa.size (Nat.le_refl _)
    clear fN hG2 hBa
    have cA := addTo_any w.heap.size 0 (xs.length + 1) cb A' 47 [] [] (xs ++ [0]) ys w2 fA rfl (lim_append.2 ⟨hx, lim_one.2 (by decide)⟩) hy (by simp; omega) (by simp; omega) (hrb.below hB2) (fun h0 => hrb.off h0 (Nat.le_refl _))
    have hl1 : (xs ++ [0]).length = xs.length + 1 := by simp
    rw [hl1] at cA
    clear hl1
    have CA := Lib.hid cA
    clear cA fA
    go_wp2_with fail
    refine CA.out.mono ?_
    rintro e w3 ⟨rfl, ⟨cur, c, hA3, hR3⟩, hG3⟩
    obtain ⟨e1, e2, e3⟩ := add_sum (xs := xs) (ys := ys) (cur := cur) (c := c) hx hy (by omega) hR3
    have hB3 : Below w.heap.size w w3 := grown_below hB2 hG3 hB2.size (Nat.le_refl _)
    have hO3 := own_of_at (B := w.heap.size) (cap := xs.length + 1) hA3 (Nat.le_refl _) (by rw [e3]; rfl) (by unfold maxLen; omega)
    rw [e3] at hO3
    have cF := fit_own _ _ cur w3 e2 (by rw [e3]; omega) hO3
    rw [e1] at cF
    have CF := Lib.hid cF
    clear hA3 hR3 hG3 e1 e2 e3 hO3 cF CA hB2 hcp
    go_wp2_with fail
    refine CF.out.mono ?_
    rintro e w4 ⟨v, rfl, hO4, hB4⟩
    obtain ⟨nr, hnr⟩ : ∃ nr, natRes (vl B32 xs + vl B32 ys) = nr := ⟨_, rfl⟩
    rw [hnr] at hO4 HR
    rw [hnr]
    obtain ⟨nl, ne⟩ := nr
    have HO4 := Lib.hid hO4
    clear hO4 hnr CF
    have hBz := hB3.trans hB4
    go_wp2
    go_ret2
    exact ⟨_, by rw [HR.out]; rfl, by rw [HR.out]; exact HO4.out, hBz⟩
end Go.Proofs.YtflnackpkcldjaaDoor
