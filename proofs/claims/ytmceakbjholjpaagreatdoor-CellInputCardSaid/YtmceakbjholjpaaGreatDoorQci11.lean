/- Several texts in one (Contracts of layer 6: values made, and what they count as; Contracts of layer 6: a value that came in; what a value counts as; values compared; Contracts of layer 6: values as strings; values compared; Contracts of layer 6: values compared as strings; truth; Contracts of layer 6: truth; may a value be; The example of layer 6's laws; the law CellNames; The walk of the law CellTexts; The definition of layer 4: value at any digits; plain: a numeral by its places; The definition of layer 4: Numeral, walked). -/
import Derived.Test.YtmceakbjholjpaaGreatDoorQci6
import Derived.Test.YtmceakbjholjpaaGreatDoorQci9
import Derived.Test.YtmceakbjholjpaaGreatDoorQci10
namespace Go.Proofs.YtmceakbjholjpaaGreatDoor
open Go.RowKit Go.Lib

set_option maxRecDepth 100000 in
theorem clone_str (s : ByteArray) (w : World) (hs : s.size ≤ 4194304) : Calls Tryz.prog 48 #[.string s] w fun e w' => e = .returned (.string s) ∧ Below w.heap.size w w' := by
  have C := Lib.hid (Tryz.stringslite_Clone s w (by omega))
  go_enter Tryz.func48, Tryz.ntmps48
  go_wp2_with fail
  refine C.out.mono ?_
  rintro e w' ⟨rfl, hB⟩
  go_wp2_with fail
  go_ret
  exact ⟨rfl, hB⟩
theorem end3 {w W : World} {B : Nat} {t : TypeId} {a0 a1 a2 : Value} (v0 v1 v2 : Value) (F : Five W B #[a0, a1, a2] t) (h : Below w.heap.size w W) (hB : w.heap.size ≤ B) :
    Five (((W.setCell ⟨B, 0, none⟩ v0).setCell ⟨B, 1, none⟩ v1).setCell ⟨B, 2, none⟩ v2) B #[v0, v1, v2] t ∧ Below w.heap.size w (((W.setCell ⟨B, 0, none⟩ v0).setCell ⟨B, 1, none⟩ v1).setCell ⟨B, 2, none⟩ v2) :=
  ⟨((F.set (j := 0) (u := v0)).set (j := 1) (u := v1)).set (j := 2) (u := v2), ((h.setCell (p := ⟨B, 0, none⟩) hB _).setCell (p := ⟨B, 1, none⟩) hB _).setCell (p := ⟨B, 2, none⟩) hB _⟩
theorem run_store_float (a : Addr) (n : Nat) (m : Mode) (w : World) : (store a (.float .f64 n) m).run Tryz.prog w = stored Tryz.prog w a (.float .f64 n) m := run_store _ w a _ m rfl
set_option maxRecDepth 100000 in
theorem cOf_any (x : Nat) (w : World) : Calls Tryz.prog 38 #[.float .f64 x] w fun e w' => e = .returned (.agg #[.int .i64 1, .float .f64 x, .string ⟨#[]⟩]) ∧ Below w.heap.size w w' := by
  have F := Lib.hid (Five.new w #[.int .i64 0, .float .f64 0, .string ⟨#[]⟩] 52)
  have HB := Lib.hid ((Below.refl w.heap.size w).alloc (Nat.le_refl _) (.cells #[.int .i64 0, .float .f64 0, .string ⟨#[]⟩] 52))
  obtain ⟨q0, q1, q2, r0, r1, r2⟩ := F.out.three
  have hst := run_store_float
  go_enter Tryz.func38, Tryz.ntmps38
  go_wp2_with fail
  exact bodyPost_ret (v := .agg #[.int .i64 1, .float .f64 x, .string ⟨#[]⟩]) (by simp [results, Tryz.results38, go_sem]) rfl ⟨rfl, (Below.refl w.heap.size w).alloc (Nat.le_refl _) _⟩
set_option maxRecDepth 100000 in
theorem cText_any (s : ByteArray) (w : World) (hs : s.size ≤ 4194304) : Calls Tryz.prog 27 #[.string s] w fun e w' => e = .returned (.agg #[.int .i64 2, .float .f64 0, .string s]) ∧ Below w.heap.size w w' := by
  have F := Five.new w #[.int .i64 0, .float .f64 0, .string ⟨#[]⟩] 52
  have hb := (Below.refl w.heap.size w).alloc (Nat.le_refl _) (.cells #[.int .i64 0, .float .f64 0, .string ⟨#[]⟩] 52)
  have C := Lib.hid (fun W => clone_str s W hs)
  obtain ⟨W1, hW1⟩ : ∃ W1, w.alloc (.cells #[.int .i64 0, .float .f64 0, .string ⟨#[]⟩] 52) = W1 := ⟨_, rfl⟩
  rw [hW1] at F hb
  have HW1 := Lib.hid hW1
  have F := Lib.hid F
  have HB := Lib.hid hb
  clear hW1 hb
  go_enter Tryz.func27, Tryz.ntmps27
  go_wp2_with fail
  change Calls _ _ _ (w.alloc (.cells #[.int .i64 0, .float .f64 0, .string ⟨#[]⟩] 52)) _
  rw [HW1.out]
  refine (C.out _).mono ?_
  rintro e W2 ⟨rfl, h2⟩
  have F2 := Lib.hid (F.out.below h2)
  have HB2 := Lib.hid (HB.out.trans (h2.mono HB.out.size))
  clear h2
  obtain ⟨q0, q1, q2, r0, r1, r2⟩ := F2.out.three
  have hst := run_store_float
  go_wp2_with fail
  clear q0 q1 q2 r0 r1 r2
  obtain ⟨z, hz⟩ := end3 (.int .i64 2) (.float .f64 0) (.string s) F2.out HB2.out (Nat.le_refl _)
  obtain ⟨q0, q1, q2, -⟩ := z.three
  exact bodyPost_ret (v := .agg #[.int .i64 2, .float .f64 0, .string s]) (by simp [results, Tryz.results27, go_sem, q0, q1, q2]) rfl ⟨rfl, hz⟩
/-- The float nearest to a fraction. -/
noncomputable def nearR (X D : Nat) : Nat := @dite _ (∃ r, Near X D r) (Classical.propDecidable _) (fun h => Classical.choose h) (fun _ => 0)
theorem nearR_of {X D r : Nat} (hD : 0 < D) (h : Near X D r) : nearR X D = r := by
  unfold nearR
  have he : ∃ r, Near X D r := ⟨r, h⟩
  rw [dif_pos he]
  exact (Classical.choose_spec he).uniq hD hD rfl h
/-- The number that a text begins with. -/
noncomputable def preN (l : List UInt8) : Nat := turned (sigL l).1 (nearR (2 * (pv ((sigL l).2.1 ++ (sigL l).2.2.1) * 10 ^ ((sigL l).2.2.2.1 - ((sigL l).2.2.1.length : Int)).toNat) * S1074) (10 ^ (-((sigL l).2.2.2.1 - ((sigL l).2.2.1.length : Int))).toNat))
theorem prefix_val (s : ByteArray) (w : World) (hs : s.size ≤ 4194304) : Calls Tryz.prog 20 #[.string s] w fun e w' => e = .returned (.tuple #[.float .f64 (preN s.data.toList), .int .i64 (sigL s.data.toList).2.2.2.2]) ∧ Below w.heap.size w w' := by
  obtain ⟨b, X1, X2, xe, z, hX⟩ : ∃ b X1 X2 xe z, sigL s.data.toList = (b, X1, X2, xe, z) := ⟨_, _, _, _, _, rfl⟩
  refine (prefix_any s w hs b X1 X2 xe z hX).mono ?_
  rintro e w' ⟨r, rfl, hN, hB⟩
  refine ⟨?_, hB⟩
  unfold preN
  rw [hX]
  simp only
  rw [nearR_of (Nat.pow_pos (by omega)) hN.out]
theorem turned_lt (b : Bool) {r : Nat} (h : r < 9223372036854775808) : turned b r < 18446744073709551616 := by
  unfold turned
  cases b with
  | true => rw [if_pos rfl, neg_pos h]; omega
  | false => rw [if_neg (by decide)]; omega
end Go.Proofs.YtmceakbjholjpaaGreatDoor

namespace Go.Proofs.YtmceakbjholjpaaGreatDoor
open Go.RowKit Go.Lib

set_option maxRecDepth 100000 in
set_option maxHeartbeats 4000000 in
theorem cInput_any (s : ByteArray) (v : Bool) (x : Nat) (w : World) (hs : s.size ≤ 4194304) (hv : looksL s.data.toList = v) (hx : preN s.data.toList = x) : Calls Tryz.prog 26 #[.string s] w fun e w' => e = .returned (.agg #[.int .i64 (if v = true then 3 else 2), .float .f64 (if v = true then x else 0), .string s]) ∧ Below w.heap.size w w' := by
  have hst := run_store_float
  have F := Five.new w #[.int .i64 0, .float .f64 0, .string ⟨#[]⟩] 52
  have hb := (Below.refl w.heap.size w).alloc (Nat.le_refl _) (.cells #[.int .i64 0, .float .f64 0, .string ⟨#[]⟩] 52)
  have C := Lib.hid (fun W => cText_any s W hs)
  have cL := fun W => looks_any s W hs
  rw [hv] at cL
  have CL := Lib.hid cL
  have cP := fun W => prefix_val s W hs
  rw [hx] at cP
  obtain ⟨zz, hzz⟩ : ∃ zz, (sigL s.data.toList).2.2.2.2 = zz := ⟨_, rfl⟩
  rw [hzz] at cP
  have CP := Lib.hid cP
  obtain ⟨W1, hW1⟩ : ∃ W1, w.alloc (.cells #[.int .i64 0, .float .f64 0, .string ⟨#[]⟩] 52) = W1 := ⟨_, rfl⟩
  rw [hW1] at F hb
  have HW1 := Lib.hid hW1
  have F := Lib.hid F
  have HB := Lib.hid hb
  clear hW1 hb cL cP hv hx hzz
  go_enter Tryz.func26, Tryz.ntmps26
  go_wp2_with fail
  change Calls _ _ _ (w.alloc (.cells #[.int .i64 0, .float .f64 0, .string ⟨#[]⟩] 52)) _
  rw [HW1.out]
  refine (C.out _).mono ?_
  rintro e W2 ⟨rfl, h2⟩
  have F2 := Lib.hid ((F.out.below h2).alloc (.cells #[.int .i64 2, .float .f64 0, .string s] 52))
  have b2 := (HB.out.trans (h2.mono HB.out.size))
  have HB2 := Lib.hid (b2.alloc b2.size (.cells #[.int .i64 2, .float .f64 0, .string s] 52))
  have FC := Lib.hid (Five.new W2 #[.int .i64 2, .float .f64 0, .string s] 52)
  have hlt : w.heap.size < W2.heap.size := (F.out.below h2).lt
  obtain ⟨g, hg⟩ : ∃ g, W2.heap.size = g := ⟨_, rfl⟩
  obtain ⟨W3, hW3⟩ : ∃ W3, W2.alloc (.cells #[.int .i64 2, .float .f64 0, .string s] 52) = W3 := ⟨_, rfl⟩
  rw [hW3] at F2 HB2 FC
  rw [hg] at FC hlt
  have HW3 := Lib.hid hW3
  have HG := Lib.hid hg
  clear h2 b2 hW3 hg F HB
  have hlt3 : W3.heap.size = W3.heap.size := rfl
  clear hlt3
  have n1 : ¬ w.heap.size = g := by omega
  have n2 : ¬ g = w.heap.size := by omega
  have HLT := Lib.hid hlt
  clear hlt
  go_wp2_with fail
  change Calls _ _ _ (W2.alloc (.cells #[.int .i64 2, .float .f64 0, .string s] 52)) _
  rw [HW3.out, HG.out]
  refine (CL.out _).mono ?_
  rintro e W4 ⟨rfl, h4⟩
  have F4 := Lib.hid (F2.out.below h4)
  have FC4 := Lib.hid (FC.out.below h4)
  have HB4 := Lib.hid (HB2.out.trans (h4.mono HB2.out.size))
  clear h4 F2 FC HB2
  cases v with
  | false =>
    obtain ⟨q0, q1, q2, r0, r1, r2⟩ := F4.out.three
    obtain ⟨s0, s1, s2, -⟩ := FC4.out.three
    go_wp2_with fail
    clear q0 q1 q2 r0 r1 r2 s0 s1 s2
    obtain ⟨z, hz⟩ := end3 (.int .i64 2) (.float .f64 0) (.string s) F4.out HB4.out (Nat.le_refl _)
    obtain ⟨q0, q1, q2, -⟩ := z.three
    exact bodyPost_ret (v := .agg #[.int .i64 2, .float .f64 0, .string s]) (by simp [results, Tryz.results26, go_sem, q0, q1, q2]) rfl ⟨rfl, hz⟩
  | true =>
    have s0 := FC4.out.cell 0
    have t0 := FC4.out.fro 0
    go_wp2_with fail
    clear s0 t0
    have FC5 := Lib.hid (show Five (W4.setCell ⟨g, 0, none⟩ (.int .i64 3)) g #[.int .i64 3, .float .f64 0, .string s] 52 from FC4.out.set (j := 0) (u := .int .i64 3))
    have F5 := Lib.hid (F4.out.other (j := 0) (u := .int .i64 3) n1)
    have HB5 := Lib.hid (HB4.out.setCell (p := ⟨g, 0, none⟩) (Nat.le_of_lt HLT.out) (.int .i64 3))
    obtain ⟨W5, hW5⟩ : ∃ W5, W4.setCell ⟨g, 0, none⟩ (.int .i64 3) = W5 := ⟨_, rfl⟩
    rw [hW5] at FC5 F5 HB5 ⊢
    clear hW5 FC4 F4 HB4
    refine (CP.out _).mono ?_
    rintro e W6 ⟨rfl, h6⟩
    have F6 := Lib.hid (F5.out.below h6)
    have FC6 := Lib.hid (FC5.out.below h6)
    have HB6 := Lib.hid (HB5.out.trans (h6.mono HB5.out.size))
    clear h6 F5 FC5 HB5
    obtain ⟨q0, q1, q2, r0, r1, r2⟩ := F6.out.three
    obtain ⟨s0, s1, s2, t0, t1, t2⟩ := FC6.out.three
    go_wp2_with fail
    clear q0 q1 q2 r0 r1 r2 s0 s1 s2 t0 t1 t2
    have F7 := F6.out.other (j := 1) (u := .float .f64 x) n1
    have HB7 := HB6.out.setCell (p := ⟨g, 1, none⟩) (Nat.le_of_lt HLT.out) (.float .f64 x)
    obtain ⟨z, hz⟩ := end3 (.int .i64 3) (.float .f64 x) (.string s) F7 HB7 (Nat.le_refl _)
    obtain ⟨q0, q1, q2, -⟩ := z.three
    exact bodyPost_ret (v := .agg #[.int .i64 3, .float .f64 x, .string s]) (by simp [results, Tryz.results26, go_sem, q0, q1, q2]) rfl ⟨rfl, hz⟩
/-- A value as a number. -/
noncomputable def numV2 (k : Int) (n : Nat) (s : ByteArray) : Nat := if k = 1 ∨ k = 3 then n else if k = 2 then preN s.data.toList else 0
set_option maxRecDepth 100000 in
set_option maxHeartbeats 4000000 in
theorem cNumber_any (k : Int) (n : Nat) (s : ByteArray) (w : World) (hs : s.size ≤ 4194304) : Calls Tryz.prog 31 #[.agg #[.int .i64 k, .float .f64 n, .string s]] w fun e w' => e = .returned (.float .f64 (numV2 k n s)) ∧ Below w.heap.size w w' := by
  have cP := fun W => prefix_val s W hs
  have F := Five.new w #[.int .i64 k, .float .f64 n, .string s] 52
  have hb := (Below.refl w.heap.size w).alloc (Nat.le_refl _) (.cells #[.int .i64 k, .float .f64 n, .string s] 52)
  unfold numV2
  obtain ⟨x, hx⟩ : ∃ x, preN s.data.toList = x := ⟨_, rfl⟩
  obtain ⟨zz, hzz⟩ : ∃ zz, (sigL s.data.toList).2.2.2.2 = zz := ⟨_, rfl⟩
  rw [hx, hzz] at cP
  rw [hx]
  obtain ⟨y, hy⟩ : ∃ y, (if k = 1 ∨ k = 3 then n else if k = 2 then x else 0) = y := ⟨_, rfl⟩
  rw [hy]
  have HY := Lib.hid hy
  have CP := Lib.hid cP
  have HB := Lib.hid hb
  clear cP hx hzz hy hb F
  have hcase : k = 1 ∨ k = 3 ∨ k = 2 ∨ (k ≠ 1 ∧ k ≠ 3 ∧ k ≠ 2) := by omega
  rcases hcase with rfl | rfl | rfl | ⟨h1, h2, h3⟩
  · go_enter Tryz.func31, Tryz.ntmps31
    go_wp2_with fail
    go_ret
    exact ⟨by rw [← HY.out]; rfl, HB.out⟩
  · go_enter Tryz.func31, Tryz.ntmps31
    go_wp2_with fail
    go_ret
    exact ⟨by rw [← HY.out]; rfl, HB.out⟩
  · go_enter Tryz.func31, Tryz.ntmps31
    go_wp2_with fail
    refine (CP.out _).mono ?_
    rintro e W2 ⟨rfl, h2⟩
    have hBf := HB.out.trans (h2.mono HB.out.size)
    clear h2
    go_wp2_with fail
    go_ret
    exact ⟨by rw [← HY.out]; rfl, hBf⟩
  · have v1 : (k == 1) = false := by rw [beq_eq_false_iff_ne]; exact h1
    have v2 : (k == 3) = false := by rw [beq_eq_false_iff_ne]; exact h2
    have v3 : (k == 2) = false := by rw [beq_eq_false_iff_ne]; exact h3
    have hy0 : y = 0 := by rw [← HY.out, if_neg (by omega), if_neg h3]
    clear h1 h2 h3
    go_enter Tryz.func31, Tryz.ntmps31
    go_wp2_with fail
    go_ret
    exact ⟨by first | rfl | (rw [hy0]; rfl), HB.out⟩
end Go.Proofs.YtmceakbjholjpaaGreatDoor

namespace Go.Proofs.YtmceakbjholjpaaGreatDoor
open Go.RowKit Go.Lib

set_option maxRecDepth 100000 in
set_option maxHeartbeats 4000000 in
theorem written_str (k : Int) (n : Nat) (s P : ByteArray) (w : World) (h : k = 2 ∨ k = 3) : Calls Tryz.prog 64 #[.agg #[.int .i64 k, .float .f64 n, .string s], .string P] w fun e w' => e = .returned (.string s) ∧ Below w.heap.size w w' := by
  have hb := (Below.refl w.heap.size w).alloc (Nat.le_refl _) (.cells #[.int .i64 k, .float .f64 n, .string s] 52)
  have HB := Lib.hid hb
  clear hb
  rcases h with rfl | rfl
  all_goals
    go_enter Tryz.func64, Tryz.ntmps64
    go_wp2_with fail
    go_ret
    exact ⟨rfl, HB.out⟩
set_option maxRecDepth 100000 in
set_option maxHeartbeats 4000000 in
theorem written_none (k : Int) (n : Nat) (s P : ByteArray) (w : World) (h1 : k ≠ 1) (h2 : k ≠ 2) (h3 : k ≠ 3) : Calls Tryz.prog 64 #[.agg #[.int .i64 k, .float .f64 n, .string s], .string P] w fun e w' => e = .returned (.string ⟨#[]⟩) ∧ Below w.heap.size w w' := by
  have hb := (Below.refl w.heap.size w).alloc (Nat.le_refl _) (.cells #[.int .i64 k, .float .f64 n, .string s] 52)
  have HB := Lib.hid hb
  have v1 : (k == 1) = false := by rw [beq_eq_false_iff_ne]; exact h1
  have v2 : (k == 3) = false := by rw [beq_eq_false_iff_ne]; exact h3
  have v3 : (k == 2) = false := by rw [beq_eq_false_iff_ne]; exact h2
  clear hb h1 h2 h3
  go_enter Tryz.func64, Tryz.ntmps64
  go_wp2_with fail
  go_ret
  exact ⟨rfl, HB.out⟩
set_option maxRecDepth 100000 in
set_option maxHeartbeats 4000000 in
theorem written_num (n : Nat) (s P T : ByteArray) (w : World) (hC : ∀ W, PowTab W → Calls Tryz.prog 40 #[.float .f64 n, .string P] W fun e w' => e = .returned (.string T) ∧ Below W.heap.size W w') (hT : PowTab w) : Calls Tryz.prog 64 #[.agg #[.int .i64 1, .float .f64 n, .string s], .string P] w fun e w' => e = .returned (.string T) ∧ Below w.heap.size w w' := by
  have hb := (Below.refl w.heap.size w).alloc (Nat.le_refl _) (.cells #[.int .i64 1, .float .f64 n, .string s] 52)
  have C := Lib.hid (hC _ (Lib.tabBelow_of_tabIs hT _ hb))
  have HB := Lib.hid hb
  clear hb hC hT
  go_enter Tryz.func64, Tryz.ntmps64
  go_wp2_with fail
  refine C.out.mono ?_
  rintro e W2 ⟨rfl, h2⟩
  have hBf := HB.out.trans (h2.mono HB.out.size)
  clear h2
  go_wp2_with fail
  go_ret
  exact ⟨rfl, hBf⟩
/-- A value as a string, by a pattern that makes T of its number. -/
def wrT (k : Int) (s T : ByteArray) : ByteArray := if k = 1 then T else if k = 2 ∨ k = 3 then s else ⟨#[]⟩
theorem written_any (k : Int) (n : Nat) (s P T : ByteArray) (w : World) (hC : k = 1 → ∀ W, PowTab W → Calls Tryz.prog 40 #[.float .f64 n, .string P] W fun e w' => e = .returned (.string T) ∧ Below W.heap.size W w') (hT : PowTab w) : Calls Tryz.prog 64 #[.agg #[.int .i64 k, .float .f64 n, .string s], .string P] w fun e w' => e = .returned (.string (wrT k s T)) ∧ Below w.heap.size w w' := by
  unfold wrT
  by_cases h1 : k = 1
  · subst h1
    rw [if_pos rfl]
    exact written_num n s P T w (hC rfl) hT
  · rw [if_neg h1]
    by_cases h2 : k = 2 ∨ k = 3
    · rw [if_pos h2]
      exact written_str k n s P w h2
    · rw [if_neg h2]
      exact written_none k n s P w h1 (by omega) (by omega)
set_option maxRecDepth 100000 in
set_option maxHeartbeats 4000000 in
theorem cString_any (k : Int) (n : Nat) (s P T : ByteArray) (w : World) (hC : k = 1 → ∀ W, PowTab W → Calls Tryz.prog 40 #[.float .f64 n, .string P] W fun e w' => e = .returned (.string T) ∧ Below W.heap.size W w') (hT : PowTab w) (hs : (wrT k s T).size ≤ 4194304) : Calls Tryz.prog 29 #[.agg #[.int .i64 k, .float .f64 n, .string s], .string P] w fun e w' => e = .returned (.string (wrT k s T)) ∧ Below w.heap.size w w' := by
  have C := Lib.hid (fun (W : World) (hW : PowTab W) => written_any k n s P T W hC hW)
  have CC := Lib.hid (fun W => clone_str (wrT k s T) W hs)
  have HT := Lib.hid (Lib.tabBelow_of_tabIs hT)
  obtain ⟨X, hX⟩ : ∃ X, wrT k s T = X := ⟨_, rfl⟩
  have C := C.out
  have CC := CC.out
  rw [hX] at C CC ⊢
  have C := Lib.hid C
  have CC := Lib.hid CC
  clear hX hC hT hs
  have HB := Lib.hid ((Below.refl w.heap.size w).alloc (Nat.le_refl _) (.cells #[.int .i64 k, .float .f64 n, .string s] 52))
  go_enter Tryz.func29, Tryz.ntmps29
  go_wp2_with fail
  refine (C.out _ (HT.out _ HB.out)).mono ?_
  rintro e W2 ⟨rfl, h2⟩
  have hB2 := HB.out.trans (h2.mono HB.out.size)
  clear h2
  go_wp2_with fail
  refine (CC.out _).mono ?_
  rintro e W3 ⟨rfl, h3⟩
  have hB3 := hB2.trans (h3.mono hB2.size)
  clear h3 hB2
  go_wp2_with fail
  go_ret
  exact ⟨rfl, hB3⟩
/-- Numbers in order, NaN behind all others. -/
def rkB (x : Nat) : Int := if nanB x = true then 1 else 0
def ltB (x y : Nat) : Bool := FloatKind.f64.format.order x y == some .lt
def gtB (x y : Nat) : Bool := FloatKind.f64.format.order x y == some .gt
def cmpN (x y : Nat) : Int := if ltB x y = true then -1 else if gtB x y = true then 1 else rkB x - rkB y
set_option maxRecDepth 100000 in
theorem rank_any (x : Nat) (w : World) : Calls Tryz.prog 102 #[.float .f64 x] w fun e w' => e = .returned (.int .i64 (rkB x)) ∧ w = w' := by
  have cN := fun W => isNaN_any x W
  unfold rkB
  generalize nanB x = v at *
  have CN := Lib.hid cN
  clear cN
  cases v with
  | true =>
    go_enter Tryz.func102, Tryz.ntmps102
    go_wp2_with fail
    refine (CN.out _).mono ?_
    rintro e w' ⟨rfl, rfl⟩
    go_wp2_with fail
    go_ret
    exact ⟨rfl, rfl⟩
  | false =>
    go_enter Tryz.func102, Tryz.ntmps102
    go_wp2_with fail
    refine (CN.out _).mono ?_
    rintro e w' ⟨rfl, rfl⟩
    go_wp2_with fail
    go_ret
    exact ⟨rfl, rfl⟩
set_option maxRecDepth 100000 in
set_option maxHeartbeats 4000000 in
theorem cmpNum_any (x y : Nat) (w : World) : Calls Tryz.prog 62 #[.float .f64 x, .float .f64 y] w fun e w' => e = .returned (.int .i64 (cmpN x y)) ∧ w = w' := by
  have C1 := Lib.hid (fun W => rank_any x W)
  have C2 := Lib.hid (fun W => rank_any y W)
  have hr1 : 0 ≤ rkB x ∧ rkB x ≤ 1 := by unfold rkB; split <;> omega
  have hr2 : 0 ≤ rkB y ∧ rkB y ≤ 1 := by unfold rkB; split <;> omega
  obtain ⟨a, ha⟩ : ∃ a, rkB x = a := ⟨_, rfl⟩
  obtain ⟨b, hb⟩ : ∃ b, rkB y = b := ⟨_, rfl⟩
  have C1 := C1.out
  have C2 := C2.out
  rw [ha] at C1 hr1
  rw [hb] at C2 hr2
  have C1 := Lib.hid C1
  have C2 := Lib.hid C2
  obtain ⟨c, hc⟩ : ∃ c, cmpN x y = c := ⟨_, rfl⟩
  rw [hc]
  unfold cmpN at hc
  rw [ha, hb] at hc
  obtain ⟨v, hv⟩ : ∃ v, ltB x y = v := ⟨_, rfl⟩
  obtain ⟨u, hu⟩ : ∃ u, gtB x y = u := ⟨_, rfl⟩
  rw [hv, hu] at hc
  have hv2 : (FloatKind.f64.format.order x y == some .lt) = v := hv
  have hu2 : (FloatKind.f64.format.order x y == some .gt) = u := hu
  have HC := Lib.hid hc
  obtain ⟨hr1a, hr1b⟩ := hr1
  obtain ⟨hr2a, hr2b⟩ := hr2
  have hwr : IntKind.i64.wrap (a - b) = a - b := by rw [IntKind.wrap_i64]; omega
  have hwr2 : wrap64 (a - b) = a - b := by unfold wrap64; omega
  clear ha hb hc hv hu
  cases v with
  | true =>
    go_enter Tryz.func62, Tryz.ntmps62
    go_wp2_with fail
    go_ret
    exact ⟨by rw [← HC.out]; rfl, rfl⟩
  | false =>
    cases u with
    | true =>
      go_enter Tryz.func62, Tryz.ntmps62
      go_wp2_with fail
      go_ret
      exact ⟨by rw [← HC.out]; rfl, rfl⟩
    | false =>
      go_enter Tryz.func62, Tryz.ntmps62
      go_wp2_with fail
      refine (C1.out _).mono ?_
      rintro e w' ⟨rfl, rfl⟩
      go_wp2_with fail
      refine (C2.out _).mono ?_
      rintro e w' ⟨rfl, rfl⟩
      go_wp2_with fail
      go_ret
      exact ⟨by rw [← HC.out]; rfl, rfl⟩
set_option maxRecDepth 100000 in
set_option maxHeartbeats 8000000 in
theorem cCompare_num (ka kb : Int) (x y : Nat) (s t P : ByteArray) (w : World) (ha : ka ≠ 2) (hb : kb ≠ 2) (hs : s.size ≤ 4194304) (ht : t.size ≤ 4194304) :
    Calls Tryz.prog 25 #[.agg #[.int .i64 ka, .float .f64 x, .string s], .agg #[.int .i64 kb, .float .f64 y, .string t], .string P] w fun e w' => e = .returned (.int .i64 (cmpN (numV2 ka x s) (numV2 kb y t))) ∧ Below w.heap.size w w' := by
  have v1 : (ka != 2) = true := by rw [bne_iff_ne]; exact ha
  have v2 : (kb != 2) = true := by rw [bne_iff_ne]; exact hb
  have v3 : (ka == 2) = false := by rw [beq_eq_false_iff_ne]; exact ha
  have v4 : (kb == 2) = false := by rw [beq_eq_false_iff_ne]; exact hb
  have CA := Lib.hid (fun W => cNumber_any ka x s W hs)
  have CB := Lib.hid (fun W => cNumber_any kb y t W ht)
  have CC := Lib.hid (fun W => cmpNum_any (numV2 ka x s) (numV2 kb y t) W)
  have fA := (Five.new w #[.int .i64 ka, .float .f64 x, .string s] 52).alloc (.cells #[.int .i64 kb, .float .f64 y, .string t] 52)
  have fB := Five.new (w.alloc (.cells #[.int .i64 ka, .float .f64 x, .string s] 52)) #[.int .i64 kb, .float .f64 y, .string t] 52
  have hB0 := ((Below.refl w.heap.size w).alloc (Nat.le_refl _) (.cells #[.int .i64 ka, .float .f64 x, .string s] 52)).alloc (by simp) (.cells #[.int .i64 kb, .float .f64 y, .string t] 52)
  rw [World.size_alloc] at fB
  obtain ⟨B, hB⟩ : ∃ B, w.heap.size = B := ⟨_, rfl⟩
  obtain ⟨W2, hW2⟩ : ∃ W2, (w.alloc (.cells #[.int .i64 ka, .float .f64 x, .string s] 52)).alloc (.cells #[.int .i64 kb, .float .f64 y, .string t] 52) = W2 := ⟨_, rfl⟩
  rw [hW2] at fA fB hB0
  rw [hB] at fA fB hB0 ⊢
  have HB := Lib.hid hB
  have HW2 := Lib.hid hW2
  have hle : B ≤ W2.heap.size := Nat.le_of_lt fA.lt
  have FA := Lib.hid fA
  have FB := Lib.hid fB
  have HB0 := Lib.hid hB0
  have HCW := Lib.hid (fun (W : World) (h : Below W2.heap.size W2 W) => (show W.cell? ⟨B, 0, none⟩ = some (.int .i64 ka) ∧ W.cell? ⟨B, 1, none⟩ = some (.float .f64 x) ∧ W.cell? ⟨B, 2, none⟩ = some (.string s) ∧ W.cell? ⟨B + 1, 0, none⟩ = some (.int .i64 kb) ∧ W.cell? ⟨B + 1, 1, none⟩ = some (.float .f64 y) ∧ W.cell? ⟨B + 1, 2, none⟩ = some (.string t) from ⟨(FA.out.below h).cell 0, (FA.out.below h).cell 1, (FA.out.below h).cell 2, (FB.out.below h).cell 0, (FB.out.below h).cell 1, (FB.out.below h).cell 2⟩))
  obtain ⟨a0, a1, a2, b0, b1, b2⟩ := HCW.out W2 (Below.refl _ _)
  clear ha hb hB hW2 fA fB hB0
  go_enter Tryz.func25, Tryz.ntmps25
  go_wp2_with fail
  rw [HW2.out, HB.out]
  go_region_held3 (fun w' => w'.cell? ⟨B, 0, none⟩ = some (.int .i64 ka) ∧ w'.cell? ⟨B, 1, none⟩ = some (.float .f64 x) ∧ w'.cell? ⟨B, 2, none⟩ = some (.string s) ∧ w'.cell? ⟨B + 1, 0, none⟩ = some (.int .i64 kb) ∧ w'.cell? ⟨B + 1, 1, none⟩ = some (.float .f64 y) ∧ w'.cell? ⟨B + 1, 2, none⟩ = some (.string t))
    (first | (with_reducible exact S3) | (with_reducible exact S2) | (with_reducible exact S1) | go_keep)
    (first
    | (go_at_call 31; (with_reducible refine (CA.out _).mono ?_); rintro e W3 ⟨rfl, h3⟩; have b3 : Below W2.heap.size W2 W3 := ⟨h3.os, h3.tape, h3.output, h3.size, h3.block⟩; have S1 := HCW.out _ b3; clear h3)
    | (go_at_call 31; (with_reducible refine (CB.out _).mono ?_); rintro e W4 ⟨rfl, h4⟩; have b4 : Below W2.heap.size W2 W4 := b3.trans ((⟨h4.os, h4.tape, h4.output, h4.size, h4.block⟩ : Below W3.heap.size W3 W4).mono b3.size); have S2 := HCW.out _ b4; clear h4)
    | (go_at_call 62; (with_reducible refine (CC.out _).mono ?_); rintro e w' ⟨rfl, rfl⟩))
  all_goals
    have hBf := HB0.out.trans (b4.mono hle)
    go_wp2_with fail
    go_ret
    exact ⟨rfl, by first | exact hBf | exact ⟨hBf.os, hBf.tape, hBf.output, hBf.size, hBf.block⟩⟩
end Go.Proofs.YtmceakbjholjpaaGreatDoor

namespace Go.Proofs.YtmceakbjholjpaaGreatDoor
open Go.RowKit Go.Lib

set_option maxRecDepth 100000 in
set_option maxHeartbeats 8000000 in
theorem cCompare_str (ka kb : Int) (x y : Nat) (s t P TA TB : ByteArray) (w : World) (hab : ka = 2 ∨ (ka ≠ 2 ∧ kb = 2)) (hTA : ka = 1 → ∀ W, PowTab W → Calls Tryz.prog 40 #[.float .f64 x, .string P] W fun e w' => e = .returned (.string TA) ∧ Below W.heap.size W w') (hTB : kb = 1 → ∀ W, PowTab W → Calls Tryz.prog 40 #[.float .f64 y, .string P] W fun e w' => e = .returned (.string TB) ∧ Below W.heap.size W w') (hT : PowTab w) :
    Calls Tryz.prog 25 #[.agg #[.int .i64 ka, .float .f64 x, .string s], .agg #[.int .i64 kb, .float .f64 y, .string t], .string P] w fun e w' => e = .returned (.int .i64 (Lib.compareBytes (wrT ka s TA).data.toList (wrT kb t TB).data.toList)) ∧ Below w.heap.size w w' := by
  have CA := Lib.hid (fun (W : World) (hW : PowTab W) => written_any ka x s P TA W hTA hW)
  have CB := Lib.hid (fun (W : World) (hW : PowTab W) => written_any kb y t P TB W hTB hW)
  have CC := Lib.hid (fun W => Tryz.strings_Compare (wrT ka s TA) (wrT kb t TB) W)
  have HT := Lib.hid (Lib.tabBelow_of_tabIs hT)
  have fA := (Five.new w #[.int .i64 ka, .float .f64 x, .string s] 52).alloc (.cells #[.int .i64 kb, .float .f64 y, .string t] 52)
  have fB := Five.new (w.alloc (.cells #[.int .i64 ka, .float .f64 x, .string s] 52)) #[.int .i64 kb, .float .f64 y, .string t] 52
  have hB0 := ((Below.refl w.heap.size w).alloc (Nat.le_refl _) (.cells #[.int .i64 ka, .float .f64 x, .string s] 52)).alloc (by simp) (.cells #[.int .i64 kb, .float .f64 y, .string t] 52)
  rw [World.size_alloc] at fB
  obtain ⟨B, hB⟩ : ∃ B, w.heap.size = B := ⟨_, rfl⟩
  obtain ⟨W2, hW2⟩ : ∃ W2, (w.alloc (.cells #[.int .i64 ka, .float .f64 x, .string s] 52)).alloc (.cells #[.int .i64 kb, .float .f64 y, .string t] 52) = W2 := ⟨_, rfl⟩
  rw [hW2] at fA fB hB0
  rw [hB] at fA fB hB0 ⊢
  have HB := Lib.hid hB
  have HW2 := Lib.hid hW2
  have hle : B ≤ W2.heap.size := Nat.le_of_lt fA.lt
  have FA := Lib.hid fA
  have FB := Lib.hid fB
  have HB0 := Lib.hid hB0
  have HCW := Lib.hid (fun (W : World) (h : Below W2.heap.size W2 W) => (show W.cell? ⟨B, 0, none⟩ = some (.int .i64 ka) ∧ W.cell? ⟨B, 1, none⟩ = some (.float .f64 x) ∧ W.cell? ⟨B, 2, none⟩ = some (.string s) ∧ W.cell? ⟨B + 1, 0, none⟩ = some (.int .i64 kb) ∧ W.cell? ⟨B + 1, 1, none⟩ = some (.float .f64 y) ∧ W.cell? ⟨B + 1, 2, none⟩ = some (.string t) from ⟨(FA.out.below h).cell 0, (FA.out.below h).cell 1, (FA.out.below h).cell 2, (FB.out.below h).cell 0, (FB.out.below h).cell 1, (FB.out.below h).cell 2⟩))
  obtain ⟨a0, a1, a2, b0, b1, b2⟩ := HCW.out W2 (Below.refl _ _)
  have hTW := fun (W : World) (h : Below W2.heap.size W2 W) => HT.out W (by rw [hB]; exact hB0.trans (h.mono hle))
  have HTW := Lib.hid hTW
  clear hB hW2 fA fB hB0 hTA hTB hT hTW
  obtain ⟨XA, hXA⟩ : ∃ XA, wrT ka s TA = XA := ⟨_, rfl⟩
  obtain ⟨XB, hXB⟩ : ∃ XB, wrT kb t TB = XB := ⟨_, rfl⟩
  rw [hXA, hXB] at CC ⊢
  rw [hXA] at CA
  rw [hXB] at CB
  obtain ⟨R, hR2⟩ : ∃ R, Lib.compareBytes XA.data.toList XB.data.toList = R := ⟨_, rfl⟩
  rw [hR2] at CC ⊢
  clear hR2 hXA hXB
  have hR := Below.refl W2.heap.size W2
  have hcase : (ka = 2) ∨ ((ka != 2) = true ∧ (ka == 2) = false ∧ kb = 2) := by
    rcases hab with h | ⟨h1, h2⟩
    · exact Or.inl h
    · exact Or.inr ⟨by rw [bne_iff_ne]; exact h1, by rw [beq_eq_false_iff_ne]; exact h1, h2⟩
  clear hab
  rcases hcase with rfl | ⟨v1, v2, rfl⟩
  · go_enter Tryz.func25, Tryz.ntmps25
    go_wp2_with fail
    rw [HW2.out, HB.out]
    go_region_held3 (fun w' => w'.cell? ⟨B, 0, none⟩ = some (.int .i64 2) ∧ w'.cell? ⟨B, 1, none⟩ = some (.float .f64 x) ∧ w'.cell? ⟨B, 2, none⟩ = some (.string s) ∧ w'.cell? ⟨B + 1, 0, none⟩ = some (.int .i64 kb) ∧ w'.cell? ⟨B + 1, 1, none⟩ = some (.float .f64 y) ∧ w'.cell? ⟨B + 1, 2, none⟩ = some (.string t))
      (first | (with_reducible exact S3) | (with_reducible exact S2) | (with_reducible exact S1) | go_keep)
      (first
      | (go_at_call 64; (with_reducible refine (CA.out _ (HTW.out _ (by first | exact hR | exact hR.drew | exact below_drewN hR _))).mono ?_); rintro e W3 ⟨rfl, h3⟩; have b3 : Below W2.heap.size W2 W3 := ⟨h3.os, h3.tape, h3.output, h3.size, h3.block⟩; have S1 := HCW.out _ b3; clear h3)
      | (go_at_call 64; (with_reducible refine (CB.out _ (HTW.out _ (by first | exact b3 | exact b3.drew | exact below_drewN b3 _))).mono ?_); rintro e W4 ⟨rfl, h4⟩; have b4 : Below W2.heap.size W2 W4 := b3.trans ((⟨h4.os, h4.tape, h4.output, h4.size, h4.block⟩ : Below W3.heap.size W3 W4).mono b3.size); have S2 := HCW.out _ b4; clear h4)
      | (go_at_call 63; (with_reducible refine (CC.out _).mono ?_); rintro e w' ⟨rfl, rfl⟩))
    all_goals
      have hBf := HB0.out.trans (b4.mono hle)
      go_wp2_with fail
      go_ret
      exact ⟨rfl, by first | exact hBf | exact ⟨hBf.os, hBf.tape, hBf.output, hBf.size, hBf.block⟩⟩
  · go_enter Tryz.func25, Tryz.ntmps25
    go_wp2_with fail
    rw [HW2.out, HB.out]
    go_region_held3 (fun w' => w'.cell? ⟨B, 0, none⟩ = some (.int .i64 ka) ∧ w'.cell? ⟨B, 1, none⟩ = some (.float .f64 x) ∧ w'.cell? ⟨B, 2, none⟩ = some (.string s) ∧ w'.cell? ⟨B + 1, 0, none⟩ = some (.int .i64 2) ∧ w'.cell? ⟨B + 1, 1, none⟩ = some (.float .f64 y) ∧ w'.cell? ⟨B + 1, 2, none⟩ = some (.string t))
      (first | (with_reducible exact S3) | (with_reducible exact S2) | (with_reducible exact S1) | go_keep)
      (first
      | (go_at_call 64; (with_reducible refine (CA.out _ (HTW.out _ (by first | exact hR | exact hR.drew | exact below_drewN hR _))).mono ?_); rintro e W3 ⟨rfl, h3⟩; have b3 : Below W2.heap.size W2 W3 := ⟨h3.os, h3.tape, h3.output, h3.size, h3.block⟩; have S1 := HCW.out _ b3; clear h3)
      | (go_at_call 64; (with_reducible refine (CB.out _ (HTW.out _ (by first | exact b3 | exact b3.drew | exact below_drewN b3 _))).mono ?_); rintro e W4 ⟨rfl, h4⟩; have b4 : Below W2.heap.size W2 W4 := b3.trans ((⟨h4.os, h4.tape, h4.output, h4.size, h4.block⟩ : Below W3.heap.size W3 W4).mono b3.size); have S2 := HCW.out _ b4; clear h4)
      | (go_at_call 63; (with_reducible refine (CC.out _).mono ?_); rintro e w' ⟨rfl, rfl⟩))
    all_goals
      have hBf := HB0.out.trans (b4.mono hle)
      go_wp2_with fail
      go_ret
      exact ⟨rfl, by first | exact hBf | exact ⟨hBf.os, hBf.tape, hBf.output, hBf.size, hBf.block⟩⟩
end Go.Proofs.YtmceakbjholjpaaGreatDoor

namespace Go.Proofs.YtmceakbjholjpaaGreatDoor
open Go.RowKit Go.Lib

/-- Is a float not 0? -/
def nzB (x : Nat) : Bool := FloatKind.f64.format.order x 0 != some .eq
set_option maxRecDepth 100000 in
set_option maxHeartbeats 4000000 in
theorem cTrue_num (k : Int) (n : Nat) (s : ByteArray) (w : World) (h : k = 1 ∨ k = 3) : Calls Tryz.prog 33 #[.agg #[.int .i64 k, .float .f64 n, .string s]] w fun e w' => e = .returned (.bool (nzB n)) ∧ Below w.heap.size w w' := by
  have hz : (FloatKind.f64.format.order n 0 != some .eq) = nzB n := rfl
  have HB := Lib.hid ((Below.refl w.heap.size w).alloc (Nat.le_refl _) (.cells #[.int .i64 k, .float .f64 n, .string s] 52))
  rcases h with rfl | rfl
  all_goals
    go_enter Tryz.func33, Tryz.ntmps33
    go_wp2_with fail
    go_ret
    exact ⟨rfl, HB.out⟩
set_option maxRecDepth 100000 in
set_option maxHeartbeats 4000000 in
theorem cTrue_str (n : Nat) (s : ByteArray) (v : Bool) (w : World) (h : v = !s.data.toList.isEmpty) : Calls Tryz.prog 33 #[.agg #[.int .i64 2, .float .f64 n, .string s]] w fun e w' => e = .returned (.bool v) ∧ Below w.heap.size w w' := by
  have HB := Lib.hid ((Below.refl w.heap.size w).alloc (Nat.le_refl _) (.cells #[.int .i64 2, .float .f64 n, .string s] 52))
  cases hl : s.data.toList with
  | nil =>
    rw [hl] at h
    have h1 : s.toList = [] := by rw [Lib.toList_data]; exact hl
    have hv : v = false := h
    subst hv
    clear h hl
    go_enter Tryz.func33, Tryz.ntmps33
    go_wp2_with fail
    go_ret
    exact ⟨rfl, HB.out⟩
  | cons c t =>
    rw [hl] at h
    have h1 : s.toList.isEmpty = false := by rw [Lib.toList_data, hl]; rfl
    have hv : v = true := h
    subst hv
    clear h hl
    go_enter Tryz.func33, Tryz.ntmps33
    go_wp2_with fail
    go_ret
    exact ⟨rfl, HB.out⟩
set_option maxRecDepth 100000 in
theorem cTrue_none (n : Nat) (s : ByteArray) (w : World) : Calls Tryz.prog 33 #[.agg #[.int .i64 0, .float .f64 n, .string s]] w fun e w' => e = .returned (.bool false) ∧ Below w.heap.size w w' := by
  have HB := Lib.hid ((Below.refl w.heap.size w).alloc (Nat.le_refl _) (.cells #[.int .i64 0, .float .f64 n, .string s] 52))
  go_enter Tryz.func33, Tryz.ntmps33
  go_wp2_with fail
  go_ret
  exact ⟨rfl, HB.out⟩
set_option maxRecDepth 100000 in
theorem cSame_any (x y : Nat) (w : World) : Calls Tryz.prog 66 #[.float .f64 x, .float .f64 y] w fun e w' => e = .returned (.bool (decide (x = y))) ∧ w = w' := by
  have h1 := fun W => run_f64bits x W
  have h2 := fun W => run_f64bits y W
  by_cases h : x = y
  · subst h
    have hb : ((x : Int) == (x : Int)) = true := beq_self_eq_true _
    rw [decide_eq_true rfl]
    go_enter Tryz.func66, Tryz.ntmps66
    go_wp2
    go_ret
    exact ⟨rfl, rfl⟩
  · have hb : ((x : Int) == (y : Int)) = false := by rw [beq_eq_false_iff_ne]; omega
    rw [decide_eq_false h]
    go_enter Tryz.func66, Tryz.ntmps66
    go_wp2
    go_ret
    exact ⟨rfl, rfl⟩
set_option maxRecDepth 100000 in
set_option maxHeartbeats 4000000 in
theorem cValid_str (s : ByteArray) (w : World) : Calls Tryz.prog 28 #[.agg #[.int .i64 2, .float .f64 0, .string s]] w fun e w' => e = .returned (.bool true) ∧ Below w.heap.size w w' := by
  have cS := fun W => cSame_any 0 0 W
  rw [decide_eq_true rfl] at cS
  have CS := Lib.hid cS
  clear cS
  have HB := Lib.hid ((Below.refl w.heap.size w).alloc (Nat.le_refl _) (.cells #[.int .i64 2, .float .f64 0, .string s] 52))
  go_enter Tryz.func28, Tryz.ntmps28
  go_wp2_with fail
  refine (CS.out _).mono ?_
  rintro e w' ⟨rfl, rfl⟩
  go_wp2_with fail
  go_ret
  exact ⟨rfl, HB.out⟩
set_option maxRecDepth 100000 in
set_option maxHeartbeats 4000000 in
theorem cValid_num (s : ByteArray) (x : Nat) (w : World) (hs : s.size ≤ 4194304) (hv : looksL s.data.toList = true) (hx : preN s.data.toList = x) : Calls Tryz.prog 28 #[.agg #[.int .i64 3, .float .f64 x, .string s]] w fun e w' => e = .returned (.bool true) ∧ Below w.heap.size w w' := by
  have cS := fun W => cSame_any x x W
  rw [decide_eq_true rfl] at cS
  have CS := Lib.hid cS
  have cL := fun W => looks_any s W hs
  rw [hv] at cL
  have CL := Lib.hid cL
  have cP := fun W => prefix_val s W hs
  rw [hx] at cP
  obtain ⟨zz, hzz⟩ : ∃ zz, (sigL s.data.toList).2.2.2.2 = zz := ⟨_, rfl⟩
  rw [hzz] at cP
  have CP := Lib.hid cP
  clear cS cL cP hzz hv hx
  have F := Lib.hid (Five.new w #[.int .i64 3, .float .f64 x, .string s] 52)
  have HB := Lib.hid ((Below.refl w.heap.size w).alloc (Nat.le_refl _) (.cells #[.int .i64 3, .float .f64 x, .string s] 52))
  go_enter Tryz.func28, Tryz.ntmps28
  go_wp2_with fail
  refine (CP.out _).mono ?_
  rintro e W2 ⟨rfl, h2⟩
  have F2 := Lib.hid (F.out.below h2)
  have HB2 := Lib.hid (HB.out.trans (h2.mono HB.out.size))
  clear h2 F HB
  obtain ⟨q0, q1, q2, -⟩ := F2.out.three
  go_wp2_with fail
  refine (CL.out _).mono ?_
  rintro e W3 ⟨rfl, h3⟩
  clear q0 q1 q2
  have F3 := Lib.hid (F2.out.below h3)
  have HB3 := Lib.hid (HB2.out.trans (h3.mono HB2.out.size))
  clear h3 F2 HB2
  obtain ⟨q0, q1, q2, -⟩ := F3.out.three
  go_wp2_with fail
  refine (CS.out _).mono ?_
  rintro e w' ⟨rfl, rfl⟩
  go_wp2_with fail
  go_ret
  exact ⟨rfl, HB3.out⟩
end Go.Proofs.YtmceakbjholjpaaGreatDoor

namespace Go.Proofs.YtmceakbjholjpaaGreatDoor
open Go.RowKit Go.Lib

theorem preN_fw {l X1 X2 : List UInt8} {b : Bool} {xe z : Int} {m : Nat} (hX : sigL l = (b, X1, X2, xe, z)) (hm : m < 9007199254740992) (he : pv (X1 ++ X2) * 10 ^ (xe - (X2.length : Int)).toNat = m * 10 ^ (-(xe - (X2.length : Int))).toNat) : preN l = turned b (fw m) := by
  unfold preN
  rw [hX]
  simp only
  have hs := Near.self (r := fw m) (by have := fw_bd hm; omega)
  rw [fw_V hm] at hs
  rw [nearR_of (Nat.pow_pos (by omega)) (near_same (by omega) (Nat.pow_pos (by omega)) ?_ hs)]
  rw [he, Nat.mul_one]
  generalize S1074 = z
  ac_rfl
theorem pre_10 : preN [32, 49, 48, 32] = 4621819117588971520 := by
  rw [preN_fw (b := false) (X1 := [49, 48]) (X2 := []) (xe := 0) (z := 3) (m := 10) (by rfl) (by omega) (by decide)]
  decide +kernel
theorem pre_3x : preN [51, 120] = 4613937818241073152 := by
  rw [preN_fw (b := false) (X1 := [51]) (X2 := []) (xe := 0) (z := 1) (m := 3) (by rfl) (by omega) (by decide)]
  decide +kernel
theorem looks_10 : looksL [32, 49, 48, 32] = true := by rfl
theorem pt_01 : pointT false false false false false 0 3 102 4591870180066957722 = [48, 46, 49, 48, 48] := by
  unfold pointT ptD
  rw [if_pos (Or.inl rfl)]
  decide +kernel
set_option maxRecDepth 100000 in
set_option maxHeartbeats 8000000 in
theorem cfixed_any (w : World) (hT : PowTab w) : Calls Tryz.prog 23 #[] w fun e w' => e = .returned (.bool true) ∧ Below w.heap.size w w' := by
  have c1 := fun W => cInput_any ⟨#[32, 49, 48, 32]⟩ true 4621819117588971520 W (by decide) looks_10 pre_10
  have c2 := fun W => cText_any ⟨#[57]⟩ W (by decide)
  have c3 := fun W => cOf_any 4621256167635550208 W
  have c4 := fun W => cCompare_num 3 1 4621819117588971520 4621256167635550208 ⟨#[32, 49, 48, 32]⟩ ⟨#[]⟩ p6g W (by decide) (by decide) (by decide) (by decide)
  have e4 : cmpN (numV2 3 4621819117588971520 ⟨#[32, 49, 48, 32]⟩) (numV2 1 4621256167635550208 ⟨#[]⟩) = 1 := by
    unfold numV2
    rw [if_pos (Or.inr rfl), if_pos (Or.inl rfl)]
    decide +kernel
  rw [e4] at c4
  have c5 := fun (W : World) (hW : PowTab W) => cCompare_str 3 2 4621819117588971520 0 ⟨#[32, 49, 48, 32]⟩ ⟨#[57]⟩ p6g ⟨#[]⟩ ⟨#[]⟩ W (Or.inr ⟨by decide, rfl⟩) (fun h => by cases h) (fun h => by cases h) hW
  have e5 : Lib.compareBytes (wrT 3 ⟨#[32, 49, 48, 32]⟩ ⟨#[]⟩).data.toList (wrT 2 ⟨#[57]⟩ ⟨#[]⟩).data.toList = -1 := by decide
  rw [e5] at c5
  have c6 := fun W => cOf_any 4591870180066957722 W
  have c7 := fun (W : World) (hW : PowTab W) => cString_any 1 4591870180066957722 ⟨#[]⟩ p3f ⟨#[48, 46, 49, 48, 48]⟩ W (fun _ W2 hW2 => by
    have h := conv_pt p3f 4591870180066957722 4 3 102 W2 (by omega) (by decide) rfl (by omega) (by omega) part_3f (by decide) (by decide) (by decide) (by decide) (by decide +kernel) hW2
    rw [pt_01] at h
    exact h) hW (by decide)
  replace c7 : ∀ W, PowTab W → Calls Tryz.prog 29 #[.agg #[.int .i64 1, .float .f64 4591870180066957722, .string ⟨#[]⟩], .string p3f] W fun e w' => e = .returned (.string ⟨#[48, 46, 49, 48, 48]⟩) ∧ Below W.heap.size W w' := c7
  have c8 := fun W => cText_any ⟨#[51, 120]⟩ W (by decide)
  have c9 := fun W => cNumber_any 2 0 ⟨#[51, 120]⟩ W (by decide)
  have e9 : numV2 2 0 ⟨#[51, 120]⟩ = 4613937818241073152 := by
    unfold numV2
    rw [if_neg (by decide), if_pos rfl]
    exact pre_3x
  rw [e9] at c9
  have c10 := fun W => cTrue_none 0 ⟨#[]⟩ W
  have t1 : (FloatKind.f64.format.order 4621819117588971520 4621819117588971520 == some .eq) = true := by decide +kernel
  have t2 : (FloatKind.f64.format.order 4613937818241073152 4613937818241073152 == some .eq) = true := by decide +kernel
  have HT := Lib.hid (Lib.tabBelow_of_tabIs hT)
  have C1 := Lib.hid c1
  have C2 := Lib.hid c2
  have C3 := Lib.hid c3
  have C4 := Lib.hid c4
  have C5 := Lib.hid c5
  have C6 := Lib.hid c6
  have C7 := Lib.hid c7
  have C8 := Lib.hid c8
  have C9 := Lib.hid c9
  have C10 := Lib.hid c10
  clear c1 c2 c3 c4 c5 c6 c7 c8 c9 c10 e4 e5 e9 hT
  go_enter Tryz.func23, Tryz.ntmps23
  go_wp2_with fail
  refine (C1.out _).mono ?_
  rintro e w1 ⟨rfl, hB1⟩
  go_wp2_with fail
  refine (C2.out _).mono ?_
  rintro e w2 ⟨rfl, h2⟩
  have hB2 := hB1.trans (h2.mono hB1.size)
  clear h2 hB1
  have fA := (Five.new w2 #[.int .i64 3, .float .f64 4621819117588971520, .string ⟨#[32, 49, 48, 32]⟩] 52).alloc (.cells #[.int .i64 2, .float .f64 0, .string ⟨#[57]⟩] 52)
  have fB := Five.new (w2.alloc (.cells #[.int .i64 3, .float .f64 4621819117588971520, .string ⟨#[32, 49, 48, 32]⟩] 52)) #[.int .i64 2, .float .f64 0, .string ⟨#[57]⟩] 52
  rw [World.size_alloc] at fB
  have hB3 := (hB2.alloc hB2.size (.cells #[.int .i64 3, .float .f64 4621819117588971520, .string ⟨#[32, 49, 48, 32]⟩] 52)).alloc (by have := hB2.size; rw [World.size_alloc]; omega) (.cells #[.int .i64 2, .float .f64 0, .string ⟨#[57]⟩] 52)
  obtain ⟨W3, hW3⟩ : ∃ W3, (w2.alloc (.cells #[.int .i64 3, .float .f64 4621819117588971520, .string ⟨#[32, 49, 48, 32]⟩] 52)).alloc (.cells #[.int .i64 2, .float .f64 0, .string ⟨#[57]⟩] 52) = W3 := ⟨_, rfl⟩
  obtain ⟨B, hB⟩ : ∃ B, w2.heap.size = B := ⟨_, rfl⟩
  rw [hW3] at fA fB hB3
  rw [hB] at fA fB
  have HW3 := Lib.hid hW3
  have HB := Lib.hid hB
  have FA := Lib.hid fA
  have FB := Lib.hid fB
  have HB3 := Lib.hid hB3
  clear hW3 hB fA fB hB3 hB2
  have hst := run_store_float
  go_wp2_with fail
  rw [HW3.out, HB.out]
  have HCW := Lib.hid (fun (W : World) (h : Below W3.heap.size W3 W) => (show W.cell? ⟨B, 0, none⟩ = some (.int .i64 3) ∧ W.cell? ⟨B, 1, none⟩ = some (.float .f64 4621819117588971520) ∧ W.cell? ⟨B, 2, none⟩ = some (.string ⟨#[32, 49, 48, 32]⟩) ∧ W.cell? ⟨B + 1, 0, none⟩ = some (.int .i64 2) ∧ W.cell? ⟨B + 1, 1, none⟩ = some (.float .f64 0) ∧ W.cell? ⟨B + 1, 2, none⟩ = some (.string ⟨#[57]⟩) from ⟨(FA.out.below h).cell 0, (FA.out.below h).cell 1, (FA.out.below h).cell 2, (FB.out.below h).cell 0, (FB.out.below h).cell 1, (FB.out.below h).cell 2⟩))
  have hR := Below.refl W3.heap.size W3
  obtain ⟨a0, a1, a2, a3, a4, a5⟩ := HCW.out W3 hR
  have HTW := Lib.hid (fun (W : World) (h : Below W3.heap.size W3 W) => HT.out W (HB3.out.trans (h.mono HB3.out.size)))
  clear hst
  go_region_held3 (fun W => W.cell? ⟨B, 0, none⟩ = some (.int .i64 3) ∧ W.cell? ⟨B, 1, none⟩ = some (.float .f64 4621819117588971520) ∧ W.cell? ⟨B, 2, none⟩ = some (.string ⟨#[32, 49, 48, 32]⟩) ∧ W.cell? ⟨B + 1, 0, none⟩ = some (.int .i64 2) ∧ W.cell? ⟨B + 1, 1, none⟩ = some (.float .f64 0) ∧ W.cell? ⟨B + 1, 2, none⟩ = some (.string ⟨#[57]⟩))
    (first | (with_reducible exact S11) | (with_reducible exact S10) | (with_reducible exact S9) | (with_reducible exact S8) | (with_reducible exact S7) | (with_reducible exact S6) | (with_reducible exact S5) | (with_reducible exact S4) | go_keep)
    (first
    | (go_at_call 38; (with_reducible refine (C3.out _).mono ?_); rintro e X4 ⟨rfl, h⟩; have b4 : Below W3.heap.size W3 X4 := ⟨h.os, h.tape, h.output, h.size, h.block⟩; have S4 := HCW.out _ b4; clear h)
    | (go_at_call 25; (with_reducible refine (C4.out _).mono ?_); rintro e X5 ⟨rfl, h⟩; have b5 : Below W3.heap.size W3 X5 := b4.trans ((⟨h.os, h.tape, h.output, h.size, h.block⟩ : Below X4.heap.size X4 X5).mono b4.size); have S5 := HCW.out _ b5; clear h)
    | (go_at_call 25; (with_reducible refine (C5.out _ (HTW.out _ (by first | exact b5 | exact b5.drew | exact below_drewN b5 _))).mono ?_); rintro e X6 ⟨rfl, h⟩; have b6 : Below W3.heap.size W3 X6 := b5.trans ((⟨h.os, h.tape, h.output, h.size, h.block⟩ : Below X5.heap.size X5 X6).mono b5.size); have S6 := HCW.out _ b6; clear h)
    | (go_at_call 38; (with_reducible refine (C6.out _).mono ?_); rintro e X7 ⟨rfl, h⟩; have b7 : Below W3.heap.size W3 X7 := b6.trans ((⟨h.os, h.tape, h.output, h.size, h.block⟩ : Below X6.heap.size X6 X7).mono b6.size); have S7 := HCW.out _ b7; clear h)
    | (go_at_call 29; (with_reducible refine (C7.out _ (HTW.out _ (by first | exact b7 | exact b7.drew | exact below_drewN b7 _))).mono ?_); rintro e X8 ⟨rfl, h⟩; have b8 : Below W3.heap.size W3 X8 := b7.trans ((⟨h.os, h.tape, h.output, h.size, h.block⟩ : Below X7.heap.size X7 X8).mono b7.size); have S8 := HCW.out _ b8; clear h)
    | (go_at_call 27; (with_reducible refine (C8.out _).mono ?_); rintro e X9 ⟨rfl, h⟩; have b9 : Below W3.heap.size W3 X9 := b8.trans ((⟨h.os, h.tape, h.output, h.size, h.block⟩ : Below X8.heap.size X8 X9).mono b8.size); have S9 := HCW.out _ b9; clear h)
    | (go_at_call 31; (with_reducible refine (C9.out _).mono ?_); rintro e X10 ⟨rfl, h⟩; have b10 : Below W3.heap.size W3 X10 := b9.trans ((⟨h.os, h.tape, h.output, h.size, h.block⟩ : Below X9.heap.size X9 X10).mono b9.size); have S10 := HCW.out _ b10; clear h)
    | (go_at_call 33; (with_reducible refine (C10.out _).mono ?_); rintro e X11 ⟨rfl, h⟩; have b11 : Below W3.heap.size W3 X11 := b10.trans ((⟨h.os, h.tape, h.output, h.size, h.block⟩ : Below X10.heap.size X10 X11).mono b10.size); have S11 := HCW.out _ b11; clear h))
  all_goals
    have hBf := HB3.out.trans (b11.mono HB3.out.size)
    go_wp2_with fail
    go_ret
    exact ⟨rfl, by first | exact hBf | exact ⟨hBf.os, hBf.tape, hBf.output, hBf.size, hBf.block⟩⟩
end Go.Proofs.YtmceakbjholjpaaGreatDoor

namespace Go.Proofs.YtmceakbjholjpaaGreatDoor
open Go.RowKit Go.Lib

theorem nearR_top (X D : Nat) : nearR X D ≤ 9218868437227405312 := by
  by_cases h : ∃ r, Near X D r
  · unfold nearR
    rw [dif_pos h]
    exact (Classical.choose_spec h).top
  · unfold nearR
    rw [dif_neg h]
    omega
end Go.Proofs.YtmceakbjholjpaaGreatDoor

namespace Go.Proofs.YtmceakbjholjpaaGreatDoor
open Go.RowKit Go.Lib

theorem rvalue_any (A : Option Addr) (n cap : Nat) (ds : List UInt8) (x : Int) (w : World) (hn : ds.length = n) (hn9 : n ≤ 100000) (hcap : n ≤ cap) (hcm : cap ≤ 9223372036854775807) (hx0 : -1000000 ≤ x) (hx9 : x ≤ 1000000) (hd : Dec ds) (hra : Rd .u8 w A (cod ds)) :
    Calls Tryz.prog 158 #[.slice A n cap, .int .i64 x] w (RVal w (2 * (pv ds * 10 ^ x.toNat) * S1074) (10 ^ (-x).toNat)) := by
  have hl := nz_le ds
  by_cases hz : nz ds = n
  · refine rvalue_zero A n cap ds x w hn hcap hcm hra hz _ _ ?_ (Nat.pow_pos (by omega))
    rw [nz_pv, hz, ← hn, List.drop_length]
    show 2 * (0 * _) * S1074 = 0
    rw [Nat.zero_mul, Nat.mul_zero, Nat.zero_mul]
  · obtain ⟨g, o, rfl, -⟩ := hra 0 (by rw [cod_len]; omega)
    obtain ⟨m, hm⟩ : ∃ m, n = nz ds + m := ⟨n - nz ds, by omega⟩
    rcases (by omega : x + (m : Int) < -400 ∨ 400 < x + (m : Int) ∨ (-400 ≤ x + (m : Int) ∧ x + (m : Int) ≤ 400)) with h | h | ⟨h, h'⟩
    · by_cases h1 : m ≤ 1000
      · exact rvalue_low g o n m _ cap ds x w hn rfl hm (by omega) h1 hcap hcm hx0 hx9 hd hra h
      · exact rvalue_low_long g o n m _ cap ds x w hn rfl hm (by omega) (by omega) hcap hcm hx0 hx9 hd hra h
    · by_cases h1 : m ≤ 1000
      · exact rvalue_high g o n m _ cap ds x w hn rfl hm (by omega) h1 hcap hcm hx0 hx9 hd hra h
      · exact rvalue_high_long g o n m _ cap ds x w hn rfl hm (by omega) (by omega) hcap hcm hx0 hx9 hd hra h
    · by_cases h1 : m ≤ 1000
      · exact rvalue_mid g o n m _ cap ds x w hn rfl hm (by omega) h1 hcap hcm hx0 hx9 hd hra h h'
      · exact rvalue_mid_long g o n m _ cap ds x w hn rfl hm (by omega) (by omega) hcap hcm hx0 hx9 hd hra h h'
theorem drop_head {p : UInt8 → Bool} {l t : List UInt8} {c : UInt8} (h : l.dropWhile p = c :: t) : p c = false := by
  induction l with
  | nil => cases h
  | cons d l ih =>
    rw [List.dropWhile_cons] at h
    cases hp : p d with
    | true => rw [hp, if_pos rfl] at h; exact ih h
    | false =>
      rw [hp, if_neg (by decide)] at h
      rw [← (List.cons.inj h).1]
      exact hp
theorem run_take (S : List UInt8) (p : Nat) : (S.drop p).take (nDig (S.drop p)) = (S.drop p).takeWhile isD := nDig_take _
theorem run_snoc {S : List UInt8} {p j : Nat} (h : p + j < S.length) : (S.drop p).take (j + 1) = (S.drop p).take j ++ [S[p + j]] := by
  have h2 : j < (S.drop p).length := by rw [List.length_drop]; omega
  have e : (S.drop p).take (j + 1) = (S.drop p).take j ++ [(S.drop p)[j]] := List.take_succ_eq_append_getElem h2
  rw [e, List.getElem_drop]
/-- A run of digits from a place on. -/
theorem dig_run (S : List UInt8) (p : Nat) : (∀ j, j < nDig (S.drop p) → digAt S (p + j) = true) ∧ digAt S (p + nDig (S.drop p)) = false := by
  obtain ⟨l, hl⟩ : ∃ l, S.drop p = l := ⟨_, rfl⟩
  have hg : ∀ j, S[p + j]? = l[j]? := fun j => by rw [← hl, List.getElem?_drop]
  rw [hl]
  constructor
  · intro j hj
    unfold digAt
    rw [hg]
    have hjl : j < l.length := Nat.lt_of_lt_of_le hj (nDig_le l)
    rw [List.getElem?_eq_getElem hjl]
    have hj2 : j < (l.takeWhile isD).length := hj
    have h1 : (l.takeWhile isD)[j]? = l[j]? := by
      rw [← nDig_take, List.getElem?_take, if_pos hj]
    rw [List.getElem?_eq_getElem hj2, List.getElem?_eq_getElem hjl] at h1
    rw [← Option.some.inj h1]
    show isD _ = true
    exact List.all_eq_true.1 (List.all_takeWhile (p := isD) (l := l)) _ (List.getElem_mem hj2)
  · unfold digAt
    rw [hg]
    cases h : l[nDig l]? with
    | none => rfl
    | some c =>
      have h1 := nDig_drop l
      obtain ⟨hlt, he⟩ := List.getElem?_eq_some_iff.1 h
      rw [List.drop_eq_getElem_cons hlt, he] at h1
      show isD c = false
      exact drop_head h1.symm
end Go.Proofs.YtmceakbjholjpaaGreatDoor

namespace Go.Proofs.YtmceakbjholjpaaGreatDoor
open Go.RowKit Go.Lib

/-- What stands behind the letter of an exponent: the sign, and where its digits begin. -/
inductive SKind (S : ByteArray) (k : Nat) : Bool → Nat → Prop
  | far (k' : Nat) (e : k = k') (h : S.size ≤ k) : SKind S k false k'
  | other (k' : Nat) (e : k = k') (hk : k < S.size) (h : (S[k]'hk).toNat ≠ 43 ∧ (S[k]'hk).toNat ≠ 45) : SKind S k false k'
  | plus (k' : Nat) (e : k + 1 = k') (hk : k < S.size) (h : (S[k]'hk).toNat = 43) : SKind S k false k'
  | minus (k' : Nat) (e : k + 1 = k') (hk : k < S.size) (h : (S[k]'hk).toNat = 45) : SKind S k true k'
/-- The exponent at a place, and where it ends. -/
inductive EKind (S : ByteArray) (q : Nat) : Int → Nat → Prop
  | far (x : Int) (en : Nat) (hx : Hid (x = 0)) (he : Hid (en = q)) (h : S.size ≤ q) : EKind S q x en
  | other (x : Int) (en : Nat) (hx : Hid (x = 0)) (he : Hid (en = q)) (hq : q < S.size) (h : (S[q]'hq).toNat ≠ 101 ∧ (S[q]'hq).toNat ≠ 69) : EKind S q x en
  | bare (x : Int) (en : Nat) (hx : Hid (x = 0)) (he : Hid (en = q)) (hq : q < S.size) (h : (S[q]'hq).toNat = 101 ∨ (S[q]'hq).toNat = 69) (b : Bool) (k : Nat) (hs : SKind S (q + 1) b k) (hd : digAt S.data.toList k = false) : EKind S q x en
  | num (x : Int) (en : Nat) (hq : q < S.size) (h : (S[q]'hq).toNat = 101 ∨ (S[q]'hq).toNat = 69) (b : Bool) (k c : Nat) (hs : SKind S (q + 1) b k) (hc : nDig (S.data.toList.drop k) = c) (hc0 : 0 < c)
      (hx : Hid (x = if b = true then -((min (pv ((S.data.toList.drop k).take c)) 100000 : Nat) : Int) else ((min (pv ((S.data.toList.drop k).take c)) 100000 : Nat) : Int))) (he : Hid (en = k + c)) : EKind S q x en
def RNum (w : World) (DS : List UInt8) (x : Int) (en : Nat) (e : Ending) (w' : World) : Prop :=
  ∃ r, e = .returned (.tuple #[.float .f64 r, .int .i64 (en : Int)]) ∧ Hid (Near (2 * (pv DS * 10 ^ x.toNat) * S1074) (10 ^ (-x).toNat) r) ∧ Below w.heap.size w w'
set_option maxRecDepth 100000 in
set_option maxHeartbeats 8000000 in
theorem rnum_none (S : ByteArray) (f a : Nat) (w : World) (hs9 : S.size ≤ 4000) (hfl : f ≤ S.size) (ha : nDig (S.data.toList.drop f) = a) (h0 : a = 0) (hN : S.size ≤ f ∨ (∃ hq : f < S.size, (S[f]'hq).toNat ≠ 46) ∨ (∃ hq : f < S.size, (S[f]'hq).toNat = 46 ∧ digAt S.data.toList (f + 1) = false)) :
    Calls Tryz.prog 104 #[.string S, .int .i64 (f : Int)] w (RNum w [] 0 f) := by
  obtain ⟨i0, hi, hz0, hz1, hz2⟩ := info_parts info_u8
  have hf := dig_run S.data.toList f
  rw [ha] at hf
  have Hf1 := Lib.hid hf.1
  have Hf2 := Lib.hid hf.2
  have hfs : f ≤ 4611686018427387904 := by omega
  have HZ := Lib.hid (show Near (2 * (pv [] * 10 ^ (0 : Int).toNat) * S1074) (10 ^ (-(0 : Int)).toNat) 0 by
    have e : 2 * (pv [] * 10 ^ (0 : Int).toNat) * S1074 = 0 := by rw [pv_nil, Nat.zero_mul, Nat.mul_zero, Nat.zero_mul]
    rw [e]
    exact near_zero (Nat.pow_pos (by omega)))
  have hdg : digAt S.data.toList f = false := by have h := Hf2.out; rw [h0] at h; exact h
  have CD := Lib.hid (fun W => isDigit_any S f W (by omega) (by omega))
  rw [hdg] at CD
  have CD1 := Lib.hid (fun W => isDigit_any S (f + 1) W (by omega) (by omega))
  clear hf hdg ha h0 Hf1 Hf2
  rcases hN with h | ⟨hq, h⟩ | ⟨hq, h, hd⟩
  · have t1 : ¬ (f : Int) < (S.size : Int) := by omega
    clear h CD1
    go_enter Tryz.func104, Tryz.ntmps104
    go_wp2_with fail
    go_loopw [6, 8, 9] (fun iv sv av wr => iv = .int .i64 (f : Int) ∧ sv = .bool false ∧ av = .slice none 0 0 ∧ wr = w) (fun _ _ _ _ => 0)
    case atStart => exact ⟨rfl, rfl, rfl, rfl⟩
    case round =>
      obtain ⟨rfl, rfl, rfl, rfl⟩ := hrel
      go_wp2_with fail
      refine (CD.out _).mono ?_
      rintro e w' ⟨rfl, rfl⟩
      go_wp2_with fail
      go_ret2
      exact ⟨0, rfl, HZ, Below.refl _ _⟩
  · obtain ⟨y, hy⟩ : ∃ y, (S[f]'hq).toNat = y := ⟨_, rfl⟩
    have hyi : (((S[f]'hq).toNat : Nat) : Int) = (y : Int) := by rw [hy]
    rw [hy] at h
    have t1 : (f : Int) < (S.size : Int) := by omega
    have u1 : ((y : Int) == 46) = false := by rw [beq_eq_false_iff_ne]; omega
    clear h hy CD1
    go_enter Tryz.func104, Tryz.ntmps104
    go_wp2_with fail
    go_loopw [6, 8, 9] (fun iv sv av wr => iv = .int .i64 (f : Int) ∧ sv = .bool false ∧ av = .slice none 0 0 ∧ wr = w) (fun _ _ _ _ => 0)
    case atStart => exact ⟨rfl, rfl, rfl, rfl⟩
    case round =>
      obtain ⟨rfl, rfl, rfl, rfl⟩ := hrel
      go_wp2_with fail
      refine (CD.out _).mono ?_
      rintro e w' ⟨rfl, rfl⟩
      go_wp2_with fail
      go_ret2
      exact ⟨0, rfl, HZ, Below.refl _ _⟩
  · obtain ⟨y, hy⟩ : ∃ y, (S[f]'hq).toNat = y := ⟨_, rfl⟩
    have hyi : (((S[f]'hq).toNat : Nat) : Int) = (y : Int) := by rw [hy]
    rw [hy] at h
    have t1 : (f : Int) < (S.size : Int) := by omega
    have u1 : ((y : Int) == 46) = true := by rw [beq_iff_eq]; omega
    rw [hd] at CD1
    clear h hy hd
    go_enter Tryz.func104, Tryz.ntmps104
    go_wp2_with fail
    go_loopw [6, 8, 9] (fun iv sv av wr => iv = .int .i64 (f : Int) ∧ sv = .bool false ∧ av = .slice none 0 0 ∧ wr = w) (fun _ _ _ _ => 0)
    case atStart => exact ⟨rfl, rfl, rfl, rfl⟩
    case round =>
      obtain ⟨rfl, rfl, rfl, rfl⟩ := hrel
      go_wp2_with fail
      refine (CD.out _).mono ?_
      rintro e w' ⟨rfl, rfl⟩
      go_wp2_with fail
      refine (CD1.out _).mono ?_
      rintro e w' ⟨rfl, rfl⟩
      go_wp2_with fail
      go_ret2
      exact ⟨0, rfl, HZ, Below.refl _ _⟩
set_option maxRecDepth 100000 in
set_option maxHeartbeats 8000000 in
theorem rnum_plain (S : ByteArray) (f a : Nat) (w : World) (hs9 : S.size ≤ 4000) (hfl : f ≤ S.size) (ha : nDig (S.data.toList.drop f) = a) (h0 : 0 < a) (hP : S.size ≤ f + a ∨ (∃ hq : f + a < S.size, (S[f + a]'hq).toNat ≠ 46)) (ex : Int) (en : Nat) (hE : EKind S (f + a) ex en) :
    Calls Tryz.prog 104 #[.string S, .int .i64 (f : Int)] w (RNum w ((S.data.toList.drop f).take a) (0 + ex) en) := by
  obtain ⟨i0, hi, hz0, hz1, hz2⟩ := info_parts info_u8
  have hf := dig_run S.data.toList f
  rw [ha] at hf
  have Hf1 := Lib.hid hf.1
  have Hf2 := Lib.hid hf.2
  have hfs : f ≤ 4611686018427387904 := by omega
  have hsome : decide (0 < a) = true := decide_eq_true h0
  have hal : a ≤ S.size := by rw [← ha]; have := nDig_le (S.data.toList.drop f); rw [List.length_drop, ba_len] at this; omega
  have HDd := Lib.hid (show Dec ((S.data.toList.drop f).take a) by rw [← ha, run_take]; exact dec_takeWhile _)
  obtain ⟨DS, hDS⟩ : ∃ DS, (S.data.toList.drop f).take a = DS := ⟨_, rfl⟩
  have hDSl : DS.length ≤ 4000 := by rw [← hDS, List.length_take, List.length_drop, ba_len]; omega
  rw [hDS] at HDd ⊢
  have HDS := Lib.hid hDS
  clear hf ha hDS
  go_enter Tryz.func104, Tryz.ntmps104
  go_wp2_with fail
  go_loopw [6, 8, 9] (fun iv sv av wr => ∃ (j m n9 : Nat) (v : Value), j ≤ a ∧ m = f + j ∧ iv = .int .i64 (m : Int) ∧ sv = .bool (decide (0 < j)) ∧ av = v ∧ n9 = ((S.data.toList.drop f).take j).length ∧ Own .u8 wr w.heap.size 5 v (cod ((S.data.toList.drop f).take j)) ∧ Below w.heap.size w wr) (fun iv _ _ _ => f + a - (RowKit.intOf iv).toNat)
  case atStart => exact ⟨0, f, 0, _, by omega, by omega, rfl, rfl, rfl, by rw [List.take_zero]; rfl, by rw [List.take_zero]; exact Own.nil _ _ _, Below.refl _ _⟩
  case round =>
    try clear hB
    obtain ⟨j, m, n9, av, hj, hm, rfl, rfl, rfl, hn9, hO, hB⟩ := hrel
    by_cases hlt : j < a
    · have hdg : digAt S.data.toList m = true := by rw [hm]; exact Hf1.out j hlt
      have hms : m < S.size := by have := digAt_lt hdg; rw [ba_len] at this; exact this
      have CD := Lib.hid (fun W => isDigit_any S m W (by omega) (by omega))
      rw [hdg] at CD
      obtain ⟨z, hz⟩ : ∃ z, (S[m]'hms).toNat = z := ⟨_, rfl⟩
      have hzi : (((S[m]'hms).toNat : Nat) : Int) = (z : Int) := by rw [hz]
      have hzD : 48 ≤ z ∧ z ≤ 57 := by
        have hl : m < S.data.toList.length := by rw [ba_len]; exact hms
        rw [digAt_at hl] at hdg
        have hb := ba_byte S rfl m hms
        rw [List.getElem?_eq_getElem hl] at hb
        rw [Option.some.inj hb] at hdg
        have := isD_iff.1 hdg
        rw [hz] at this
        exact this
      obtain ⟨L, hL⟩ : ∃ L, (S.data.toList.drop f).take j = L := ⟨_, rfl⟩
      rw [hL] at hO hn9
      have hcz : cod L ++ [z] = cod ((S.data.toList.drop f).take (j + 1)) := by
        have hl : f + j < S.data.toList.length := by rw [ba_len, ← hm]; exact hms
        have hb := ba_byte S rfl m hms
        rw [run_snoc hl, hL]
        have e : S.data.toList[f + j] = S[m]'hms := by
          subst hm
          rw [List.getElem?_eq_getElem hl] at hb
          exact Option.some.inj hb
        rw [e]
        unfold cod
        rw [List.map_append]
        show _ = _ ++ [(S[m]'hms).toNat]
        rw [hz]
      have hLl : L.length ≤ 100000 := by
        rw [← hL]
        simp only [List.length_take, List.length_drop, ba_len]
        omega
      have hlen1 : n9 + 1 = ((S.data.toList.drop f).take (j + 1)).length := by
        have h := congrArg List.length hcz
        rw [List.length_append, cod_len, cod_len] at h
        rw [← h, hn9]
        rfl
      have HLN := Lib.hid hlen1
      clear hlen1
      obtain ⟨A9, c9, rfl, hc91, hc92⟩ := hO.slice
      have hown := hO.row (n := n9) (by rw [cod_len]; exact hn9.symm)
      rw [cod_len, ← hn9] at hown ⊢
      have hn99 : n9 ≤ 100000 := by omega
      have HM := Lib.hid hm
      have HN9 := Lib.hid hn9
      clear hO hL hz hdg hm hc91 hc92 hn9
      go_wp2_with fail
      refine (CD.out _).mono ?_
      rintro e w' ⟨rfl, rfl⟩
      have hsz9 := hB.size
      go_wp2_with (at_builtin; refine wpList_append_own _ rfl _ _ 138 rfl w.heap.size 5 i0 (.int .u8 0) 1 1 Tryz.underlying138 hi hz0 hz1 hz2 rfl (by decide) _ _ _ rfl (hown.alloc _) ⟨wr.heap.size, 0, none⟩ 1 1 [.int .u8 (z : Int)] rfl rfl (cell_one_new _ _ _) ?Pf2 ?Pf3 ?Pf4 ?Pf5 ?_)
      case Pf2 => simp [Value.oneCell']
      case Pf3 => unfold maxLen; omega
      case Pf4 => omega
      case Pf5 => first | omega | (simp; omega)
      intro v1 w1 hown1 hgrow1 _
      have hO1 : Own .u8 w1 w.heap.size 5 v1 (cod L ++ [z]) := Own.snoc hown1 (by rw [cod_len]; exact HN9.out)
      have hB1 := (hB.alloc hB.size _).grown hgrow1 (by simp; have := hB.size; omega) (fun z e => (World.ownsRow.lt hown z e).1)
      rw [hcz] at hO1
      have HO1 := Lib.hid hO1
      have HB1 := Lib.hid hB1
      clear hown hown1 hgrow1 hO1 hB1 hcz
      go_wp2_with fail
      go_roundw
      case rel => exact ⟨j + 1, m + 1, n9 + 1, v1, by omega, by rw [HM.out]; omega, by go_num, congrArg Value.bool (decide_eq_true (by omega)).symm, rfl, HLN.out, HO1.out, HB1.out⟩
      case measure =>
        have := HM.out
        simp [RowKit.intOf]
        omega
    · obtain rfl : a = j := by omega
      have hdg : digAt S.data.toList m = false := by rw [hm]; exact Hf2.out
      have CD := Lib.hid (fun W => isDigit_any S m W (by omega) (by omega))
      rw [hdg] at CD
      obtain ⟨A9, c9, rfl, hc91, hc92⟩ := hO.slice
      rw [cod_len, ← hn9] at hc91 ⊢
      rw [HDS.out] at hO hn9
      have HOR := Lib.hid hO.rd
      have HB := Lib.hid hB
      have hn94 : n9 ≤ 100000 := by rw [hn9, show DS.length = DS.length from rfl]; omega
      have CV := Lib.hid (fun (x : Int) (h0 : -1000000 ≤ x) (h9 : x ≤ 1000000) => rvalue_any A9 n9 c9 (DS) x wr hn9.symm hn94 hc91 (by unfold maxLen at hc92; omega) h0 h9 (HDd.out) HOR.out)
      rw [hsome]
      subst hm
      obtain ⟨m, hm⟩ : ∃ m, f + a = m := ⟨_, rfl⟩
      rw [hm] at hP hE CD ⊢
      clear hO hB hn9 hDSl hc91 hc92 hdg hm
      rcases hP with h | ⟨hq, h⟩
      · have p1 : ¬ (m : Int) < (S.size : Int) := by omega
        go_wp2_with fail
        refine (CD.out _).mono ?_
        rintro e w' ⟨rfl, rfl⟩
        cases hE with
        | far hx he h =>
          have t1 : ¬ (m : Int) < (S.size : Int) := by omega
          go_wp2_with fail
          refine (CV.out (0) (by omega) (by omega)).mono ?_
          rintro e w3 ⟨r, rfl, hr, hB3⟩
          have hB4 := HB.out.trans (hB3.mono HB.out.size)
          go_wp2_with fail
          go_ret2
          exact ⟨r, by rw [he.out]; rfl, by rw [hx.out, Int.add_zero]; exact hr, hB4⟩
        | other hx he hq h =>
          exact absurd hq (by omega)
        | bare hx he hq h b0 k hs hd =>
          exact absurd hq (by omega)
        | num hq h b0 k c hs hc hc0 hx he =>
          exact absurd hq (by omega)
      · obtain ⟨y0, hy0⟩ : ∃ y, (S[m]'hq).toNat = y := ⟨_, rfl⟩
        have hyi0 : (((S[m]'hq).toNat : Nat) : Int) = (y0 : Int) := by rw [hy0]
        have p1 : (m : Int) < (S.size : Int) := by omega
        have p2 : ((y0 : Int) == 46) = false := by rw [beq_eq_false_iff_ne]; omega
        clear h
        go_wp2_with fail
        refine (CD.out _).mono ?_
        rintro e w' ⟨rfl, rfl⟩
        cases hE with
        | far hx he h =>
          exact absurd h (by omega)
        | other hx he hq h =>
          rw [hy0] at h
          obtain ⟨o1, o2⟩ := h
          have t1 : (m : Int) < (S.size : Int) := by omega
          have u1 : ((y0 : Int) == 101) = false := by rw [beq_eq_false_iff_ne]; omega
          have u2 : ((y0 : Int) == 69) = false := by rw [beq_eq_false_iff_ne]; omega
          clear o1 o2 hy0
          go_wp2_with fail
          refine (CV.out (0) (by omega) (by omega)).mono ?_
          rintro e w3 ⟨r, rfl, hr, hB3⟩
          have hB4 := HB.out.trans (hB3.mono HB.out.size)
          go_wp2_with fail
          go_ret2
          exact ⟨r, by rw [he.out]; rfl, by rw [hx.out, Int.add_zero]; exact hr, hB4⟩
        | bare hx he hq h b0 k hs hd =>
          rw [hy0] at h
          have hE2 : ((y0 : Int) == 101) = true ∨ (((y0 : Int) == 101) = false ∧ ((y0 : Int) == 69) = true) := by
            rcases h with h | h
            · left; rw [beq_iff_eq]; omega
            · right; rw [beq_eq_false_iff_ne, beq_iff_eq]; omega
          clear h hy0
          have t1 : (m : Int) < (S.size : Int) := by omega
          obtain ⟨m1, hm1⟩ : ∃ m1, m + 1 = m1 := ⟨_, rfl⟩
          have hk0 : (m : Int) + 1 = (m1 : Int) := by omega
          rw [hm1] at hs
          rcases hE2 with u1 | ⟨u1, u2⟩
          all_goals
            cases hs with
            | far _ e h2 =>
              subst e
              have hkl : ¬ (m1 : Int) < (S.size : Int) := by omega
              clear hm1
              have CD2 := Lib.hid (fun W => isDigit_any S (m1) W (by omega) (by omega))
              rw [hd] at CD2
              go_wp2_with fail
              refine (CD2.out _).mono ?_
              rintro e w' ⟨rfl, rfl⟩
              go_wp2_with fail
              refine (CV.out (0) (by omega) (by omega)).mono ?_
              rintro e w3 ⟨r, rfl, hr, hB3⟩
              have hB4 := HB.out.trans (hB3.mono HB.out.size)
              go_wp2_with fail
              go_ret2
              exact ⟨r, by rw [he.out]; rfl, by rw [hx.out, Int.add_zero]; exact hr, hB4⟩
            | other _ e hk h2 =>
              subst e
              obtain ⟨y2, hy2⟩ : ∃ y, (S[m1]'hk).toNat = y := ⟨_, rfl⟩
              have hyi2 : (((S[m1]'hk).toNat : Nat) : Int) = (y2 : Int) := by rw [hy2]
              rw [hy2] at h2
              have hkl : (m1 : Int) < (S.size : Int) := by omega
              obtain ⟨o1, o2⟩ := h2
              have v1 : ((y2 : Int) == 43) = false := by rw [beq_eq_false_iff_ne]; omega
              have v2 : ((y2 : Int) == 45) = false := by rw [beq_eq_false_iff_ne]; omega
              clear o1 o2 hy2 hm1
              have CD2 := Lib.hid (fun W => isDigit_any S (m1) W (by omega) (by omega))
              rw [hd] at CD2
              go_wp2_with fail
              refine (CD2.out _).mono ?_
              rintro e w' ⟨rfl, rfl⟩
              go_wp2_with fail
              refine (CV.out (0) (by omega) (by omega)).mono ?_
              rintro e w3 ⟨r, rfl, hr, hB3⟩
              have hB4 := HB.out.trans (hB3.mono HB.out.size)
              go_wp2_with fail
              go_ret2
              exact ⟨r, by rw [he.out]; rfl, by rw [hx.out, Int.add_zero]; exact hr, hB4⟩
            | plus _ e hk h2 =>
              subst e
              obtain ⟨y2, hy2⟩ : ∃ y, (S[m1]'hk).toNat = y := ⟨_, rfl⟩
              have hyi2 : (((S[m1]'hk).toNat : Nat) : Int) = (y2 : Int) := by rw [hy2]
              rw [hy2] at h2
              have hkl : (m1 : Int) < (S.size : Int) := by omega
              have v1 : ((y2 : Int) == 43) = true := by rw [beq_iff_eq]; omega
              have v2 : ((y2 : Int) == 45) = false := by rw [beq_eq_false_iff_ne]; omega
              obtain ⟨m22, hm22⟩ : ∃ q, m1 + 1 = q := ⟨_, rfl⟩
              have hk1 : (m1 : Int) + 1 = (m22 : Int) := by omega
              rw [hm22] at hd
              have hm2b : m22 ≤ S.size + 2 := by omega
              clear h2 hy2 hm1 hm22
              have CD2 := Lib.hid (fun W => isDigit_any S (m22) W (by omega) (by omega))
              rw [hd] at CD2
              go_wp2_with fail
              refine (CD2.out _).mono ?_
              rintro e w' ⟨rfl, rfl⟩
              go_wp2_with fail
              refine (CV.out (0) (by omega) (by omega)).mono ?_
              rintro e w3 ⟨r, rfl, hr, hB3⟩
              have hB4 := HB.out.trans (hB3.mono HB.out.size)
              go_wp2_with fail
              go_ret2
              exact ⟨r, by rw [he.out]; rfl, by rw [hx.out, Int.add_zero]; exact hr, hB4⟩
            | minus _ e hk h2 =>
              subst e
              obtain ⟨y2, hy2⟩ : ∃ y, (S[m1]'hk).toNat = y := ⟨_, rfl⟩
              have hyi2 : (((S[m1]'hk).toNat : Nat) : Int) = (y2 : Int) := by rw [hy2]
              rw [hy2] at h2
              have hkl : (m1 : Int) < (S.size : Int) := by omega
              have v1 : ((y2 : Int) == 43) = false := by rw [beq_eq_false_iff_ne]; omega
              have v2 : ((y2 : Int) == 45) = true := by rw [beq_iff_eq]; omega
              obtain ⟨m22, hm22⟩ : ∃ q, m1 + 1 = q := ⟨_, rfl⟩
              have hk1 : (m1 : Int) + 1 = (m22 : Int) := by omega
              rw [hm22] at hd
              have hm2b : m22 ≤ S.size + 2 := by omega
              clear h2 hy2 hm1 hm22
              have CD2 := Lib.hid (fun W => isDigit_any S (m22) W (by omega) (by omega))
              rw [hd] at CD2
              go_wp2_with fail
              refine (CD2.out _).mono ?_
              rintro e w' ⟨rfl, rfl⟩
              go_wp2_with fail
              refine (CV.out (0) (by omega) (by omega)).mono ?_
              rintro e w3 ⟨r, rfl, hr, hB3⟩
              have hB4 := HB.out.trans (hB3.mono HB.out.size)
              go_wp2_with fail
              go_ret2
              exact ⟨r, by rw [he.out]; rfl, by rw [hx.out, Int.add_zero]; exact hr, hB4⟩
        | num hq h b0 k c hs hc hc0 hx he =>
          rw [hy0] at h
          have hE2 : ((y0 : Int) == 101) = true ∨ (((y0 : Int) == 101) = false ∧ ((y0 : Int) == 69) = true) := by
            rcases h with h | h
            · left; rw [beq_iff_eq]; omega
            · right; rw [beq_eq_false_iff_ne, beq_iff_eq]; omega
          clear h hy0
          have t1 : (m : Int) < (S.size : Int) := by omega
          obtain ⟨m1, hm1⟩ : ∃ m1, m + 1 = m1 := ⟨_, rfl⟩
          have hk0 : (m : Int) + 1 = (m1 : Int) := by omega
          rw [hm1] at hs
          rcases hE2 with u1 | ⟨u1, u2⟩
          all_goals
            cases hs with
            | far _ e h2 =>
              subst e
              have hkl : ¬ (m1 : Int) < (S.size : Int) := by omega
              clear hm1
              obtain ⟨D9, hD9⟩ : ∃ D9, (S.data.toList.drop (m1)).take c = D9 := ⟨_, rfl⟩
              have hrun := dig_run S.data.toList (m1)
              rw [hc] at hrun
              have hkb : m1 ≤ S.size + 2 := by omega
              have HRUN := Lib.hid hrun
              have HDIG := Lib.hid hD9
              have CD3 := Lib.hid (fun (i : Nat) (hi : i ≤ 4611686018427387904) W => isDigit_any S i W (by omega) hi)
              have hcs : c ≤ S.size := by rw [← hc]; have := nDig_le (S.data.toList.drop (m1)); rw [List.length_drop, ba_len] at this; omega
              clear hrun hc hD9
              go_wp2_with fail
              refine (CD3.out m1 (by omega) _).mono ?_
              rintro e w' ⟨rfl, rfl⟩
              rw [show digAt S.data.toList m1 = true by have := HRUN.out.1 0 hc0; rwa [Nat.add_zero] at this]
              go_wp2_with fail
              go_loop [10, 12] (fun kv nv => ∃ j a2 m2 : Nat, j ≤ c ∧ m2 = m1 + j ∧ kv = .int .i64 (m2 : Int) ∧ nv = .int .i64 (a2 : Int) ∧ a2 = min (pv ((S.data.toList.drop m1).take j)) 100000) (fun kv _ => m1 + c - (RowKit.intOf kv).toNat)
              case atStart => exact ⟨0, 0, m1, by omega, by omega, rfl, rfl, by rw [List.take_zero, pv_nil, Nat.zero_min]⟩
              case round =>
                obtain ⟨j, a2, m2, hj, hm2, rfl, rfl, ha2⟩ := hrel
                have ha2b : a2 ≤ 100000 := by omega
                by_cases hlt : j < c
                · have hdg : digAt S.data.toList m2 = true := by rw [hm2]; exact HRUN.out.1 j hlt
                  have hms : m2 < S.size := by have := digAt_lt hdg; rw [ba_len] at this; exact this
                  obtain ⟨z, hz⟩ : ∃ z, (S[m2]'hms).toNat = z := ⟨_, rfl⟩
                  have hzi : (((S[m2]'hms).toNat : Nat) : Int) = (z : Int) := by rw [hz]
                  have hl : m2 < S.data.toList.length := by rw [ba_len]; exact hms
                  have hb := ba_byte S rfl m2 hms
                  rw [List.getElem?_eq_getElem hl] at hb
                  have hbe := Option.some.inj hb
                  have hzD : 48 ≤ z ∧ z ≤ 57 := by
                    have h0 := hdg
                    rw [digAt_at hl, hbe] at h0
                    have := isD_iff.1 h0
                    rw [hz] at this
                    exact this
                  obtain ⟨zd1, zd2⟩ := hzD
                  obtain ⟨a3, ha3⟩ : ∃ a3 : Nat, min (10 * (a2 : Int) + ((z : Int) - 48)) 100000 = (a3 : Int) := ⟨(min (10 * (a2 : Int) + ((z : Int) - 48)) 100000).toNat, by omega⟩
                  have HA3 := Lib.hid (show a3 = min (pv ((S.data.toList.drop m1).take (j + 1))) 100000 by
                    have hl2 : m1 + j < S.data.toList.length := by rw [← hm2]; exact hl
                    have e : S.data.toList[m1 + j] = S[m2]'hms := by
                      have hb2 := hb
                      subst hm2
                      exact hbe
                    rw [run_snoc hl2, e, pv_snoc, hz, ← cnt_step (a := a2) (by omega) ha2]
                    omega)
                  have CD4 := Lib.hid (CD3.out m2 (by omega))
                  have HM2 := Lib.hid hm2
                  have HA2 := Lib.hid ha2
                  clear hz hl hb hbe ha2
                  rw [hdg] at CD4
                  clear hdg hm2
                  go_wp2_with fail
                  refine (CD4.out _).mono ?_
                  rintro e w' ⟨rfl, rfl⟩
                  go_wp2_with fail
                  go_round
                  case rel => exact ⟨j + 1, a3, m2 + 1, by omega, by rw [HM2.out]; omega, by go_num, rfl, HA3.out⟩
                  case measure => simp [RowKit.intOf]; have := HM2.out; omega
                · obtain rfl : c = j := by omega
                  have hdg : digAt S.data.toList m2 = false := by rw [hm2]; exact HRUN.out.2
                  have CD4 := Lib.hid (CD3.out m2 (by have := digAt_lt (l := S.data.toList) (i := m1) (by have := HRUN.out.1 0 hc0; rwa [Nat.add_zero] at this); rw [ba_len] at this; omega))
                  rw [hdg] at CD4
                  have HA2 := Lib.hid ha2
                  have HM2 := Lib.hid hm2
                  have HD9 := HDIG.out
                  clear ha2 hdg hm2 HD9
                  go_wp2_with fail
                  refine (CD4.out _).mono ?_
                  rintro e w' ⟨rfl, rfl⟩
                  go_wp2_with fail
                  refine (CV.out ((a2 : Int)) (by omega) (by omega)).mono ?_
                  rintro e w3 ⟨r, rfl, hr, hB3⟩
                  have hB4 := HB.out.trans (hB3.mono HB.out.size)
                  go_wp2_with fail
                  go_ret2
                  refine ⟨r, ?_, ?_, hB4⟩
                  · rw [he.out, ← HM2.out]
                    rfl
                  · have e := HA2.out
                    rw [hx.out, if_neg (by decide), ← e]
                    exact (by rw [Int.zero_add]; exact hr)
            | other _ e hk h2 =>
              subst e
              obtain ⟨y2, hy2⟩ : ∃ y, (S[m1]'hk).toNat = y := ⟨_, rfl⟩
              have hyi2 : (((S[m1]'hk).toNat : Nat) : Int) = (y2 : Int) := by rw [hy2]
              rw [hy2] at h2
              have hkl : (m1 : Int) < (S.size : Int) := by omega
              obtain ⟨o1, o2⟩ := h2
              have v1 : ((y2 : Int) == 43) = false := by rw [beq_eq_false_iff_ne]; omega
              have v2 : ((y2 : Int) == 45) = false := by rw [beq_eq_false_iff_ne]; omega
              clear o1 o2 hy2 hm1
              obtain ⟨D9, hD9⟩ : ∃ D9, (S.data.toList.drop (m1)).take c = D9 := ⟨_, rfl⟩
              have hrun := dig_run S.data.toList (m1)
              rw [hc] at hrun
              have hkb : m1 ≤ S.size + 2 := by omega
              have HRUN := Lib.hid hrun
              have HDIG := Lib.hid hD9
              have CD3 := Lib.hid (fun (i : Nat) (hi : i ≤ 4611686018427387904) W => isDigit_any S i W (by omega) hi)
              have hcs : c ≤ S.size := by rw [← hc]; have := nDig_le (S.data.toList.drop (m1)); rw [List.length_drop, ba_len] at this; omega
              clear hrun hc hD9
              go_wp2_with fail
              refine (CD3.out m1 (by omega) _).mono ?_
              rintro e w' ⟨rfl, rfl⟩
              rw [show digAt S.data.toList m1 = true by have := HRUN.out.1 0 hc0; rwa [Nat.add_zero] at this]
              go_wp2_with fail
              go_loop [10, 12] (fun kv nv => ∃ j a2 m2 : Nat, j ≤ c ∧ m2 = m1 + j ∧ kv = .int .i64 (m2 : Int) ∧ nv = .int .i64 (a2 : Int) ∧ a2 = min (pv ((S.data.toList.drop m1).take j)) 100000) (fun kv _ => m1 + c - (RowKit.intOf kv).toNat)
              case atStart => exact ⟨0, 0, m1, by omega, by omega, rfl, rfl, by rw [List.take_zero, pv_nil, Nat.zero_min]⟩
              case round =>
                obtain ⟨j, a2, m2, hj, hm2, rfl, rfl, ha2⟩ := hrel
                have ha2b : a2 ≤ 100000 := by omega
                by_cases hlt : j < c
                · have hdg : digAt S.data.toList m2 = true := by rw [hm2]; exact HRUN.out.1 j hlt
                  have hms : m2 < S.size := by have := digAt_lt hdg; rw [ba_len] at this; exact this
                  obtain ⟨z, hz⟩ : ∃ z, (S[m2]'hms).toNat = z := ⟨_, rfl⟩
                  have hzi : (((S[m2]'hms).toNat : Nat) : Int) = (z : Int) := by rw [hz]
                  have hl : m2 < S.data.toList.length := by rw [ba_len]; exact hms
                  have hb := ba_byte S rfl m2 hms
                  rw [List.getElem?_eq_getElem hl] at hb
                  have hbe := Option.some.inj hb
                  have hzD : 48 ≤ z ∧ z ≤ 57 := by
                    have h0 := hdg
                    rw [digAt_at hl, hbe] at h0
                    have := isD_iff.1 h0
                    rw [hz] at this
                    exact this
                  obtain ⟨zd1, zd2⟩ := hzD
                  obtain ⟨a3, ha3⟩ : ∃ a3 : Nat, min (10 * (a2 : Int) + ((z : Int) - 48)) 100000 = (a3 : Int) := ⟨(min (10 * (a2 : Int) + ((z : Int) - 48)) 100000).toNat, by omega⟩
                  have HA3 := Lib.hid (show a3 = min (pv ((S.data.toList.drop m1).take (j + 1))) 100000 by
                    have hl2 : m1 + j < S.data.toList.length := by rw [← hm2]; exact hl
                    have e : S.data.toList[m1 + j] = S[m2]'hms := by
                      have hb2 := hb
                      subst hm2
                      exact hbe
                    rw [run_snoc hl2, e, pv_snoc, hz, ← cnt_step (a := a2) (by omega) ha2]
                    omega)
                  have CD4 := Lib.hid (CD3.out m2 (by omega))
                  have HM2 := Lib.hid hm2
                  have HA2 := Lib.hid ha2
                  clear hz hl hb hbe ha2
                  rw [hdg] at CD4
                  clear hdg hm2
                  go_wp2_with fail
                  refine (CD4.out _).mono ?_
                  rintro e w' ⟨rfl, rfl⟩
                  go_wp2_with fail
                  go_round
                  case rel => exact ⟨j + 1, a3, m2 + 1, by omega, by rw [HM2.out]; omega, by go_num, rfl, HA3.out⟩
                  case measure => simp [RowKit.intOf]; have := HM2.out; omega
                · obtain rfl : c = j := by omega
                  have hdg : digAt S.data.toList m2 = false := by rw [hm2]; exact HRUN.out.2
                  have CD4 := Lib.hid (CD3.out m2 (by have := digAt_lt (l := S.data.toList) (i := m1) (by have := HRUN.out.1 0 hc0; rwa [Nat.add_zero] at this); rw [ba_len] at this; omega))
                  rw [hdg] at CD4
                  have HA2 := Lib.hid ha2
                  have HM2 := Lib.hid hm2
                  have HD9 := HDIG.out
                  clear ha2 hdg hm2 HD9
                  go_wp2_with fail
                  refine (CD4.out _).mono ?_
                  rintro e w' ⟨rfl, rfl⟩
                  go_wp2_with fail
                  refine (CV.out ((a2 : Int)) (by omega) (by omega)).mono ?_
                  rintro e w3 ⟨r, rfl, hr, hB3⟩
                  have hB4 := HB.out.trans (hB3.mono HB.out.size)
                  go_wp2_with fail
                  go_ret2
                  refine ⟨r, ?_, ?_, hB4⟩
                  · rw [he.out, ← HM2.out]
                    rfl
                  · have e := HA2.out
                    rw [hx.out, if_neg (by decide), ← e]
                    exact (by rw [Int.zero_add]; exact hr)
            | plus _ e hk h2 =>
              subst e
              obtain ⟨y2, hy2⟩ : ∃ y, (S[m1]'hk).toNat = y := ⟨_, rfl⟩
              have hyi2 : (((S[m1]'hk).toNat : Nat) : Int) = (y2 : Int) := by rw [hy2]
              rw [hy2] at h2
              have hkl : (m1 : Int) < (S.size : Int) := by omega
              have v1 : ((y2 : Int) == 43) = true := by rw [beq_iff_eq]; omega
              have v2 : ((y2 : Int) == 45) = false := by rw [beq_eq_false_iff_ne]; omega
              obtain ⟨m22, hm22⟩ : ∃ q, m1 + 1 = q := ⟨_, rfl⟩
              have hk1 : (m1 : Int) + 1 = (m22 : Int) := by omega
              rw [hm22] at hc hx he
              have hm2b : m22 ≤ S.size + 2 := by omega
              clear h2 hy2 hm1 hm22
              obtain ⟨D9, hD9⟩ : ∃ D9, (S.data.toList.drop (m22)).take c = D9 := ⟨_, rfl⟩
              have hrun := dig_run S.data.toList (m22)
              rw [hc] at hrun
              have hkb : m22 ≤ S.size + 2 := by omega
              have HRUN := Lib.hid hrun
              have HDIG := Lib.hid hD9
              have CD3 := Lib.hid (fun (i : Nat) (hi : i ≤ 4611686018427387904) W => isDigit_any S i W (by omega) hi)
              have hcs : c ≤ S.size := by rw [← hc]; have := nDig_le (S.data.toList.drop (m22)); rw [List.length_drop, ba_len] at this; omega
              clear hrun hc hD9
              go_wp2_with fail
              refine (CD3.out m22 (by omega) _).mono ?_
              rintro e w' ⟨rfl, rfl⟩
              rw [show digAt S.data.toList m22 = true by have := HRUN.out.1 0 hc0; rwa [Nat.add_zero] at this]
              go_wp2_with fail
              go_loop [10, 12] (fun kv nv => ∃ j a2 m2 : Nat, j ≤ c ∧ m2 = m22 + j ∧ kv = .int .i64 (m2 : Int) ∧ nv = .int .i64 (a2 : Int) ∧ a2 = min (pv ((S.data.toList.drop m22).take j)) 100000) (fun kv _ => m22 + c - (RowKit.intOf kv).toNat)
              case atStart => exact ⟨0, 0, m22, by omega, by omega, rfl, rfl, by rw [List.take_zero, pv_nil, Nat.zero_min]⟩
              case round =>
                obtain ⟨j, a2, m2, hj, hm2, rfl, rfl, ha2⟩ := hrel
                have ha2b : a2 ≤ 100000 := by omega
                by_cases hlt : j < c
                · have hdg : digAt S.data.toList m2 = true := by rw [hm2]; exact HRUN.out.1 j hlt
                  have hms : m2 < S.size := by have := digAt_lt hdg; rw [ba_len] at this; exact this
                  obtain ⟨z, hz⟩ : ∃ z, (S[m2]'hms).toNat = z := ⟨_, rfl⟩
                  have hzi : (((S[m2]'hms).toNat : Nat) : Int) = (z : Int) := by rw [hz]
                  have hl : m2 < S.data.toList.length := by rw [ba_len]; exact hms
                  have hb := ba_byte S rfl m2 hms
                  rw [List.getElem?_eq_getElem hl] at hb
                  have hbe := Option.some.inj hb
                  have hzD : 48 ≤ z ∧ z ≤ 57 := by
                    have h0 := hdg
                    rw [digAt_at hl, hbe] at h0
                    have := isD_iff.1 h0
                    rw [hz] at this
                    exact this
                  obtain ⟨zd1, zd2⟩ := hzD
                  obtain ⟨a3, ha3⟩ : ∃ a3 : Nat, min (10 * (a2 : Int) + ((z : Int) - 48)) 100000 = (a3 : Int) := ⟨(min (10 * (a2 : Int) + ((z : Int) - 48)) 100000).toNat, by omega⟩
                  have HA3 := Lib.hid (show a3 = min (pv ((S.data.toList.drop m22).take (j + 1))) 100000 by
                    have hl2 : m22 + j < S.data.toList.length := by rw [← hm2]; exact hl
                    have e : S.data.toList[m22 + j] = S[m2]'hms := by
                      have hb2 := hb
                      subst hm2
                      exact hbe
                    rw [run_snoc hl2, e, pv_snoc, hz, ← cnt_step (a := a2) (by omega) ha2]
                    omega)
                  have CD4 := Lib.hid (CD3.out m2 (by omega))
                  have HM2 := Lib.hid hm2
                  have HA2 := Lib.hid ha2
                  clear hz hl hb hbe ha2
                  rw [hdg] at CD4
                  clear hdg hm2
                  go_wp2_with fail
                  refine (CD4.out _).mono ?_
                  rintro e w' ⟨rfl, rfl⟩
                  go_wp2_with fail
                  go_round
                  case rel => exact ⟨j + 1, a3, m2 + 1, by omega, by rw [HM2.out]; omega, by go_num, rfl, HA3.out⟩
                  case measure => simp [RowKit.intOf]; have := HM2.out; omega
                · obtain rfl : c = j := by omega
                  have hdg : digAt S.data.toList m2 = false := by rw [hm2]; exact HRUN.out.2
                  have CD4 := Lib.hid (CD3.out m2 (by have := digAt_lt (l := S.data.toList) (i := m22) (by have := HRUN.out.1 0 hc0; rwa [Nat.add_zero] at this); rw [ba_len] at this; omega))
                  rw [hdg] at CD4
                  have HA2 := Lib.hid ha2
                  have HM2 := Lib.hid hm2
                  have HD9 := HDIG.out
                  clear ha2 hdg hm2 HD9
                  go_wp2_with fail
                  refine (CD4.out _).mono ?_
                  rintro e w' ⟨rfl, rfl⟩
                  go_wp2_with fail
                  refine (CV.out ((a2 : Int)) (by omega) (by omega)).mono ?_
                  rintro e w3 ⟨r, rfl, hr, hB3⟩
                  have hB4 := HB.out.trans (hB3.mono HB.out.size)
                  go_wp2_with fail
                  go_ret2
                  refine ⟨r, ?_, ?_, hB4⟩
                  · rw [he.out, ← HM2.out]
                    rfl
                  · have e := HA2.out
                    rw [hx.out, if_neg (by decide), ← e]
                    exact (by rw [Int.zero_add]; exact hr)
            | minus _ e hk h2 =>
              subst e
              obtain ⟨y2, hy2⟩ : ∃ y, (S[m1]'hk).toNat = y := ⟨_, rfl⟩
              have hyi2 : (((S[m1]'hk).toNat : Nat) : Int) = (y2 : Int) := by rw [hy2]
              rw [hy2] at h2
              have hkl : (m1 : Int) < (S.size : Int) := by omega
              have v1 : ((y2 : Int) == 43) = false := by rw [beq_eq_false_iff_ne]; omega
              have v2 : ((y2 : Int) == 45) = true := by rw [beq_iff_eq]; omega
              obtain ⟨m22, hm22⟩ : ∃ q, m1 + 1 = q := ⟨_, rfl⟩
              have hk1 : (m1 : Int) + 1 = (m22 : Int) := by omega
              rw [hm22] at hc hx he
              have hm2b : m22 ≤ S.size + 2 := by omega
              clear h2 hy2 hm1 hm22
              obtain ⟨D9, hD9⟩ : ∃ D9, (S.data.toList.drop (m22)).take c = D9 := ⟨_, rfl⟩
              have hrun := dig_run S.data.toList (m22)
              rw [hc] at hrun
              have hkb : m22 ≤ S.size + 2 := by omega
              have HRUN := Lib.hid hrun
              have HDIG := Lib.hid hD9
              have CD3 := Lib.hid (fun (i : Nat) (hi : i ≤ 4611686018427387904) W => isDigit_any S i W (by omega) hi)
              have hcs : c ≤ S.size := by rw [← hc]; have := nDig_le (S.data.toList.drop (m22)); rw [List.length_drop, ba_len] at this; omega
              clear hrun hc hD9
              go_wp2_with fail
              refine (CD3.out m22 (by omega) _).mono ?_
              rintro e w' ⟨rfl, rfl⟩
              rw [show digAt S.data.toList m22 = true by have := HRUN.out.1 0 hc0; rwa [Nat.add_zero] at this]
              go_wp2_with fail
              go_loop [10, 12] (fun kv nv => ∃ j a2 m2 : Nat, j ≤ c ∧ m2 = m22 + j ∧ kv = .int .i64 (m2 : Int) ∧ nv = .int .i64 (a2 : Int) ∧ a2 = min (pv ((S.data.toList.drop m22).take j)) 100000) (fun kv _ => m22 + c - (RowKit.intOf kv).toNat)
              case atStart => exact ⟨0, 0, m22, by omega, by omega, rfl, rfl, by rw [List.take_zero, pv_nil, Nat.zero_min]⟩
              case round =>
                obtain ⟨j, a2, m2, hj, hm2, rfl, rfl, ha2⟩ := hrel
                have ha2b : a2 ≤ 100000 := by omega
                by_cases hlt : j < c
                · have hdg : digAt S.data.toList m2 = true := by rw [hm2]; exact HRUN.out.1 j hlt
                  have hms : m2 < S.size := by have := digAt_lt hdg; rw [ba_len] at this; exact this
                  obtain ⟨z, hz⟩ : ∃ z, (S[m2]'hms).toNat = z := ⟨_, rfl⟩
                  have hzi : (((S[m2]'hms).toNat : Nat) : Int) = (z : Int) := by rw [hz]
                  have hl : m2 < S.data.toList.length := by rw [ba_len]; exact hms
                  have hb := ba_byte S rfl m2 hms
                  rw [List.getElem?_eq_getElem hl] at hb
                  have hbe := Option.some.inj hb
                  have hzD : 48 ≤ z ∧ z ≤ 57 := by
                    have h0 := hdg
                    rw [digAt_at hl, hbe] at h0
                    have := isD_iff.1 h0
                    rw [hz] at this
                    exact this
                  obtain ⟨zd1, zd2⟩ := hzD
                  obtain ⟨a3, ha3⟩ : ∃ a3 : Nat, min (10 * (a2 : Int) + ((z : Int) - 48)) 100000 = (a3 : Int) := ⟨(min (10 * (a2 : Int) + ((z : Int) - 48)) 100000).toNat, by omega⟩
                  have HA3 := Lib.hid (show a3 = min (pv ((S.data.toList.drop m22).take (j + 1))) 100000 by
                    have hl2 : m22 + j < S.data.toList.length := by rw [← hm2]; exact hl
                    have e : S.data.toList[m22 + j] = S[m2]'hms := by
                      have hb2 := hb
                      subst hm2
                      exact hbe
                    rw [run_snoc hl2, e, pv_snoc, hz, ← cnt_step (a := a2) (by omega) ha2]
                    omega)
                  have CD4 := Lib.hid (CD3.out m2 (by omega))
                  have HM2 := Lib.hid hm2
                  have HA2 := Lib.hid ha2
                  clear hz hl hb hbe ha2
                  rw [hdg] at CD4
                  clear hdg hm2
                  go_wp2_with fail
                  refine (CD4.out _).mono ?_
                  rintro e w' ⟨rfl, rfl⟩
                  go_wp2_with fail
                  go_round
                  case rel => exact ⟨j + 1, a3, m2 + 1, by omega, by rw [HM2.out]; omega, by go_num, rfl, HA3.out⟩
                  case measure => simp [RowKit.intOf]; have := HM2.out; omega
                · obtain rfl : c = j := by omega
                  have hdg : digAt S.data.toList m2 = false := by rw [hm2]; exact HRUN.out.2
                  have CD4 := Lib.hid (CD3.out m2 (by have := digAt_lt (l := S.data.toList) (i := m22) (by have := HRUN.out.1 0 hc0; rwa [Nat.add_zero] at this); rw [ba_len] at this; omega))
                  rw [hdg] at CD4
                  have HA2 := Lib.hid ha2
                  have HM2 := Lib.hid hm2
                  have HD9 := HDIG.out
                  clear ha2 hdg hm2 HD9
                  go_wp2_with fail
                  refine (CD4.out _).mono ?_
                  rintro e w' ⟨rfl, rfl⟩
                  go_wp2_with fail
                  refine (CV.out (-(a2 : Int)) (by omega) (by omega)).mono ?_
                  rintro e w3 ⟨r, rfl, hr, hB3⟩
                  have hB4 := HB.out.trans (hB3.mono HB.out.size)
                  go_wp2_with fail
                  go_ret2
                  refine ⟨r, ?_, ?_, hB4⟩
                  · rw [he.out, ← HM2.out]
                    rfl
                  · have e := HA2.out
                    rw [hx.out, if_pos trivial, ← e]
                    exact (by rw [Int.zero_add]; exact hr)
end Go.Proofs.YtmceakbjholjpaaGreatDoor
