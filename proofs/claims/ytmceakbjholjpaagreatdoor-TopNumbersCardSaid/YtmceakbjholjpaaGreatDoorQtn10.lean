/- Several texts in one (Contracts of layer 6: values made, and what they count as; Contracts of layer 6: a value that came in; what a value counts as; values compared; Contracts of layer 6: values as strings; values compared; Contracts of layer 6: truth; may a value be; Plain: values in order. No walk here; Contracts of layer 1: the bytes of a code, in the program and in the definition; Plain arithmetic of layer 1: the character at a place of a string; Plain arithmetic of layer 1: the places at which the characters of a string begin; Contracts of layer 1: Len, recase, Lower, Upper; Contracts of layer 5: Text; the example of layer 5's laws; Plain: a number's text by seventeen digits is read back as that number. No walk here; The walk of the law FormatBack; The walk of the law TopNumbers; The law TopNumbers, of any number; A struct of eight one-cell fields by value, read and written (for api.Spec). No walk here). -/
import Derived.Test.YtmceakbjholjpaaGreatDoorRows
import Derived.WalkKit
import Derived.WalkSpells
import Derived.WalkLawsBesides
import Derived.Lib.Hide
import Derived.Test.YtmceakbjholjpaaGreatDoorShelf
import Derived.Lib.DecodeN
import Derived.Shelf.Unicode.DecodeSlow
import Derived.Lib.RuneCount
import Derived.Lib.LazyBuf
import Derived.RangeFuncNested
import Derived.RangeFuncBound
import Derived.RangeFuncCalls
import Derived.RangeFuncLeaves
import Derived.Shelf.Abstract
import Derived.Shelf.RegionOpen
import Derived.OwnWalkIn
import Derived.TacticsInMore
import Derived.LoopNIn
import Derived.LoopIn
import Derived.Lib.RuneCountTail
import Derived.WalkSmall
import Derived.BigQuiet
import Derived.Deep.QuietTactic
import Derived.Deep.Upon
import Derived.Lib.SmallJoins
import Derived.Test.YtmceakbjholjpaaGreatDoorQtn6
import Derived.Test.YtmceakbjholjpaaGreatDoorQtn7
import Derived.Test.YtmceakbjholjpaaGreatDoorQtn9
namespace Go.Proofs.YtmceakbjholjpaaGreatDoor
open Go.RowKit Go.Lib

set_option maxRecDepth 100000 in
theorem clone_str (s : ByteArray) (w : World) (hs : s.size ≤ 4194304) : Calls Tryz.prog 48 #[.string s] w fun e w' => e = .returned (.string s) ∧ Below w.heap.size w w' := by
  have C := Lib.hid (Tryz.stringslite_Clone s w (by omega))
  go_enter Tryz.func48, Tryz.ntmps48
  go_wp2_with fail
  refine C.out.mono ?_
  rintro e w' ⟨rfl, hB⟩
  go_wp2_with fail
  go_ret
  exact ⟨rfl, hB⟩
theorem end3 {w W : World} {B : Nat} {t : TypeId} {a0 a1 a2 : Value} (v0 v1 v2 : Value) (F : Five W B #[a0, a1, a2] t) (h : Below w.heap.size w W) (hB : w.heap.size ≤ B) :
    Five (((W.setCell ⟨B, 0, none⟩ v0).setCell ⟨B, 1, none⟩ v1).setCell ⟨B, 2, none⟩ v2) B #[v0, v1, v2] t ∧ Below w.heap.size w (((W.setCell ⟨B, 0, none⟩ v0).setCell ⟨B, 1, none⟩ v1).setCell ⟨B, 2, none⟩ v2) :=
  ⟨((F.set (j := 0) (u := v0)).set (j := 1) (u := v1)).set (j := 2) (u := v2), ((h.setCell (p := ⟨B, 0, none⟩) hB _).setCell (p := ⟨B, 1, none⟩) hB _).setCell (p := ⟨B, 2, none⟩) hB _⟩
theorem run_store_float (a : Addr) (n : Nat) (m : Mode) (w : World) : (store a (.float .f64 n) m).run Tryz.prog w = stored Tryz.prog w a (.float .f64 n) m := run_store _ w a _ m rfl
set_option maxRecDepth 100000 in
theorem cOf_any (x : Nat) (w : World) : Calls Tryz.prog 38 #[.float .f64 x] w fun e w' => e = .returned (.agg #[.int .i64 1, .float .f64 x, .string ⟨#[]⟩]) ∧ Below w.heap.size w w' := by
  have F := Lib.hid (Five.new w #[.int .i64 0, .float .f64 0, .string ⟨#[]⟩] 52)
  have HB := Lib.hid ((Below.refl w.heap.size w).alloc (Nat.le_refl _) (.cells #[.int .i64 0, .float .f64 0, .string ⟨#[]⟩] 52))
  obtain ⟨q0, q1, q2, r0, r1, r2⟩ := F.out.three
  have hst := run_store_float
  go_enter Tryz.func38, Tryz.ntmps38
  go_wp2_with fail
  exact bodyPost_ret (v := .agg #[.int .i64 1, .float .f64 x, .string ⟨#[]⟩]) (by simp [results, Tryz.results38, go_sem]) rfl ⟨rfl, (Below.refl w.heap.size w).alloc (Nat.le_refl _) _⟩
set_option maxRecDepth 100000 in
theorem cText_any (s : ByteArray) (w : World) (hs : s.size ≤ 4194304) : Calls Tryz.prog 27 #[.string s] w fun e w' => e = .returned (.agg #[.int .i64 2, .float .f64 0, .string s]) ∧ Below w.heap.size w w' := by
  have F := Five.new w #[.int .i64 0, .float .f64 0, .string ⟨#[]⟩] 52
  have hb := (Below.refl w.heap.size w).alloc (Nat.le_refl _) (.cells #[.int .i64 0, .float .f64 0, .string ⟨#[]⟩] 52)
  have C := Lib.hid (fun W => clone_str s W hs)
  obtain ⟨W1, hW1⟩ : ∃ W1, w.alloc (.cells #[.int .i64 0, .float .f64 0, .string ⟨#[]⟩] 52) = W1 := ⟨_, rfl⟩
  rw [hW1] at F hb
  have HW1 := Lib.hid hW1
  have F := Lib.hid F
  have HB := Lib.hid hb
  clear hW1 hb
  go_enter Tryz.func27, Tryz.ntmps27
  go_wp2_with fail
  change Calls _ _ _ (w.alloc (.cells #[.int .i64 0, .float .f64 0, .string ⟨#[]⟩] 52)) _
  rw [HW1.out]
  refine (C.out _).mono ?_
  rintro e W2 ⟨rfl, h2⟩
  have F2 := Lib.hid (F.out.below h2)
  have HB2 := Lib.hid (HB.out.trans (h2.mono HB.out.size))
  clear h2
  obtain ⟨q0, q1, q2, r0, r1, r2⟩ := F2.out.three
  have hst := run_store_float
  go_wp2_with fail
  clear q0 q1 q2 r0 r1 r2
  obtain ⟨z, hz⟩ := end3 (.int .i64 2) (.float .f64 0) (.string s) F2.out HB2.out (Nat.le_refl _)
  obtain ⟨q0, q1, q2, -⟩ := z.three
  exact bodyPost_ret (v := .agg #[.int .i64 2, .float .f64 0, .string s]) (by simp [results, Tryz.results27, go_sem, q0, q1, q2]) rfl ⟨rfl, hz⟩
/-- The float nearest to a fraction. -/
noncomputable def nearR (X D : Nat) : Nat := @dite _ (∃ r, Near X D r) (Classical.propDecidable _) (fun h => Classical.choose h) (fun _ => 0)
theorem nearR_of {X D r : Nat} (hD : 0 < D) (h : Near X D r) : nearR X D = r := by
  unfold nearR
  have he : ∃ r, Near X D r := ⟨r, h⟩
  rw [dif_pos he]
  exact (Classical.choose_spec he).uniq hD hD rfl h
/-- The number that a text begins with. -/
noncomputable def preN (l : List UInt8) : Nat := turned (sigL l).1 (nearR (2 * (pv ((sigL l).2.1 ++ (sigL l).2.2.1) * 10 ^ ((sigL l).2.2.2.1 - ((sigL l).2.2.1.length : Int)).toNat) * S1074) (10 ^ (-((sigL l).2.2.2.1 - ((sigL l).2.2.1.length : Int))).toNat))
theorem prefix_val (s : ByteArray) (w : World) (hs : s.size ≤ 4194304) : Calls Tryz.prog 20 #[.string s] w fun e w' => e = .returned (.tuple #[.float .f64 (preN s.data.toList), .int .i64 (sigL s.data.toList).2.2.2.2]) ∧ Below w.heap.size w w' := by
  obtain ⟨b, X1, X2, xe, z, hX⟩ : ∃ b X1 X2 xe z, sigL s.data.toList = (b, X1, X2, xe, z) := ⟨_, _, _, _, _, rfl⟩
  refine (prefix_any s w hs b X1 X2 xe z hX).mono ?_
  rintro e w' ⟨r, rfl, hN, hB⟩
  refine ⟨?_, hB⟩
  unfold preN
  rw [hX]
  simp only
  rw [nearR_of (Nat.pow_pos (by omega)) hN.out]
end Go.Proofs.YtmceakbjholjpaaGreatDoor

namespace Go.Proofs.YtmceakbjholjpaaGreatDoor
open Go.RowKit Go.Lib

set_option maxRecDepth 100000 in
set_option maxHeartbeats 4000000 in
theorem cInput_any (s : ByteArray) (v : Bool) (x : Nat) (w : World) (hs : s.size ≤ 4194304) (hv : looksL s.data.toList = v) (hx : preN s.data.toList = x) : Calls Tryz.prog 26 #[.string s] w fun e w' => e = .returned (.agg #[.int .i64 (if v = true then 3 else 2), .float .f64 (if v = true then x else 0), .string s]) ∧ Below w.heap.size w w' := by
  have hst := run_store_float
  have F := Five.new w #[.int .i64 0, .float .f64 0, .string ⟨#[]⟩] 52
  have hb := (Below.refl w.heap.size w).alloc (Nat.le_refl _) (.cells #[.int .i64 0, .float .f64 0, .string ⟨#[]⟩] 52)
  have C := Lib.hid (fun W => cText_any s W hs)
  have cL := fun W => looks_any s W hs
  rw [hv] at cL
  have CL := Lib.hid cL
  have cP := fun W => prefix_val s W hs
  rw [hx] at cP
  obtain ⟨zz, hzz⟩ : ∃ zz, (sigL s.data.toList).2.2.2.2 = zz := ⟨_, rfl⟩
  rw [hzz] at cP
  have CP := Lib.hid cP
  obtain ⟨W1, hW1⟩ : ∃ W1, w.alloc (.cells #[.int .i64 0, .float .f64 0, .string ⟨#[]⟩] 52) = W1 := ⟨_, rfl⟩
  rw [hW1] at F hb
  have HW1 := Lib.hid hW1
  have F := Lib.hid F
  have HB := Lib.hid hb
  clear hW1 hb cL cP hv hx hzz
  go_enter Tryz.func26, Tryz.ntmps26
  go_wp2_with fail
  change Calls _ _ _ (w.alloc (.cells #[.int .i64 0, .float .f64 0, .string ⟨#[]⟩] 52)) _
  rw [HW1.out]
  refine (C.out _).mono ?_
  rintro e W2 ⟨rfl, h2⟩
  have F2 := Lib.hid ((F.out.below h2).alloc (.cells #[.int .i64 2, .float .f64 0, .string s] 52))
  have b2 := (HB.out.trans (h2.mono HB.out.size))
  have HB2 := Lib.hid (b2.alloc b2.size (.cells #[.int .i64 2, .float .f64 0, .string s] 52))
  have FC := Lib.hid (Five.new W2 #[.int .i64 2, .float .f64 0, .string s] 52)
  have hlt : w.heap.size < W2.heap.size := (F.out.below h2).lt
  obtain ⟨g, hg⟩ : ∃ g, W2.heap.size = g := ⟨_, rfl⟩
  obtain ⟨W3, hW3⟩ : ∃ W3, W2.alloc (.cells #[.int .i64 2, .float .f64 0, .string s] 52) = W3 := ⟨_, rfl⟩
  rw [hW3] at F2 HB2 FC
  rw [hg] at FC hlt
  have HW3 := Lib.hid hW3
  have HG := Lib.hid hg
  clear h2 b2 hW3 hg F HB
  have hlt3 : W3.heap.size = W3.heap.size := rfl
  clear hlt3
  have n1 : ¬ w.heap.size = g := by omega
  have n2 : ¬ g = w.heap.size := by omega
  have HLT := Lib.hid hlt
  clear hlt
  go_wp2_with fail
  change Calls _ _ _ (W2.alloc (.cells #[.int .i64 2, .float .f64 0, .string s] 52)) _
  rw [HW3.out, HG.out]
  refine (CL.out _).mono ?_
  rintro e W4 ⟨rfl, h4⟩
  have F4 := Lib.hid (F2.out.below h4)
  have FC4 := Lib.hid (FC.out.below h4)
  have HB4 := Lib.hid (HB2.out.trans (h4.mono HB2.out.size))
  clear h4 F2 FC HB2
  cases v with
  | false =>
    obtain ⟨q0, q1, q2, r0, r1, r2⟩ := F4.out.three
    obtain ⟨s0, s1, s2, -⟩ := FC4.out.three
    go_wp2_with fail
    clear q0 q1 q2 r0 r1 r2 s0 s1 s2
    obtain ⟨z, hz⟩ := end3 (.int .i64 2) (.float .f64 0) (.string s) F4.out HB4.out (Nat.le_refl _)
    obtain ⟨q0, q1, q2, -⟩ := z.three
    exact bodyPost_ret (v := .agg #[.int .i64 2, .float .f64 0, .string s]) (by simp [results, Tryz.results26, go_sem, q0, q1, q2]) rfl ⟨rfl, hz⟩
  | true =>
    have s0 := FC4.out.cell 0
    have t0 := FC4.out.fro 0
    go_wp2_with fail
    clear s0 t0
    have FC5 := Lib.hid (show Five (W4.setCell ⟨g, 0, none⟩ (.int .i64 3)) g #[.int .i64 3, .float .f64 0, .string s] 52 from FC4.out.set (j := 0) (u := .int .i64 3))
    have F5 := Lib.hid (F4.out.other (j := 0) (u := .int .i64 3) n1)
    have HB5 := Lib.hid (HB4.out.setCell (p := ⟨g, 0, none⟩) (Nat.le_of_lt HLT.out) (.int .i64 3))
    obtain ⟨W5, hW5⟩ : ∃ W5, W4.setCell ⟨g, 0, none⟩ (.int .i64 3) = W5 := ⟨_, rfl⟩
    rw [hW5] at FC5 F5 HB5 ⊢
    clear hW5 FC4 F4 HB4
    refine (CP.out _).mono ?_
    rintro e W6 ⟨rfl, h6⟩
    have F6 := Lib.hid (F5.out.below h6)
    have FC6 := Lib.hid (FC5.out.below h6)
    have HB6 := Lib.hid (HB5.out.trans (h6.mono HB5.out.size))
    clear h6 F5 FC5 HB5
    obtain ⟨q0, q1, q2, r0, r1, r2⟩ := F6.out.three
    obtain ⟨s0, s1, s2, t0, t1, t2⟩ := FC6.out.three
    go_wp2_with fail
    clear q0 q1 q2 r0 r1 r2 s0 s1 s2 t0 t1 t2
    have F7 := F6.out.other (j := 1) (u := .float .f64 x) n1
    have HB7 := HB6.out.setCell (p := ⟨g, 1, none⟩) (Nat.le_of_lt HLT.out) (.float .f64 x)
    obtain ⟨z, hz⟩ := end3 (.int .i64 3) (.float .f64 x) (.string s) F7 HB7 (Nat.le_refl _)
    obtain ⟨q0, q1, q2, -⟩ := z.three
    exact bodyPost_ret (v := .agg #[.int .i64 3, .float .f64 x, .string s]) (by simp [results, Tryz.results26, go_sem, q0, q1, q2]) rfl ⟨rfl, hz⟩
/-- A value as a number. -/
noncomputable def numV2 (k : Int) (n : Nat) (s : ByteArray) : Nat := if k = 1 ∨ k = 3 then n else if k = 2 then preN s.data.toList else 0
set_option maxRecDepth 100000 in
set_option maxHeartbeats 4000000 in
theorem cNumber_any (k : Int) (n : Nat) (s : ByteArray) (w : World) (hs : s.size ≤ 4194304) : Calls Tryz.prog 31 #[.agg #[.int .i64 k, .float .f64 n, .string s]] w fun e w' => e = .returned (.float .f64 (numV2 k n s)) ∧ Below w.heap.size w w' := by
  have cP := fun W => prefix_val s W hs
  have F := Five.new w #[.int .i64 k, .float .f64 n, .string s] 52
  have hb := (Below.refl w.heap.size w).alloc (Nat.le_refl _) (.cells #[.int .i64 k, .float .f64 n, .string s] 52)
  unfold numV2
  obtain ⟨x, hx⟩ : ∃ x, preN s.data.toList = x := ⟨_, rfl⟩
  obtain ⟨zz, hzz⟩ : ∃ zz, (sigL s.data.toList).2.2.2.2 = zz := ⟨_, rfl⟩
  rw [hx, hzz] at cP
  rw [hx]
  obtain ⟨y, hy⟩ : ∃ y, (if k = 1 ∨ k = 3 then n else if k = 2 then x else 0) = y := ⟨_, rfl⟩
  rw [hy]
  have HY := Lib.hid hy
  have CP := Lib.hid cP
  have HB := Lib.hid hb
  clear cP hx hzz hy hb F
  have hcase : k = 1 ∨ k = 3 ∨ k = 2 ∨ (k ≠ 1 ∧ k ≠ 3 ∧ k ≠ 2) := by omega
  rcases hcase with rfl | rfl | rfl | ⟨h1, h2, h3⟩
  · go_enter Tryz.func31, Tryz.ntmps31
    go_wp2_with fail
    go_ret
    exact ⟨by rw [← HY.out]; rfl, HB.out⟩
  · go_enter Tryz.func31, Tryz.ntmps31
    go_wp2_with fail
    go_ret
    exact ⟨by rw [← HY.out]; rfl, HB.out⟩
  · go_enter Tryz.func31, Tryz.ntmps31
    go_wp2_with fail
    refine (CP.out _).mono ?_
    rintro e W2 ⟨rfl, h2⟩
    have hBf := HB.out.trans (h2.mono HB.out.size)
    clear h2
    go_wp2_with fail
    go_ret
    exact ⟨by rw [← HY.out]; rfl, hBf⟩
  · have v1 : (k == 1) = false := by rw [beq_eq_false_iff_ne]; exact h1
    have v2 : (k == 3) = false := by rw [beq_eq_false_iff_ne]; exact h2
    have v3 : (k == 2) = false := by rw [beq_eq_false_iff_ne]; exact h3
    have hy0 : y = 0 := by rw [← HY.out, if_neg (by omega), if_neg h3]
    clear h1 h2 h3
    go_enter Tryz.func31, Tryz.ntmps31
    go_wp2_with fail
    go_ret
    exact ⟨by first | rfl | (rw [hy0]; rfl), HB.out⟩
end Go.Proofs.YtmceakbjholjpaaGreatDoor

namespace Go.Proofs.YtmceakbjholjpaaGreatDoor
open Go.RowKit Go.Lib

set_option maxRecDepth 100000 in
set_option maxHeartbeats 4000000 in
theorem written_str (k : Int) (n : Nat) (s P : ByteArray) (w : World) (h : k = 2 ∨ k = 3) : Calls Tryz.prog 64 #[.agg #[.int .i64 k, .float .f64 n, .string s], .string P] w fun e w' => e = .returned (.string s) ∧ Below w.heap.size w w' := by
  have hb := (Below.refl w.heap.size w).alloc (Nat.le_refl _) (.cells #[.int .i64 k, .float .f64 n, .string s] 52)
  have HB := Lib.hid hb
  clear hb
  rcases h with rfl | rfl
  all_goals
    go_enter Tryz.func64, Tryz.ntmps64
    go_wp2_with fail
    go_ret
    exact ⟨rfl, HB.out⟩
set_option maxRecDepth 100000 in
set_option maxHeartbeats 4000000 in
theorem written_none (k : Int) (n : Nat) (s P : ByteArray) (w : World) (h1 : k ≠ 1) (h2 : k ≠ 2) (h3 : k ≠ 3) : Calls Tryz.prog 64 #[.agg #[.int .i64 k, .float .f64 n, .string s], .string P] w fun e w' => e = .returned (.string ⟨#[]⟩) ∧ Below w.heap.size w w' := by
  have hb := (Below.refl w.heap.size w).alloc (Nat.le_refl _) (.cells #[.int .i64 k, .float .f64 n, .string s] 52)
  have HB := Lib.hid hb
  have v1 : (k == 1) = false := by rw [beq_eq_false_iff_ne]; exact h1
  have v2 : (k == 3) = false := by rw [beq_eq_false_iff_ne]; exact h3
  have v3 : (k == 2) = false := by rw [beq_eq_false_iff_ne]; exact h2
  clear hb h1 h2 h3
  go_enter Tryz.func64, Tryz.ntmps64
  go_wp2_with fail
  go_ret
  exact ⟨rfl, HB.out⟩
set_option maxRecDepth 100000 in
set_option maxHeartbeats 4000000 in
theorem written_num (n : Nat) (s P T : ByteArray) (w : World) (hC : ∀ W, PowTab W → Calls Tryz.prog 40 #[.float .f64 n, .string P] W fun e w' => e = .returned (.string T) ∧ Below W.heap.size W w') (hT : PowTab w) : Calls Tryz.prog 64 #[.agg #[.int .i64 1, .float .f64 n, .string s], .string P] w fun e w' => e = .returned (.string T) ∧ Below w.heap.size w w' := by
  have hb := (Below.refl w.heap.size w).alloc (Nat.le_refl _) (.cells #[.int .i64 1, .float .f64 n, .string s] 52)
  have C := Lib.hid (hC _ (Lib.tabBelow_of_tabIs hT _ hb))
  have HB := Lib.hid hb
  clear hb hC hT
  go_enter Tryz.func64, Tryz.ntmps64
  go_wp2_with fail
  refine C.out.mono ?_
  rintro e W2 ⟨rfl, h2⟩
  have hBf := HB.out.trans (h2.mono HB.out.size)
  clear h2
  go_wp2_with fail
  go_ret
  exact ⟨rfl, hBf⟩
/-- A value as a string, by a pattern that makes T of its number. -/
def wrT (k : Int) (s T : ByteArray) : ByteArray := if k = 1 then T else if k = 2 ∨ k = 3 then s else ⟨#[]⟩
theorem written_any (k : Int) (n : Nat) (s P T : ByteArray) (w : World) (hC : k = 1 → ∀ W, PowTab W → Calls Tryz.prog 40 #[.float .f64 n, .string P] W fun e w' => e = .returned (.string T) ∧ Below W.heap.size W w') (hT : PowTab w) : Calls Tryz.prog 64 #[.agg #[.int .i64 k, .float .f64 n, .string s], .string P] w fun e w' => e = .returned (.string (wrT k s T)) ∧ Below w.heap.size w w' := by
  unfold wrT
  by_cases h1 : k = 1
  · subst h1
    rw [if_pos rfl]
    exact written_num n s P T w (hC rfl) hT
  · rw [if_neg h1]
    by_cases h2 : k = 2 ∨ k = 3
    · rw [if_pos h2]
      exact written_str k n s P w h2
    · rw [if_neg h2]
      exact written_none k n s P w h1 (by omega) (by omega)
set_option maxRecDepth 100000 in
set_option maxHeartbeats 4000000 in
theorem cString_any (k : Int) (n : Nat) (s P T : ByteArray) (w : World) (hC : k = 1 → ∀ W, PowTab W → Calls Tryz.prog 40 #[.float .f64 n, .string P] W fun e w' => e = .returned (.string T) ∧ Below W.heap.size W w') (hT : PowTab w) (hs : (wrT k s T).size ≤ 4194304) : Calls Tryz.prog 29 #[.agg #[.int .i64 k, .float .f64 n, .string s], .string P] w fun e w' => e = .returned (.string (wrT k s T)) ∧ Below w.heap.size w w' := by
  have C := Lib.hid (fun (W : World) (hW : PowTab W) => written_any k n s P T W hC hW)
  have CC := Lib.hid (fun W => clone_str (wrT k s T) W hs)
  have HT := Lib.hid (Lib.tabBelow_of_tabIs hT)
  obtain ⟨X, hX⟩ : ∃ X, wrT k s T = X := ⟨_, rfl⟩
  have C := C.out
  have CC := CC.out
  rw [hX] at C CC ⊢
  have C := Lib.hid C
  have CC := Lib.hid CC
  clear hX hC hT hs
  have HB := Lib.hid ((Below.refl w.heap.size w).alloc (Nat.le_refl _) (.cells #[.int .i64 k, .float .f64 n, .string s] 52))
  go_enter Tryz.func29, Tryz.ntmps29
  go_wp2_with fail
  refine (C.out _ (HT.out _ HB.out)).mono ?_
  rintro e W2 ⟨rfl, h2⟩
  have hB2 := HB.out.trans (h2.mono HB.out.size)
  clear h2
  go_wp2_with fail
  refine (CC.out _).mono ?_
  rintro e W3 ⟨rfl, h3⟩
  have hB3 := hB2.trans (h3.mono hB2.size)
  clear h3 hB2
  go_wp2_with fail
  go_ret
  exact ⟨rfl, hB3⟩
/-- Numbers in order, NaN behind all others. -/
def rkB (x : Nat) : Int := if nanB x = true then 1 else 0
def ltB (x y : Nat) : Bool := FloatKind.f64.format.order x y == some .lt
def gtB (x y : Nat) : Bool := FloatKind.f64.format.order x y == some .gt
def cmpN (x y : Nat) : Int := if ltB x y = true then -1 else if gtB x y = true then 1 else rkB x - rkB y
set_option maxRecDepth 100000 in
theorem rank_any (x : Nat) (w : World) : Calls Tryz.prog 102 #[.float .f64 x] w fun e w' => e = .returned (.int .i64 (rkB x)) ∧ w = w' := by
  have cN := fun W => isNaN_any x W
  unfold rkB
  generalize nanB x = v at *
  have CN := Lib.hid cN
  clear cN
  cases v with
  | true =>
    go_enter Tryz.func102, Tryz.ntmps102
    go_wp2_with fail
    refine (CN.out _).mono ?_
    rintro e w' ⟨rfl, rfl⟩
    go_wp2_with fail
    go_ret
    exact ⟨rfl, rfl⟩
  | false =>
    go_enter Tryz.func102, Tryz.ntmps102
    go_wp2_with fail
    refine (CN.out _).mono ?_
    rintro e w' ⟨rfl, rfl⟩
    go_wp2_with fail
    go_ret
    exact ⟨rfl, rfl⟩
set_option maxRecDepth 100000 in
set_option maxHeartbeats 4000000 in
theorem cmpNum_any (x y : Nat) (w : World) : Calls Tryz.prog 62 #[.float .f64 x, .float .f64 y] w fun e w' => e = .returned (.int .i64 (cmpN x y)) ∧ w = w' := by
  have C1 := Lib.hid (fun W => rank_any x W)
  have C2 := Lib.hid (fun W => rank_any y W)
  have hr1 : 0 ≤ rkB x ∧ rkB x ≤ 1 := by unfold rkB; split <;> omega
  have hr2 : 0 ≤ rkB y ∧ rkB y ≤ 1 := by unfold rkB; split <;> omega
  obtain ⟨a, ha⟩ : ∃ a, rkB x = a := ⟨_, rfl⟩
  obtain ⟨b, hb⟩ : ∃ b, rkB y = b := ⟨_, rfl⟩
  have C1 := C1.out
  have C2 := C2.out
  rw [ha] at C1 hr1
  rw [hb] at C2 hr2
  have C1 := Lib.hid C1
  have C2 := Lib.hid C2
  obtain ⟨c, hc⟩ : ∃ c, cmpN x y = c := ⟨_, rfl⟩
  rw [hc]
  unfold cmpN at hc
  rw [ha, hb] at hc
  obtain ⟨v, hv⟩ : ∃ v, ltB x y = v := ⟨_, rfl⟩
  obtain ⟨u, hu⟩ : ∃ u, gtB x y = u := ⟨_, rfl⟩
  rw [hv, hu] at hc
  have hv2 : (FloatKind.f64.format.order x y == some .lt) = v := hv
  have hu2 : (FloatKind.f64.format.order x y == some .gt) = u := hu
  have HC := Lib.hid hc
  obtain ⟨hr1a, hr1b⟩ := hr1
  obtain ⟨hr2a, hr2b⟩ := hr2
  have hwr : IntKind.i64.wrap (a - b) = a - b := by rw [IntKind.wrap_i64]; omega
  have hwr2 : wrap64 (a - b) = a - b := by unfold wrap64; omega
  clear ha hb hc hv hu
  cases v with
  | true =>
    go_enter Tryz.func62, Tryz.ntmps62
    go_wp2_with fail
    go_ret
    exact ⟨by rw [← HC.out]; rfl, rfl⟩
  | false =>
    cases u with
    | true =>
      go_enter Tryz.func62, Tryz.ntmps62
      go_wp2_with fail
      go_ret
      exact ⟨by rw [← HC.out]; rfl, rfl⟩
    | false =>
      go_enter Tryz.func62, Tryz.ntmps62
      go_wp2_with fail
      refine (C1.out _).mono ?_
      rintro e w' ⟨rfl, rfl⟩
      go_wp2_with fail
      refine (C2.out _).mono ?_
      rintro e w' ⟨rfl, rfl⟩
      go_wp2_with fail
      go_ret
      exact ⟨by rw [← HC.out]; rfl, rfl⟩
set_option maxRecDepth 100000 in
set_option maxHeartbeats 8000000 in
theorem cCompare_num (ka kb : Int) (x y : Nat) (s t P : ByteArray) (w : World) (ha : ka ≠ 2) (hb : kb ≠ 2) (hs : s.size ≤ 4194304) (ht : t.size ≤ 4194304) :
    Calls Tryz.prog 25 #[.agg #[.int .i64 ka, .float .f64 x, .string s], .agg #[.int .i64 kb, .float .f64 y, .string t], .string P] w fun e w' => e = .returned (.int .i64 (cmpN (numV2 ka x s) (numV2 kb y t))) ∧ Below w.heap.size w w' := by
  have v1 : (ka != 2) = true := by rw [bne_iff_ne]; exact ha
  have v2 : (kb != 2) = true := by rw [bne_iff_ne]; exact hb
  have v3 : (ka == 2) = false := by rw [beq_eq_false_iff_ne]; exact ha
  have v4 : (kb == 2) = false := by rw [beq_eq_false_iff_ne]; exact hb
  have CA := Lib.hid (fun W => cNumber_any ka x s W hs)
  have CB := Lib.hid (fun W => cNumber_any kb y t W ht)
  have CC := Lib.hid (fun W => cmpNum_any (numV2 ka x s) (numV2 kb y t) W)
  have fA := (Five.new w #[.int .i64 ka, .float .f64 x, .string s] 52).alloc (.cells #[.int .i64 kb, .float .f64 y, .string t] 52)
  have fB := Five.new (w.alloc (.cells #[.int .i64 ka, .float .f64 x, .string s] 52)) #[.int .i64 kb, .float .f64 y, .string t] 52
  have hB0 := ((Below.refl w.heap.size w).alloc (Nat.le_refl _) (.cells #[.int .i64 ka, .float .f64 x, .string s] 52)).alloc (by simp) (.cells #[.int .i64 kb, .float .f64 y, .string t] 52)
  rw [World.size_alloc] at fB
  obtain ⟨B, hB⟩ : ∃ B, w.heap.size = B := ⟨_, rfl⟩
  obtain ⟨W2, hW2⟩ : ∃ W2, (w.alloc (.cells #[.int .i64 ka, .float .f64 x, .string s] 52)).alloc (.cells #[.int .i64 kb, .float .f64 y, .string t] 52) = W2 := ⟨_, rfl⟩
  rw [hW2] at fA fB hB0
  rw [hB] at fA fB hB0 ⊢
  have HB := Lib.hid hB
  have HW2 := Lib.hid hW2
  have hle : B ≤ W2.heap.size := Nat.le_of_lt fA.lt
  have FA := Lib.hid fA
  have FB := Lib.hid fB
  have HB0 := Lib.hid hB0
  have HCW := Lib.hid (fun (W : World) (h : Below W2.heap.size W2 W) => (show W.cell? ⟨B, 0, none⟩ = some (.int .i64 ka) ∧ W.cell? ⟨B, 1, none⟩ = some (.float .f64 x) ∧ W.cell? ⟨B, 2, none⟩ = some (.string s) ∧ W.cell? ⟨B + 1, 0, none⟩ = some (.int .i64 kb) ∧ W.cell? ⟨B + 1, 1, none⟩ = some (.float .f64 y) ∧ W.cell? ⟨B + 1, 2, none⟩ = some (.string t) from ⟨(FA.out.below h).cell 0, (FA.out.below h).cell 1, (FA.out.below h).cell 2, (FB.out.below h).cell 0, (FB.out.below h).cell 1, (FB.out.below h).cell 2⟩))
  obtain ⟨a0, a1, a2, b0, b1, b2⟩ := HCW.out W2 (Below.refl _ _)
  clear ha hb hB hW2 fA fB hB0
  go_enter Tryz.func25, Tryz.ntmps25
  go_wp2_with fail
  rw [HW2.out, HB.out]
  go_region_held3 (fun w' => w'.cell? ⟨B, 0, none⟩ = some (.int .i64 ka) ∧ w'.cell? ⟨B, 1, none⟩ = some (.float .f64 x) ∧ w'.cell? ⟨B, 2, none⟩ = some (.string s) ∧ w'.cell? ⟨B + 1, 0, none⟩ = some (.int .i64 kb) ∧ w'.cell? ⟨B + 1, 1, none⟩ = some (.float .f64 y) ∧ w'.cell? ⟨B + 1, 2, none⟩ = some (.string t))
    (first | (with_reducible exact S3) | (with_reducible exact S2) | (with_reducible exact S1) | go_keep)
    (first
    | (go_at_call 31; (with_reducible refine (CA.out _).mono ?_); rintro e W3 ⟨rfl, h3⟩; have b3 : Below W2.heap.size W2 W3 := ⟨h3.os, h3.tape, h3.output, h3.size, h3.block⟩; have S1 := HCW.out _ b3; clear h3)
    | (go_at_call 31; (with_reducible refine (CB.out _).mono ?_); rintro e W4 ⟨rfl, h4⟩; have b4 : Below W2.heap.size W2 W4 := b3.trans ((⟨h4.os, h4.tape, h4.output, h4.size, h4.block⟩ : Below W3.heap.size W3 W4).mono b3.size); have S2 := HCW.out _ b4; clear h4)
    | (go_at_call 62; (with_reducible refine (CC.out _).mono ?_); rintro e w' ⟨rfl, rfl⟩))
  all_goals
    have hBf := HB0.out.trans (b4.mono hle)
    go_wp2_with fail
    go_ret
    exact ⟨rfl, by first | exact hBf | exact ⟨hBf.os, hBf.tape, hBf.output, hBf.size, hBf.block⟩⟩
end Go.Proofs.YtmceakbjholjpaaGreatDoor

namespace Go.Proofs.YtmceakbjholjpaaGreatDoor
open Go.RowKit Go.Lib

/-- Is a float not 0? -/
def nzB (x : Nat) : Bool := FloatKind.f64.format.order x 0 != some .eq
set_option maxRecDepth 100000 in
set_option maxHeartbeats 4000000 in
theorem cTrue_num (k : Int) (n : Nat) (s : ByteArray) (w : World) (h : k = 1 ∨ k = 3) : Calls Tryz.prog 33 #[.agg #[.int .i64 k, .float .f64 n, .string s]] w fun e w' => e = .returned (.bool (nzB n)) ∧ Below w.heap.size w w' := by
  have hz : (FloatKind.f64.format.order n 0 != some .eq) = nzB n := rfl
  have HB := Lib.hid ((Below.refl w.heap.size w).alloc (Nat.le_refl _) (.cells #[.int .i64 k, .float .f64 n, .string s] 52))
  rcases h with rfl | rfl
  all_goals
    go_enter Tryz.func33, Tryz.ntmps33
    go_wp2_with fail
    go_ret
    exact ⟨rfl, HB.out⟩
end Go.Proofs.YtmceakbjholjpaaGreatDoor

namespace Go.Proofs.YtmceakbjholjpaaGreatDoor
open Go.RowKit Go.Lib

/-- A number's place among all: NaN stands behind all others. -/
def keyN (x : Nat) : Int := if 9218868437227405312 < mag x then 9223372036854775808 else keyZ x
theorem keyZ_bd (x : Nat) : -9223372036854775808 < keyZ x ∧ keyZ x < 9223372036854775808 := by
  have := mag_lt x
  unfold keyZ
  split <;> omega
theorem cmpN_key (x y : Nat) : cmpN x y = if keyN x < keyN y then -1 else if keyN y < keyN x then 1 else 0 := by
  have bx := keyZ_bd x
  have by' := keyZ_bd y
  unfold cmpN ltB gtB rkB keyN
  rcases Nat.lt_or_ge 9218868437227405312 (mag x) with hx | hx
  · rw [show FloatKind.f64.format.order x y = none from order_nan_l hx, nan_yes hx, if_pos hx]
    rw [if_neg (show ¬ ((none : Option Ordering) == some .lt) = true by decide), if_neg (show ¬ ((none : Option Ordering) == some .gt) = true by decide), if_pos rfl]
    rcases Nat.lt_or_ge 9218868437227405312 (mag y) with hy | hy
    · rw [nan_yes hy, if_pos hy, if_pos rfl, if_neg (by omega), if_neg (by omega)]
      rfl
    · rw [nan_no hy, if_neg (by omega : ¬ 9218868437227405312 < mag y), if_neg (by decide), if_neg (by omega), if_pos (by omega)]
      rfl
  · rw [if_neg (by omega : ¬ 9218868437227405312 < mag x), nan_no hx]
    rcases Nat.lt_or_ge 9218868437227405312 (mag y) with hy | hy
    · rw [show FloatKind.f64.format.order x y = none from order_nan_r hy, nan_yes hy, if_pos hy]
      rw [if_neg (show ¬ ((none : Option Ordering) == some .lt) = true by decide), if_neg (show ¬ ((none : Option Ordering) == some .gt) = true by decide), if_neg (by decide), if_pos rfl, if_pos (by omega)]
      rfl
    · rw [if_neg (by omega : ¬ 9218868437227405312 < mag y), nan_no hy, show FloatKind.f64.format.order x y = some (compare (keyZ x) (keyZ y)) from order_key hx hy]
      rcases Int.lt_trichotomy (keyZ x) (keyZ y) with h | h | h
      · rw [Int.compare_eq_lt.2 h, if_pos (by decide), if_pos h]
      · rw [Int.compare_eq_eq.2 h, if_neg (by decide), if_neg (by decide), if_neg (by decide), if_neg (by omega), if_neg (by omega)]
        rfl
      · rw [Int.compare_eq_gt.2 h, if_neg (by decide), if_pos (by decide), if_neg (by omega), if_pos h]
/-- What Compare answers by "%.6g". -/
noncomputable def w6 (k : Int) (n : Nat) (s : ByteArray) : ByteArray := wrT k s ⟨(conv6 n).toArray⟩
end Go.Proofs.YtmceakbjholjpaaGreatDoor

namespace Go.Proofs.YtmceakbjholjpaaGreatDoor
open Go.RowKit Go.Lib

/-- The bytes of a code. -/
def textB (c : Int) : ByteArray :=
  if 1114112 ≤ c ∧ c < 1114368 then ⟨#[UInt8.ofNat (c - 1114112).toNat]⟩ else if Lib.validRune c then Utf8.encode c else ⟨#[]⟩
end Go.Proofs.YtmceakbjholjpaaGreatDoor

namespace Go.Proofs.YtmceakbjholjpaaGreatDoor
open Go.Lib

/-- The character at byte i of s: its code and how many bytes it has. -/
def chN (n b0 b1 b2 b3 : Nat) : Nat × Nat := if decodeN n b0 b1 b2 b3 = (65533, 1) then (1114112 + b0, 1) else decodeN n b0 b1 b2 b3
def chS (s : ByteArray) (i : Nat) : Nat × Nat := chN (s.size - i) (s.get! i).toNat (s.get! (i + 1)).toNat (s.get! (i + 2)).toNat (s.get! (i + 3)).toNat

/-- What Next answers. -/
def nextZ (s : ByteArray) (i : Int) (b : Bool) : Nat × Nat :=
  if i < 0 ∨ (s.size : Int) ≤ i then (0, 0) else if b then ((s.get! i.toNat).toNat, 1) else chS s i.toNat


theorem get!_lt (s : ByteArray) (i : Nat) (h : i < s.size) : s[i] = s.get! i := (Utf8W.get!_of_lt s i h).symm

theorem get!_lt256 (s : ByteArray) (i : Nat) : (s.get! i).toNat < 256 := by
  have := UInt8.toNat_lt (s.get! i)
  omega
/-! What 'size' reckons is what the library decodes. -/
end Go.Proofs.YtmceakbjholjpaaGreatDoor

namespace Go.Proofs.YtmceakbjholjpaaGreatDoor
open Go.Lib

/-- How many bytes the character at a place has (0 past the end). -/
def wid (s : ByteArray) (b : Bool) (i : Nat) : Nat := (nextZ s (i : Int) b).2
def uCod (s : ByteArray) (b : Bool) (i : Nat) : Nat := (nextZ s (i : Int) b).1
/-- The place of the k-th character (from 0 on), or the length. -/
def pl (s : ByteArray) (b : Bool) : Nat → Nat
  | 0 => 0
  | k + 1 => pl s b k + wid s b (pl s b k)

end Go.Proofs.YtmceakbjholjpaaGreatDoor

namespace Go.Proofs.YtmceakbjholjpaaGreatDoor
open Go.RowKit Go.Lib Go.Shelf
attribute [local go_sem] Oper.semAt_some

/-- What stands for the k-th character when its code is changed by f. -/
def piece (s : ByteArray) (b : Bool) (f : Int → Int) (k : Nat) : List UInt8 :=
  if f (uCod s b (pl s b k)) = uCod s b (pl s b k) then (s.data.toList.drop (pl s b k)).take (wid s b (pl s b k)) else (textB (f (uCod s b (pl s b k)))).data.toList
end Go.Proofs.YtmceakbjholjpaaGreatDoor

namespace Go.Proofs.YtmceakbjholjpaaGreatDoor
open Go.RowKit Go.Lib

theorem decs_is {l : List UInt8} {n : Nat} (hd : Dec l) (hp : pv l = n) (h0 : 0 < l.length) (h1 : l[0] ≠ 48) : decs n = l := by
  rw [← hp, ← decs_strip (i := 0) hd h0 (fun j h => by omega) (Or.inr h1), List.drop_zero]
end Go.Proofs.YtmceakbjholjpaaGreatDoor

namespace Go.Proofs.YtmceakbjholjpaaGreatDoor
open Go.RowKit Go.Lib

theorem sign_text (p b : Bool) {c : Nat} (hc : vMin.contains c.toUInt8 = false) (s : Bool) : SgOk (signL p b c s) s ∨ (signL p b c s = [32] ∧ s = false) := by
  unfold signL
  rw [hc]
  cases s <;> cases p <;> cases b <;> simp [SgOk]
theorem turned_sb {x : Nat} (hb : x < 18446744073709551616) : turned (sbB x) (mag x) = x := by
  unfold turned sbB mag
  rcases Nat.lt_or_ge x 9223372036854775808 with h | h
  · rw [decide_eq_false (by omega), if_neg (by decide)]
    omega
  · rw [decide_eq_true h, if_pos rfl, neg_pos (by omega)]
    omega
/-- A text that is read as the float x, whole. -/
def Back (l : List UInt8) (x : Nat) : Prop := preN l = x ∧ 0 < (sigL l).2.2.2.2 ∧ looksL l = true
theorem back_at {sg D : List UInt8} {m z b : Bool} {wd : Int} {r : Nat} (hs : SgOk sg b ∨ (sg = [32] ∧ b = false)) (h : Reads D r) : Back (laidL sg [] D wd m z) (turned b r) := by
  obtain ⟨D1, D2, xe, zz, h1, h2, h3, h4⟩ := reads_laid (m := m) (z := z) (wd := wd) hs h
  refine ⟨?_, by rw [h1]; exact h2, h4⟩
  unfold preN
  rw [h1]
  simp only
  rw [nearR_of (Nat.pow_pos (by omega)) h3]
theorem back_laid {sg D : List UInt8} {m z : Bool} {wd : Int} {x : Nat} (hb : x < 18446744073709551616) (hs : SgOk sg (sbB x) ∨ (sg = [32] ∧ sbB x = false)) (h : Reads D (mag x)) : Back (laidL sg [] D wd m z) x := by
  have k := back_at (m := m) (z := z) (wd := wd) hs h
  rwa [turned_sb hb] at k
theorem reads_cap {D : List UInt8} {r : Nat} (c : Nat) (h : Reads D r) : Reads (capL c D) r := by
  unfold capL
  split
  · exact h.upper
  · exact h
theorem back_e (w : World) (m p b a z : Bool) (wd : Int) {x : Nat} (hb : x < 18446744073709551616) (h : mag x < 9218868437227405312) : Back (pointT m p b a z wd 16 101 x) x := by
  unfold pointT
  refine back_laid hb (sign_text p b (by decide) _) (reads_cap 101 ?_)
  unfold ptD
  rw [if_neg (by decide), if_pos (Or.inl rfl), show (if (16 : Int) < 0 then (6 : Int) else 16).toNat = 16 by decide]
  exact reads_sci w h (by decide) (by decide) _ (by rw [decide_eq_true (by decide), Bool.true_or])
theorem ptD_g (r : Nat) (a : Bool) (c : Nat) (h : c = 71 ∨ c = 103) : ptD r 17 a c = genT r 16 a := by
  unfold ptD
  rw [if_neg (by omega), if_neg (by omega), show (max (1 : Int) (if (17 : Int) < 0 then (6 : Int) else 17) - 1).toNat = 16 by decide]
theorem back_g (w : World) (m p b a z : Bool) (wd : Int) {x : Nat} (hb : x < 18446744073709551616) (h : mag x < 9218868437227405312) : Back (pointT m p b a z wd 17 103 x) x := by
  unfold pointT
  refine back_laid hb (sign_text p b (by decide) _) (reads_cap 103 ?_)
  rw [ptD_g _ _ _ (Or.inr rfl)]
  exact reads_gen w h (by decide) (by decide) _
/-- Whole numbers by their digits. -/
theorem reads_whole {r q : Nat} (hr : r < 9218868437227405312) (hV : V r = q * S1074) : Reads (decs q) r := by
  refine ⟨decs q, [], [], [], 0, by simp, dec_decs q, ?_, dec_nil, Or.inl ⟨rfl, rfl⟩, Or.inl ⟨rfl, rfl⟩, ?_⟩
  · intro e
    have h1 := decs_pos_len q
    rw [e] at h1
    simp at h1
  · rw [List.append_nil, pv_decs, show ((0 : Int) - (([] : List UInt8).length : Int)).toNat = 0 by decide, show (-((0 : Int) - (([] : List UInt8).length : Int))).toNat = 0 by decide, Nat.pow_zero, Nat.mul_one, Nat.mul_assoc, ← hV]
    exact Near.self hr
def sgW (b : Bool) : List UInt8 := if b = true then [45] else []
theorem laid_plain (sg D : List UInt8) : laidL sg [] D 0 false false = sg ++ D := by
  unfold laidL fillL
  rw [if_neg (by simp), if_neg (by simp), List.append_nil]
  have e : ((0 : Int) - ((sg ++ D).length : Int)).toNat = 0 := by omega
  rw [e, List.replicate_zero, List.nil_append]
theorem itoa_laid (z : Int) (q : Nat) (h : (z < 0 → z.natAbs = q) ∧ (¬ z < 0 → z.toNat = q)) : Lib.itoa z = sgW (decide (z < 0)) ++ decs q := by
  unfold Lib.itoa
  by_cases hz : z < 0
  · rw [if_pos hz, decD, decide_eq_true hz, h.1 hz]
    rfl
  · rw [if_neg hz, decD, decide_eq_false hz, h.2 hz]
    rfl
theorem whZ_abs (x : Nat) : (whZ x < 0 → (whZ x).natAbs = whQ (mag x)) ∧ (¬ whZ x < 0 → (whZ x).toNat = whQ (mag x)) := by
  unfold whZ
  generalize whQ (mag x) = q
  generalize sgn x = s
  by_cases h : s = 0
  · rw [if_pos h]
    omega
  · rw [if_neg h]
    omega
theorem wholeT_laid {x : Nat} : wholeT x = laidL (sgW (decide (whZ x < 0))) [] (decs (whQ (mag x))) 0 false false := by
  rw [laid_plain]
  exact itoa_laid _ _ (whZ_abs x)
theorem sgW_ok (b : Bool) : SgOk (sgW b) b := by cases b <;> simp [SgOk, sgW]
/-- A whole number's digits are read as a number that is equal to it (the sign of 0 aside). -/
theorem back_whole {x : Nat} (hb : x < 18446744073709551616) (h : wholeB x 4846369599423283200 = true) :
    ∃ y, Back (wholeT x) y ∧ mag y = mag x ∧ (y = x ∨ mag x = 0) := by
  have hlt : mag x < 4846369599423283200 := by
    unfold wholeB at h
    exact of_decide_eq_true (Bool.and_eq_true_iff.1 h).1
  have hwh : isWh (mag x) = true := by
    unfold wholeB at h
    exact (Bool.and_eq_true_iff.1 h).2
  have hV := whQ_V hwh
  refine ⟨turned (decide (whZ x < 0)) (mag x), ?_, ?_, ?_⟩
  · rw [wholeT_laid]
    exact back_at (Or.inl (sgW_ok _)) (reads_whole (by omega) hV)
  · unfold turned
    split
    · rw [neg_pos (by omega)]
      unfold mag at *
      omega
    · exact mag_mag x
  · by_cases hq : whQ (mag x) = 0
    · refine Or.inr (V_inj (hV.trans ?_))
      rw [hq, Nat.zero_mul]
      decide
    · left
      have hsm := sgn_mag x hb
      unfold whZ
      rcases (by unfold sgn; omega : sgn x = 0 ∨ sgn x = 9223372036854775808) with h0 | h0
      · rw [if_pos h0, decide_eq_false (by omega)]
        unfold turned
        rw [if_neg (by decide)]
        omega
      · rw [if_neg (by omega), decide_eq_true (by omega)]
        unfold turned
        rw [if_pos rfl, neg_pos (by omega)]
        omega
end Go.Proofs.YtmceakbjholjpaaGreatDoor

namespace Go.Proofs.YtmceakbjholjpaaGreatDoor
open Go.RowKit Go.Lib

theorem chk_K {K : Nat} (h : K ≤ 1024) {pr : Int} (h0 : -1 ≤ pr) (h1 : pr ≤ 190) {c : Nat} (hc : vAll.contains c.toUInt8 = true) : chkB (K : Int) pr c = true := by
  unfold chkB
  rw [decide_eq_true (by omega), decide_eq_true (by omega), decide_eq_true h0, decide_eq_true h1, hc]
  rfl
end Go.Proofs.YtmceakbjholjpaaGreatDoor

namespace Go.Proofs.YtmceakbjholjpaaGreatDoor
open Go.RowKit Go.Lib

/-- What Conv answers by "%.17g" of a number that is finite. -/
noncomputable def conv17 (x : Nat) : List UInt8 := if wholeB x 4846369599423283200 = true then wholeT x else pointT false false false false false 0 17 103 x
theorem conv_17g (x : Nat) (w : World) (hb : x < 18446744073709551616) (h : mag x < 9218868437227405312) (hT : PowTab w) :
    Calls Tryz.prog 40 #[.float .f64 x, .string p17g] w fun e w' => e = .returned (.string ⟨(conv17 x).toArray⟩) ∧ Below w.heap.size w w' := by
  unfold conv17
  cases hw : wholeB x 4846369599423283200 with
  | true => rw [if_pos rfl]; exact conv_whole x _ w hb hw hT
  | false =>
    rw [if_neg (by decide)]
    exact conv_pt p17g x 5 17 103 w hb h rfl (by omega) (by omega) part_17g (by decide) (by decide) (by decide) (by decide) hw hT
theorem back_17 (w : World) {x : Nat} (hb : x < 18446744073709551616) (h : mag x < 9218868437227405312) : ∃ y, Back (conv17 x) y ∧ mag y = mag x ∧ (y = x ∨ mag x = 0) := by
  unfold conv17
  cases hw : wholeB x 4846369599423283200 with
  | true => rw [if_pos rfl]; exact back_whole hb hw
  | false => rw [if_neg (by decide)]; exact ⟨x, back_g w false false false false false 0 hb h, rfl, Or.inl rfl⟩
theorem itoa_len (z : Int) (h : z.natAbs < 10 ^ 20) : (Lib.itoa z).length ≤ 100 := by
  unfold Lib.itoa
  split
  · rw [decD, List.length_cons]
    have := (decs_len (n := z.natAbs) (k := 20) h (by omega)).2
    omega
  · rw [decD]
    have := (decs_len (n := z.toNat) (k := 20) (by omega) (by omega)).2
    omega
theorem conv17_len (w : World) {x : Nat} (_hb : x < 18446744073709551616) (h : mag x < 9218868437227405312) : (conv17 x).length ≤ 100000 := by
  unfold conv17
  cases hw : wholeB x 4846369599423283200 with
  | true =>
    rw [if_pos rfl]
    have hlt : mag x < 4846369599423283200 := by
      unfold wholeB at hw
      exact of_decide_eq_true (Bool.and_eq_true_iff.1 hw).1
    have hq := whQ_lt hlt e16_V
    have hz := whZ_bd _ hq
    exact Nat.le_trans (itoa_len _ (by omega)) (by omega)
  | false => rw [if_neg (by decide)]; exact pointT_len w h (by omega) (by omega) (by omega) (by omega)
theorem gen_05 : genT 4602678819172646912 16 false = [48, 46, 53] := by
  unfold genT
  rw [sciX_of (sciB_ok (P := -1) (M := 50000000000000000) (by decide +kernel) (by omega))]
  rw [if_neg (by decide)]
  show trimG false (fixP 4602678819172646912 17 false) = _
  have e : fixP 4602678819172646912 17 false = [48, 46, 53, 48, 48, 48, 48, 48, 48, 48, 48, 48, 48, 48, 48, 48, 48, 48, 48] := by
    unfold fixP
    rw [show rnd (amN 4602678819172646912 * 10 ^ 17) (amD 4602678819172646912) = 50000000000000000 by decide +kernel, decs_is (l := [53, 48, 48, 48, 48, 48, 48, 48, 48, 48, 48, 48, 48, 48, 48, 48, 48]) (n := 50000000000000000) (by unfold Dec; decide) (by decide) (by decide) (by decide)]
    rfl
  rw [e]
  rfl
theorem conv17_05 : conv17 4602678819172646912 = [48, 46, 53] := by
  unfold conv17
  rw [if_neg (by decide +kernel)]
  unfold pointT
  rw [ptD_g _ _ _ (Or.inr rfl), show mag 4602678819172646912 = 4602678819172646912 by decide, gen_05]
  decide +kernel
/-- Numbers of one amount, that are 0 where their signs part, are equal to each other. -/
theorem key_same {x y : Nat} (h : mag y = mag x) (he : y = x ∨ mag x = 0) : keyZ y = keyZ x := by
  rcases he with rfl | h0
  · rfl
  · unfold keyZ
    rw [h, h0]
    split <;> split <;> rfl
theorem eq_key {x y : Nat} (hx : mag x < 9218868437227405312) (h : mag y = mag x) (he : y = x ∨ mag x = 0) : (FloatKind.f64.format.order y x != some .eq) = false ∧ cmpN x y = 0 := by
  have hk := key_same h he
  constructor
  · rw [show FloatKind.f64.format.order y x = _ from order_key (by omega) (by omega), hk, Int.compare_eq_eq.2 rfl]
    rfl
  · rw [cmpN_key]
    unfold keyN
    rw [if_neg (by omega), if_neg (by omega)]
set_option maxRecDepth 100000 in
set_option maxHeartbeats 16000000 in
theorem topNumbers_core (m p b a z : Bool) (wd pr : Int) (c x y K : Nat) (nz : Bool) (s t : ByteArray) (w : World) (hb : x < 18446744073709551616) (h : mag x < 9218868437227405312) (hK : min (max wd 0) 100 = (K : Int)) (hT : PowTab w)
    (hs : ⟨(pointT m p b a z (K : Int) 16 101 x).toArray⟩ = s) (ht : ⟨(conv17 x).toArray⟩ = t) (hsz : s.size ≤ 100000) (htz : t.size ≤ 100000) (h1 : preN s.data.toList = x) (h2 : looksL s.data.toList = true) (h3 : preN t.data.toList = y) (h4 : looksL t.data.toList = true)
    (hy1 : (FloatKind.f64.format.order y x != some .eq) = false) (hy2 : cmpN x y = 0) (hnz : nzB x = nz) :
    Calls Tryz.prog 12 #[.int .u64 (x : Int), .agg #[.bool m, .bool p, .bool b, .bool a, .bool z, .int .i64 wd, .int .i64 pr, .int .u8 (c : Int)]] w fun e w' => e = .returned (.bool true) ∧ Below w.heap.size w w' := by
  have cO5 := fun W => cOf_any 4602678819172646912 W
  have cS5 : ∀ W, PowTab W → Calls Tryz.prog 29 #[.agg #[.int .i64 1, .float .f64 4602678819172646912, .string ⟨#[]⟩], .string ⟨#[37, 46, 49, 55, 103]⟩] W fun e w' => e = .returned (.string ⟨#[48, 46, 53]⟩) ∧ Below W.heap.size W w' := fun W hW => by
    have k := cString_any 1 4602678819172646912 ⟨#[]⟩ p17g ⟨(conv17 4602678819172646912).toArray⟩ W (fun _ W2 hW2 => conv_17g _ W2 (by omega) (by decide) hW2) hW (by unfold wrT; rw [if_pos rfl, conv17_05]; decide)
    rw [conv17_05] at k
    exact k
  have cI := fun W => isInf_any x W hb
  rw [show infB x = false from inf_no h] at cI
  have cN : ∀ W, PowTab W → Calls Tryz.prog 19 #[.agg #[.bool m, .bool p, .bool b, .bool a, .bool z, .int .i64 (K : Int), .int .i64 16, .int .u8 101], .float .f64 x] W fun e w' => e = .returned (.tuple #[.string s, .int .i64 0]) ∧ Below W.heap.size W w' := fun W hW => by
    have k := number_point m p b a z (K : Int) 16 101 x W hb h (chk_K (by omega) (by omega) (by omega) (by decide)) (by decide) (by decide) hW
    rw [hs] at k
    exact k
  have cC : ∀ W, Calls Tryz.prog 26 #[.string s] W fun e w' => e = .returned (.agg #[.int .i64 3, .float .f64 x, .string s]) ∧ Below W.heap.size W w' := fun W => cInput_any s true x W (by omega) h2 h1
  have cD : ∀ W, Calls Tryz.prog 26 #[.string t] W fun e w' => e = .returned (.agg #[.int .i64 3, .float .f64 y, .string t]) ∧ Below W.heap.size W w' := fun W => cInput_any t true y W (by omega) h4 h3
  have cO := fun W => cOf_any x W
  have cS : ∀ W, PowTab W → Calls Tryz.prog 29 #[.agg #[.int .i64 1, .float .f64 x, .string ⟨#[]⟩], .string ⟨#[37, 46, 49, 55, 103]⟩] W fun e w' => e = .returned (.string t) ∧ Below W.heap.size W w' := fun W hW => by
    have k := cString_any 1 x ⟨#[]⟩ p17g t W (fun _ W2 hW2 => by have k2 := conv_17g x W2 hb h hW2; rw [ht] at k2; exact k2) hW (by unfold wrT; rw [if_pos rfl]; omega)
    exact k
  have c1 : ∀ W, Calls Tryz.prog 25 #[.agg #[.int .i64 3, .float .f64 x, .string s], .agg #[.int .i64 1, .float .f64 x, .string ⟨#[]⟩], .string p6g] W fun e w' => e = .returned (.int .i64 0) ∧ Below W.heap.size W w' := fun W => by
    have k := cCompare_num 3 1 x x s ⟨#[]⟩ p6g W (by decide) (by decide) (by omega) (by decide)
    unfold numV2 at k
    rw [if_pos (Or.inr rfl), if_pos (Or.inl rfl), (eq_key h rfl (Or.inl rfl)).2] at k
    exact k
  have c2 : ∀ W, Calls Tryz.prog 25 #[.agg #[.int .i64 3, .float .f64 x, .string s], .agg #[.int .i64 3, .float .f64 y, .string t], .string p6g] W fun e w' => e = .returned (.int .i64 0) ∧ Below W.heap.size W w' := fun W => by
    have k := cCompare_num 3 3 x y s t p6g W (by decide) (by decide) (by omega) (by omega)
    unfold numV2 at k
    rw [if_pos (Or.inr rfl), if_pos (Or.inr rfl), hy2] at k
    exact k
  have cT := fun W => cTrue_num 3 x s W (Or.inr rfl)
  rw [hnz] at cT
  have hself := (eq_key h rfl (Or.inl rfl)).1
  have hnz2 : (FloatKind.f64.format.order x 0 != some .eq) = nz := hnz
  have CO5 := Lib.hid cO5
  have CS5 := Lib.hid cS5
  have CI := Lib.hid cI
  have CN := Lib.hid cN
  have CC := Lib.hid cC
  have CD := Lib.hid cD
  have CO := Lib.hid cO
  have CS := Lib.hid cS
  have C1 := Lib.hid c1
  have C2 := Lib.hid c2
  have CT := Lib.hid cT
  have HNZ := Lib.hid hnz2
  have FP := Lib.hid (Five.new w #[.bool m, .bool p, .bool b, .bool a, .bool z, .int .i64 wd, .int .i64 pr, .int .u8 (c : Int)] 24)
  have HB0 := Lib.hid ((Below.refl w.heap.size w).alloc (Nat.le_refl _) (.cells #[.bool m, .bool p, .bool b, .bool a, .bool z, .int .i64 wd, .int .i64 pr, .int .u8 (c : Int)] 24))
  have HT := Lib.hid (Lib.tabBelow_of_tabIs hT)
  obtain ⟨W1, hW1⟩ : ∃ W1, w.alloc (.cells #[.bool m, .bool p, .bool b, .bool a, .bool z, .int .i64 wd, .int .i64 pr, .int .u8 (c : Int)] 24) = W1 := ⟨_, rfl⟩
  rw [hW1] at FP HB0
  have HW1 := Lib.hid hW1
  obtain ⟨B, hB⟩ : ∃ B, w.heap.size = B := ⟨_, rfl⟩
  rw [hB] at FP HB0 HT ⊢
  have HB := Lib.hid hB
  have HZ := Lib.hid (fun (W : World) (h : Below B w W) => (show B ≤ W.heap.size from hB ▸ h.size))
  have HK := Lib.hid hK
  have hfr := run_f64from x
  have hfb := run_f64bits x
  clear cO5 cS5 cI cN cC cD cO cS c1 c2 cT hT hW1 hB hK hs ht hsz htz h1 h2 h3 h4 hy2 hnz hnz2 h hb
  go_enter Tryz.func12, Tryz.ntmps12
  go_wp2_with fail
  rw [HW1.out, HB.out]
  refine (CO5.out _).mono ?_
  rintro e W2 ⟨rfl, h2⟩
  have FP2 := Lib.hid (FP.out.below h2)
  have HB2 := Lib.hid (HB0.out.trans (h2.mono (HZ.out _ HB0.out)))
  clear h2
  go_wp2_with fail
  refine (CS5.out _ (HT.out _ HB2.out)).mono ?_
  rintro e W3 ⟨rfl, h3⟩
  have FP3 := Lib.hid (FP2.out.below h3)
  have HB3 := Lib.hid (HB2.out.trans (h3.mono (HZ.out _ HB2.out)))
  clear h3
  go_wp2_with fail
  refine (CI.out _).mono ?_
  rintro e w' ⟨rfl, rfl⟩
  obtain ⟨p0, p1, p2, p3, p4, p5, p6, p7⟩ := spec_cells FP3.out
  have r5 := FP3.out.fro 5
  have r6 := FP3.out.fro 6
  have r7 := FP3.out.fro 7
  have hK := HK.out
  have FP4 := Lib.hid (show Five (((W3.setCell ⟨B, 7, none⟩ (.int .u8 101)).setCell ⟨B, 6, none⟩ (.int .i64 16)).setCell ⟨B, 5, none⟩ (.int .i64 (K : Int))) B #[.bool m, .bool p, .bool b, .bool a, .bool z, .int .i64 (K : Int), .int .i64 16, .int .u8 101] 24 from ((FP3.out.set (j := 7) (u := .int .u8 101)).set (j := 6) (u := .int .i64 16)).set (j := 5) (u := .int .i64 (K : Int)))
  have HB4 := Lib.hid (((HB3.out.setCell (p := ⟨B, 7, none⟩) (Nat.le_refl _) (.int .u8 101)).setCell (p := ⟨B, 6, none⟩) (Nat.le_refl _) (.int .i64 16)).setCell (p := ⟨B, 5, none⟩) (Nat.le_refl _) (.int .i64 (K : Int)))
  go_wp2_with fail
  clear p0 p1 p2 p3 p4 p5 p6 p7 r5 r6 r7 hK
  obtain ⟨W4, hW4⟩ : ∃ W4, ((W3.setCell ⟨B, 7, none⟩ (.int .u8 101)).setCell ⟨B, 6, none⟩ (.int .i64 16)).setCell ⟨B, 5, none⟩ (.int .i64 (K : Int)) = W4 := ⟨_, rfl⟩
  rw [hW4] at FP4 HB4 ⊢
  clear hW4
  refine (CN.out _ (HT.out _ HB4.out)).mono ?_
  rintro e W5 ⟨rfl, h5⟩
  have HB5 := Lib.hid (HB4.out.trans (h5.mono (HZ.out _ HB4.out)))
  clear h5
  go_wp2_with fail
  refine (CC.out _).mono ?_
  rintro e W6 ⟨rfl, h6⟩
  have HB6 := Lib.hid (HB5.out.trans (h6.mono (HZ.out _ HB5.out)))
  clear h6
  have FC := Lib.hid (Five.new W6 #[.int .i64 3, .float .f64 x, .string s] 52)
  have HB7 := Lib.hid (HB6.out.alloc (HZ.out _ HB6.out) (.cells #[.int .i64 3, .float .f64 x, .string s] 52))
  have hst := run_store_float
  go_wp2_with fail
  clear hst
  obtain ⟨W7, hW7⟩ : ∃ W7, W6.alloc (.cells #[.int .i64 3, .float .f64 x, .string s] 52) = W7 := ⟨_, rfl⟩
  obtain ⟨G, hG⟩ : ∃ G, W6.heap.size = G := ⟨_, rfl⟩
  rw [hW7] at FC HB7 ⊢
  rw [hG] at FC ⊢
  clear hW7 hG HB6
  refine (CO.out _).mono ?_
  rintro e W8 ⟨rfl, h8⟩
  have FC8 := Lib.hid (FC.out.below h8)
  have HB8 := Lib.hid (HB7.out.trans (h8.mono (HZ.out _ HB7.out)))
  clear h8
  go_wp2_with fail
  refine (CS.out _ (HT.out _ HB8.out)).mono ?_
  rintro e W9 ⟨rfl, h9⟩
  have FC9 := Lib.hid (FC8.out.below h9)
  have HB9 := Lib.hid (HB8.out.trans (h9.mono (HZ.out _ HB8.out)))
  clear h9
  go_wp2_with fail
  refine (CD.out _).mono ?_
  rintro e W10 ⟨rfl, h10⟩
  have FC10 := Lib.hid (FC9.out.below h10)
  have HB10 := Lib.hid (HB9.out.trans (h10.mono (HZ.out _ HB9.out)))
  clear h10
  have FC11 := Lib.hid (FC10.out.alloc (.cells #[.int .i64 3, .float .f64 y, .string t] 52))
  have FD11 := Lib.hid (Five.new W10 #[.int .i64 3, .float .f64 y, .string t] 52)
  have HB11 := Lib.hid (HB10.out.alloc (HZ.out _ HB10.out) (.cells #[.int .i64 3, .float .f64 y, .string t] 52))
  obtain ⟨W11, hW11⟩ : ∃ W11, W10.alloc (.cells #[.int .i64 3, .float .f64 y, .string t] 52) = W11 := ⟨_, rfl⟩
  obtain ⟨G2, hG2⟩ : ∃ G2, W10.heap.size = G2 := ⟨_, rfl⟩
  have hst := run_store_float
  rw [hW11] at FC11 FD11 HB11
  rw [hG2] at FD11
  have HW11 := Lib.hid hW11
  have HG2 := Lib.hid hG2
  have HCW := Lib.hid (fun (W : World) (h : Below W11.heap.size W11 W) => (show W.cell? ⟨G, 0, none⟩ = some (.int .i64 3) ∧ W.cell? ⟨G, 1, none⟩ = some (.float .f64 x) ∧ W.cell? ⟨G, 2, none⟩ = some (.string s) ∧ W.cell? ⟨G2, 0, none⟩ = some (.int .i64 3) ∧ W.cell? ⟨G2, 1, none⟩ = some (.float .f64 y) ∧ W.cell? ⟨G2, 2, none⟩ = some (.string t) from ⟨(FC11.out.below h).cell 0, (FC11.out.below h).cell 1, (FC11.out.below h).cell 2, (FD11.out.below h).cell 0, (FD11.out.below h).cell 1, (FD11.out.below h).cell 2⟩))
  have hR := Below.refl W11.heap.size W11
  have hc := HCW.out W11 hR
  rw [← hW11, ← hG2] at hc
  obtain ⟨a0, a1, a2, a3, a4, a5⟩ := hc
  clear hW11 hG2
  go_wp2_with fail
  clear a0 a1 a2 a3 a4 a5 hst
  rw [HW11.out, HG2.out]
  obtain ⟨a0, a1, a2, a3, a4, a5⟩ := HCW.out W11 hR
  have hnz2 := HNZ.out
  go_region_held3 (fun W => W.cell? ⟨G, 0, none⟩ = some (.int .i64 3) ∧ W.cell? ⟨G, 1, none⟩ = some (.float .f64 x) ∧ W.cell? ⟨G, 2, none⟩ = some (.string s) ∧ W.cell? ⟨G2, 0, none⟩ = some (.int .i64 3) ∧ W.cell? ⟨G2, 1, none⟩ = some (.float .f64 y) ∧ W.cell? ⟨G2, 2, none⟩ = some (.string t))
    (first | (with_reducible exact S15) | (with_reducible exact S14) | (with_reducible exact S13) | (with_reducible exact S12) | go_keep)
    (first
    | (go_at_call 38; (with_reducible refine (CO.out _).mono ?_); rintro e X12 ⟨rfl, h⟩; have b12 : Below W11.heap.size W11 X12 := ⟨h.os, h.tape, h.output, h.size, h.block⟩; have S12 := HCW.out _ b12; clear h)
    | (go_at_call 25; (with_reducible refine (C1.out _).mono ?_); rintro e X13 ⟨rfl, h⟩; have b13 : Below W11.heap.size W11 X13 := b12.trans ((⟨h.os, h.tape, h.output, h.size, h.block⟩ : Below X12.heap.size X12 X13).mono b12.size); have S13 := HCW.out _ b13; clear h)
    | (go_at_call 25; (with_reducible refine (C2.out _).mono ?_); rintro e X14 ⟨rfl, h⟩; have b14 : Below W11.heap.size W11 X14 := b13.trans ((⟨h.os, h.tape, h.output, h.size, h.block⟩ : Below X13.heap.size X13 X14).mono b13.size); have S14 := HCW.out _ b14; clear h)
    | (go_at_call 33; (with_reducible refine (CT.out _).mono ?_); rintro e X15 ⟨rfl, h⟩; have b15 : Below W11.heap.size W11 X15 := b14.trans ((⟨h.os, h.tape, h.output, h.size, h.block⟩ : Below X14.heap.size X14 X15).mono b14.size); have S15 := HCW.out _ b15; clear h))
  all_goals
    have hBf := HB11.out.trans (b15.mono (HZ.out _ HB11.out))
    go_wp2_with fail
    go_ret
    exact ⟨rfl, by first | exact hBf | exact ⟨hBf.os, hBf.tape, hBf.output, hBf.size, hBf.block⟩⟩
end Go.Proofs.YtmceakbjholjpaaGreatDoor

namespace Go.Proofs.YtmceakbjholjpaaGreatDoor
open Go.RowKit Go.Lib

set_option maxRecDepth 100000 in
set_option maxHeartbeats 16000000 in
theorem topNumbers_odd (m p b a z : Bool) (wd pr : Int) (c x : Nat) (w : World) (hb : x < 18446744073709551616) (h : 9218868437227405312 ≤ mag x) (hT : PowTab w) :
    Calls Tryz.prog 12 #[.int .u64 (x : Int), .agg #[.bool m, .bool p, .bool b, .bool a, .bool z, .int .i64 wd, .int .i64 pr, .int .u8 (c : Int)]] w fun e w' => e = .returned (.bool true) ∧ Below w.heap.size w w' := by
  have cO5 := fun W => cOf_any 4602678819172646912 W
  have cS5 : ∀ W, PowTab W → Calls Tryz.prog 29 #[.agg #[.int .i64 1, .float .f64 4602678819172646912, .string ⟨#[]⟩], .string ⟨#[37, 46, 49, 55, 103]⟩] W fun e w' => e = .returned (.string ⟨#[48, 46, 53]⟩) ∧ Below W.heap.size W w' := fun W hW => by
    have k := cString_any 1 4602678819172646912 ⟨#[]⟩ p17g ⟨(conv17 4602678819172646912).toArray⟩ W (fun _ W2 hW2 => conv_17g _ W2 (by omega) (by decide) hW2) hW (by unfold wrT; rw [if_pos rfl, conv17_05]; decide)
    rw [conv17_05] at k
    exact k
  have cI := fun W => isInf_any x W hb
  have hO : ((FloatKind.f64.format.order x x != some .eq) = true) ∨ ((FloatKind.f64.format.order x x != some .eq) = false ∧ infB x = true) := by
    rcases Nat.lt_or_ge 9218868437227405312 (mag x) with h2 | h2
    · exact Or.inl (nan_yes h2)
    · exact Or.inr ⟨nan_no h2, inf_yes (by omega)⟩
  obtain ⟨v, hv⟩ : ∃ v, infB x = v := ⟨_, rfl⟩
  rw [hv] at cI hO
  have CO5 := Lib.hid cO5
  have CS5 := Lib.hid cS5
  have CI := Lib.hid cI
  have HT := Lib.hid (Lib.tabBelow_of_tabIs hT)
  have HB0 := Lib.hid ((Below.refl w.heap.size w).alloc (Nat.le_refl _) (.cells #[.bool m, .bool p, .bool b, .bool a, .bool z, .int .i64 wd, .int .i64 pr, .int .u8 (c : Int)] 24))
  have hfr := run_f64from x
  clear cO5 cS5 cI hT h hv hb
  rcases hO with f1 | ⟨f1, rfl⟩
  · go_enter Tryz.func12, Tryz.ntmps12
    go_wp2_with fail
    refine (CO5.out _).mono ?_
    rintro e W2 ⟨rfl, h2⟩
    have HB2 := Lib.hid (HB0.out.trans (h2.mono HB0.out.size))
    clear h2
    go_wp2_with fail
    refine (CS5.out _ (HT.out _ HB2.out)).mono ?_
    rintro e W3 ⟨rfl, h3⟩
    have hBf := HB2.out.trans (h3.mono HB2.out.size)
    clear h3
    go_wp2_with fail
    go_ret
    exact ⟨rfl, hBf⟩
  · go_enter Tryz.func12, Tryz.ntmps12
    go_wp2_with fail
    refine (CO5.out _).mono ?_
    rintro e W2 ⟨rfl, h2⟩
    have HB2 := Lib.hid (HB0.out.trans (h2.mono HB0.out.size))
    clear h2
    go_wp2_with fail
    refine (CS5.out _ (HT.out _ HB2.out)).mono ?_
    rintro e W3 ⟨rfl, h3⟩
    have hBf := HB2.out.trans (h3.mono HB2.out.size)
    clear h3
    go_wp2_with fail
    refine (CI.out _).mono ?_
    rintro e w' ⟨rfl, rfl⟩
    go_wp2_with fail
    go_ret
    exact ⟨rfl, hBf⟩
theorem topNumbers_any (m p b a z : Bool) (wd pr : Int) (c : Int) (n : Int) (w : World) (h0 : 0 ≤ n) (h1 : n ≤ 18446744073709551615) (c0 : 0 ≤ c) (hT : PowTab w) :
    Calls Tryz.prog 12 #[.int .u64 n, .agg #[.bool m, .bool p, .bool b, .bool a, .bool z, .int .i64 wd, .int .i64 pr, .int .u8 c]] w fun e w' => e = .returned (.bool true) ∧ Below w.heap.size w w' := by
  obtain ⟨x, rfl⟩ : ∃ x : Nat, n = (x : Int) := ⟨n.toNat, by omega⟩
  obtain ⟨k, rfl⟩ : ∃ k : Nat, c = (k : Int) := ⟨c.toNat, by omega⟩
  obtain ⟨K, hK⟩ : ∃ K : Nat, min (max wd 0) 100 = (K : Int) := ⟨(min (max wd 0) 100).toNat, by omega⟩
  have hb : x < 18446744073709551616 := by omega
  rcases Nat.lt_or_ge (mag x) 9218868437227405312 with h | h
  · obtain ⟨y, ⟨b1, -, b3⟩, hy1, hy2⟩ := back_17 w hb h
    obtain ⟨d1, -, d3⟩ := back_e w m p b a z (K : Int) hb h
    obtain ⟨e1, e2⟩ := eq_key h hy1 hy2
    have l1 := pointT_len w (m := m) (p := p) (b := b) (a := a) (z := z) (wd := (K : Int)) (pr := 16) (c := 101) h (by omega) (by omega) (by omega) (by omega)
    have l2 := conv17_len w hb h
    exact topNumbers_core m p b a z wd pr k x y K _ _ _ w hb h hK hT rfl rfl (by rw [← ba_len]; exact l1) (by rw [← ba_len]; exact l2) d1 d3 b1 b3 e1 e2 rfl
  · exact topNumbers_odd m p b a z wd pr k x w hb h hT
end Go.Proofs.YtmceakbjholjpaaGreatDoor

namespace Go.Proofs.YtmceakbjholjpaaGreatDoor
open Go Go.ChangeShapes Go.WideShapes Go.RowKit Go.Deep Go.WideElems Go.Maps Go.Joins

variable {H : Type} {enc : TypeId × Value → H} {P : Program} {w : World} {base : Nat} {spare : Nat → Bool} {held : Bool}
theorem array8 {α : Type} {cs : Array α} (h : cs.size = 8) : ∃ c0 c1 c2 c3 c4 c5 c6 c7, cs = #[c0, c1, c2, c3, c4, c5, c6, c7] := by
  obtain ⟨l⟩ := cs
  match l, h with
  | [c0, c1, c2, c3, c4, c5, c6, c7], _ => exact ⟨c0, c1, c2, c3, c4, c5, c6, c7, rfl⟩
theorem trod_struct8 {t : TypeId} {f0 f1 f2 f3 f4 f5 f6 f7 : Field} {fuel : Nat} {cs : List Value} {x : DataW H × List MemPlace} (ht : P.underlying t = some (.struct #[f0, f1, f2, f3, f4, f5, f6, f7])) (h : DataW.trod enc P w base spare held fuel t cs = some x) :
    ∃ y0 y1 y2 y3 y4 y5 y6 y7 n, x = (.agg [y0.1, y1.1, y2.1, y3.1, y4.1, y5.1, y6.1, y7.1], y0.2 ++ (y1.2 ++ (y2.2 ++ (y3.2 ++ (y4.2 ++ (y5.2 ++ (y6.2 ++ y7.2))))))) ∧ cs.length = P.cellsOf t ∧ DataW.trod enc P w base spare held n f0.type ((cs.drop f0.offset).take (P.cellsOf f0.type)) = some y0 ∧ DataW.trod enc P w base spare held n f1.type ((cs.drop f1.offset).take (P.cellsOf f1.type)) = some y1 ∧ DataW.trod enc P w base spare held n f2.type ((cs.drop f2.offset).take (P.cellsOf f2.type)) = some y2 ∧ DataW.trod enc P w base spare held n f3.type ((cs.drop f3.offset).take (P.cellsOf f3.type)) = some y3 ∧ DataW.trod enc P w base spare held n f4.type ((cs.drop f4.offset).take (P.cellsOf f4.type)) = some y4 ∧ DataW.trod enc P w base spare held n f5.type ((cs.drop f5.offset).take (P.cellsOf f5.type)) = some y5 ∧ DataW.trod enc P w base spare held n f6.type ((cs.drop f6.offset).take (P.cellsOf f6.type)) = some y6 ∧ DataW.trod enc P w base spare held n f7.type ((cs.drop f7.offset).take (P.cellsOf f7.type)) = some y7 := by
  obtain ⟨xs, n, _, rfl, hl, hlen, hf⟩ := DataW.trod_struct ht h
  match xs, hlen with
  | [y0, y1, y2, y3, y4, y5, y6, y7], _ => exact ⟨y0, y1, y2, y3, y4, y5, y6, y7, n, by simp, hl, by simpa using hf 0 f0 rfl, by simpa using hf 1 f1 rfl, by simpa using hf 2 f2 rfl, by simpa using hf 3 f3 rfl, by simpa using hf 4 f4 rfl, by simpa using hf 5 f5 rfl, by simpa using hf 6 f6 rfl, by simpa using hf 7 f7 rfl⟩
theorem trod_struct8_mk {t : TypeId} {f0 f1 f2 f3 f4 f5 f6 f7 : Field} {n : Nat} {cs : List Value} {y0 y1 y2 y3 y4 y5 y6 y7 : DataW H × List MemPlace} (ht : P.underlying t = some (.struct #[f0, f1, f2, f3, f4, f5, f6, f7])) (hl : cs.length = P.cellsOf t)
    (h0 : DataW.trod enc P w base spare held n f0.type ((cs.drop f0.offset).take (P.cellsOf f0.type)) = some y0) (h1 : DataW.trod enc P w base spare held n f1.type ((cs.drop f1.offset).take (P.cellsOf f1.type)) = some y1) (h2 : DataW.trod enc P w base spare held n f2.type ((cs.drop f2.offset).take (P.cellsOf f2.type)) = some y2) (h3 : DataW.trod enc P w base spare held n f3.type ((cs.drop f3.offset).take (P.cellsOf f3.type)) = some y3) (h4 : DataW.trod enc P w base spare held n f4.type ((cs.drop f4.offset).take (P.cellsOf f4.type)) = some y4) (h5 : DataW.trod enc P w base spare held n f5.type ((cs.drop f5.offset).take (P.cellsOf f5.type)) = some y5) (h6 : DataW.trod enc P w base spare held n f6.type ((cs.drop f6.offset).take (P.cellsOf f6.type)) = some y6) (h7 : DataW.trod enc P w base spare held n f7.type ((cs.drop f7.offset).take (P.cellsOf f7.type)) = some y7) :
    DataW.trod enc P w base spare held (n + 1) t cs = some (.agg [y0.1, y1.1, y2.1, y3.1, y4.1, y5.1, y6.1, y7.1], y0.2 ++ (y1.2 ++ (y2.2 ++ (y3.2 ++ (y4.2 ++ (y5.2 ++ (y6.2 ++ y7.2))))))) := by
  have := trod_struct_mk (enc := enc) (w := w) (base := base) (spare := spare) (held := held) (n := n) (xs := [y0, y1, y2, y3, y4, y5, y6, y7]) ht hl (by simp [h0, h1, h2, h3, h4, h5, h6, h7])
  simpa using this
theorem open_agg8 {r : Reach} {b0 : Nat} {t : TypeId} {f0 f1 f2 f3 f4 f5 f6 f7 : Field} {v : Value} {d : DataW H} {p : List MemPlace} (hs : P.underlying t = some (.struct #[f0, f1, f2, f3, f4, f5, f6, f7])) (hone : oneCellFields P #[f0, f1, f2, f3, f4, f5, f6, f7] = true) (hC : P.cellsOf t = 8)
    (hv : Value.okWide P w r b0 t v) (h : DataW.Trod enc P w base spare held t v d p) :
    ∃ (v0 v1 v2 v3 v4 v5 v6 v7 : Value) (y0 y1 y2 y3 y4 y5 y6 y7 : DataW H × List MemPlace) (n : Nat), v = .agg #[v0, v1, v2, v3, v4, v5, v6, v7] ∧ d = .agg [y0.1, y1.1, y2.1, y3.1, y4.1, y5.1, y6.1, y7.1] ∧ p = y0.2 ++ (y1.2 ++ (y2.2 ++ (y3.2 ++ (y4.2 ++ (y5.2 ++ (y6.2 ++ y7.2)))))) ∧
      DataW.trod enc P w base spare held n f0.type [v0] = some y0 ∧ DataW.trod enc P w base spare held n f1.type [v1] = some y1 ∧ DataW.trod enc P w base spare held n f2.type [v2] = some y2 ∧ DataW.trod enc P w base spare held n f3.type [v3] = some y3 ∧ DataW.trod enc P w base spare held n f4.type [v4] = some y4 ∧ DataW.trod enc P w base spare held n f5.type [v5] = some y5 ∧ DataW.trod enc P w base spare held n f6.type [v6] = some y6 ∧ DataW.trod enc P w base spare held n f7.type [v7] = some y7 := by
  obtain ⟨cs, rfl, hsz⟩ := okWide_struct hs hv
  obtain ⟨c0, c1, c2, c3, c4, c5, c6, c7, rfl⟩ := array8 (hsz.trans hC)
  obtain ⟨fuel, hf⟩ := h
  obtain ⟨y0, y1, y2, y3, y4, y5, y6, y7, n, hx, _, h0, h1, h2, h3, h4, h5, h6, h7⟩ := trod_struct8 hs hf
  obtain ⟨o0, k0⟩ := hone_of hone 0 f0 rfl
  obtain ⟨o1, k1⟩ := hone_of hone 1 f1 rfl
  obtain ⟨o2, k2⟩ := hone_of hone 2 f2 rfl
  obtain ⟨o3, k3⟩ := hone_of hone 3 f3 rfl
  obtain ⟨o4, k4⟩ := hone_of hone 4 f4 rfl
  obtain ⟨o5, k5⟩ := hone_of hone 5 f5 rfl
  obtain ⟨o6, k6⟩ := hone_of hone 6 f6 rfl
  obtain ⟨o7, k7⟩ := hone_of hone 7 f7 rfl
  simp only [Prod.mk.injEq] at hx
  exact ⟨c0, c1, c2, c3, c4, c5, c6, c7, y0, y1, y2, y3, y4, y5, y6, y7, n, rfl, hx.1, hx.2, by simpa [Value.cells, o0, k0] using h0, by simpa [Value.cells, o1, k1] using h1, by simpa [Value.cells, o2, k2] using h2, by simpa [Value.cells, o3, k3] using h3, by simpa [Value.cells, o4, k4] using h4, by simpa [Value.cells, o5, k5] using h5, by simpa [Value.cells, o6, k6] using h6, by simpa [Value.cells, o7, k7] using h7⟩
theorem shut_agg8 {t : TypeId} {f0 f1 f2 f3 f4 f5 f6 f7 : Field} {v0 v1 v2 v3 v4 v5 v6 v7 : Value} {y0 y1 y2 y3 y4 y5 y6 y7 : DataW H × List MemPlace} (hs : P.underlying t = some (.struct #[f0, f1, f2, f3, f4, f5, f6, f7])) (hone : oneCellFields P #[f0, f1, f2, f3, f4, f5, f6, f7] = true) (hC : P.cellsOf t = 8)
    (t0 : ∃ n, DataW.trod enc P w base spare held n f0.type [v0] = some y0) (t1 : ∃ n, DataW.trod enc P w base spare held n f1.type [v1] = some y1) (t2 : ∃ n, DataW.trod enc P w base spare held n f2.type [v2] = some y2) (t3 : ∃ n, DataW.trod enc P w base spare held n f3.type [v3] = some y3) (t4 : ∃ n, DataW.trod enc P w base spare held n f4.type [v4] = some y4) (t5 : ∃ n, DataW.trod enc P w base spare held n f5.type [v5] = some y5) (t6 : ∃ n, DataW.trod enc P w base spare held n f6.type [v6] = some y6) (t7 : ∃ n, DataW.trod enc P w base spare held n f7.type [v7] = some y7) :
    DataW.Trod enc P w base spare held t (.agg #[v0, v1, v2, v3, v4, v5, v6, v7]) (.agg [y0.1, y1.1, y2.1, y3.1, y4.1, y5.1, y6.1, y7.1]) (y0.2 ++ (y1.2 ++ (y2.2 ++ (y3.2 ++ (y4.2 ++ (y5.2 ++ (y6.2 ++ y7.2))))))) := by
  obtain ⟨n0, t0⟩ := t0
  obtain ⟨n1, t1⟩ := t1
  obtain ⟨n2, t2⟩ := t2
  obtain ⟨n3, t3⟩ := t3
  obtain ⟨n4, t4⟩ := t4
  obtain ⟨n5, t5⟩ := t5
  obtain ⟨n6, t6⟩ := t6
  obtain ⟨n7, t7⟩ := t7
  obtain ⟨o0, k0⟩ := hone_of hone 0 f0 rfl
  obtain ⟨o1, k1⟩ := hone_of hone 1 f1 rfl
  obtain ⟨o2, k2⟩ := hone_of hone 2 f2 rfl
  obtain ⟨o3, k3⟩ := hone_of hone 3 f3 rfl
  obtain ⟨o4, k4⟩ := hone_of hone 4 f4 rfl
  obtain ⟨o5, k5⟩ := hone_of hone 5 f5 rfl
  obtain ⟨o6, k6⟩ := hone_of hone 6 f6 rfl
  obtain ⟨o7, k7⟩ := hone_of hone 7 f7 rfl
  obtain ⟨m, hm⟩ : ∃ m, m = n0 + n1 + n2 + n3 + n4 + n5 + n6 + n7 := ⟨_, rfl⟩
  have ts := trod_struct8_mk (enc := enc) (w := w) (base := base) (spare := spare) (held := held) (n := m) (cs := [v0, v1, v2, v3, v4, v5, v6, v7]) hs (by simp [hC])
    (by simpa [o0, k0] using DataW.trod_le (show n0 ≤ m by omega) t0) (by simpa [o1, k1] using DataW.trod_le (show n1 ≤ m by omega) t1) (by simpa [o2, k2] using DataW.trod_le (show n2 ≤ m by omega) t2) (by simpa [o3, k3] using DataW.trod_le (show n3 ≤ m by omega) t3) (by simpa [o4, k4] using DataW.trod_le (show n4 ≤ m by omega) t4) (by simpa [o5, k5] using DataW.trod_le (show n5 ≤ m by omega) t5) (by simpa [o6, k6] using DataW.trod_le (show n6 ≤ m by omega) t6) (by simpa [o7, k7] using DataW.trod_le (show n7 ≤ m by omega) t7)
  exact ⟨_, by simpa [Value.cells] using ts⟩
end Go.Proofs.YtmceakbjholjpaaGreatDoor
