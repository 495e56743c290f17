/- Several texts in one (Contracts of layer 6: values made, and what they count as; Contracts of layer 1: the bytes of a code, in the program and in the definition; Plain arithmetic of layer 1: the character at a place of a string; Plain arithmetic of layer 1: the places at which the characters of a string begin; Contracts of layer 1: All, the iterator over a string's characters; Contracts of layer 1: Len, recase, Lower, Upper; Contracts of layer 1: recase; Layer 1: the law UstrAll, walked; Contracts of layer 6: a value that came in; what a value counts as; values compared; Contracts of layer 6: values as strings; values compared; Contracts of layer 6: values compared as strings; truth; Contracts of layer 6: truth; may a value be; The example of layer 6's laws; the law CellNames; The walk of the law CellTexts; The definition of layer 4: value at any digits; plain: a numeral by its places). -/
import Derived.Test.YtmceakbjholjpaaGreatDoorRows
import Derived.WalkKit
import Derived.WalkSpells
import Derived.WalkLawsBesides
import Derived.Lib.Hide
import Derived.Test.YtmceakbjholjpaaGreatDoorShelf
import Derived.Lib.DecodeN
import Derived.Shelf.Unicode.DecodeSlow
import Derived.Lib.RuneCount
import Derived.RangeFuncNested
import Derived.RangeFuncBound
import Derived.RangeFuncCalls
import Derived.RangeFuncLeaves
import Derived.Shelf.Abstract
import Derived.Shelf.RegionOpen
import Derived.OwnWalkIn
import Derived.TacticsInMore
import Derived.LoopNIn
import Derived.LoopIn
import Derived.Lib.RuneCountTail
import Derived.Lib.LazyBuf
import Derived.Deep.Upon
import Derived.WalkSmall
import Derived.BigQuiet
import Derived.Deep.QuietTactic
import Derived.Test.YtmceakbjholjpaaGreatDoorPk6
import Derived.Test.YtmceakbjholjpaaGreatDoorPk9
import Derived.Test.YtmceakbjholjpaaGreatDoorPk10
namespace Go.Proofs.YtmceakbjholjpaaGreatDoor
open Go.RowKit Go.Lib

set_option maxRecDepth 100000 in
theorem clone_str (s : ByteArray) (w : World) (hs : s.size ≤ 4194304) : Calls Tryz.prog 48 #[.string s] w fun e w' => e = .returned (.string s) ∧ Below w.heap.size w w' := by
  have C := Lib.hid (Tryz.stringslite_Clone s w (by omega))
  go_enter Tryz.func48, Tryz.ntmps48
  go_wp2_with fail
  refine C.out.mono ?_
  rintro e w' ⟨rfl, hB⟩
  go_wp2_with fail
  go_ret
  exact ⟨rfl, hB⟩
theorem end3 {w W : World} {B : Nat} {t : TypeId} {a0 a1 a2 : Value} (v0 v1 v2 : Value) (F : Five W B #[a0, a1, a2] t) (h : Below w.heap.size w W) (hB : w.heap.size ≤ B) :
    Five (((W.setCell ⟨B, 0, none⟩ v0).setCell ⟨B, 1, none⟩ v1).setCell ⟨B, 2, none⟩ v2) B #[v0, v1, v2] t ∧ Below w.heap.size w (((W.setCell ⟨B, 0, none⟩ v0).setCell ⟨B, 1, none⟩ v1).setCell ⟨B, 2, none⟩ v2) :=
  ⟨((F.set (j := 0) (u := v0)).set (j := 1) (u := v1)).set (j := 2) (u := v2), ((h.setCell (p := ⟨B, 0, none⟩) hB _).setCell (p := ⟨B, 1, none⟩) hB _).setCell (p := ⟨B, 2, none⟩) hB _⟩
theorem run_store_float (a : Addr) (n : Nat) (m : Mode) (w : World) : (store a (.float .f64 n) m).run Tryz.prog w = stored Tryz.prog w a (.float .f64 n) m := run_store _ w a _ m rfl
set_option maxRecDepth 100000 in
theorem cOf_any (x : Nat) (w : World) : Calls Tryz.prog 38 #[.float .f64 x] w fun e w' => e = .returned (.agg #[.int .i64 1, .float .f64 x, .string ⟨#[]⟩]) ∧ Below w.heap.size w w' := by
  have F := Lib.hid (Five.new w #[.int .i64 0, .float .f64 0, .string ⟨#[]⟩] 52)
  have HB := Lib.hid ((Below.refl w.heap.size w).alloc (Nat.le_refl _) (.cells #[.int .i64 0, .float .f64 0, .string ⟨#[]⟩] 52))
  obtain ⟨q0, q1, q2, r0, r1, r2⟩ := F.out.three
  have hst := run_store_float
  go_enter Tryz.func38, Tryz.ntmps38
  go_wp2_with fail
  exact bodyPost_ret (v := .agg #[.int .i64 1, .float .f64 x, .string ⟨#[]⟩]) (by simp [results, Tryz.results38, go_sem]) rfl ⟨rfl, (Below.refl w.heap.size w).alloc (Nat.le_refl _) _⟩
set_option maxRecDepth 100000 in
theorem cText_any (s : ByteArray) (w : World) (hs : s.size ≤ 4194304) : Calls Tryz.prog 27 #[.string s] w fun e w' => e = .returned (.agg #[.int .i64 2, .float .f64 0, .string s]) ∧ Below w.heap.size w w' := by
  have F := Five.new w #[.int .i64 0, .float .f64 0, .string ⟨#[]⟩] 52
  have hb := (Below.refl w.heap.size w).alloc (Nat.le_refl _) (.cells #[.int .i64 0, .float .f64 0, .string ⟨#[]⟩] 52)
  have C := Lib.hid (fun W => clone_str s W hs)
  obtain ⟨W1, hW1⟩ : ∃ W1, w.alloc (.cells #[.int .i64 0, .float .f64 0, .string ⟨#[]⟩] 52) = W1 := ⟨_, rfl⟩
  rw [hW1] at F hb
  have HW1 := Lib.hid hW1
  have F := Lib.hid F
  have HB := Lib.hid hb
  clear hW1 hb
  go_enter Tryz.func27, Tryz.ntmps27
  go_wp2_with fail
  change Calls _ _ _ (w.alloc (.cells #[.int .i64 0, .float .f64 0, .string ⟨#[]⟩] 52)) _
  rw [HW1.out]
  refine (C.out _).mono ?_
  rintro e W2 ⟨rfl, h2⟩
  have F2 := Lib.hid (F.out.below h2)
  have HB2 := Lib.hid (HB.out.trans (h2.mono HB.out.size))
  clear h2
  obtain ⟨q0, q1, q2, r0, r1, r2⟩ := F2.out.three
  have hst := run_store_float
  go_wp2_with fail
  clear q0 q1 q2 r0 r1 r2
  obtain ⟨z, hz⟩ := end3 (.int .i64 2) (.float .f64 0) (.string s) F2.out HB2.out (Nat.le_refl _)
  obtain ⟨q0, q1, q2, -⟩ := z.three
  exact bodyPost_ret (v := .agg #[.int .i64 2, .float .f64 0, .string s]) (by simp [results, Tryz.results27, go_sem, q0, q1, q2]) rfl ⟨rfl, hz⟩
/-- The float nearest to a fraction. -/
noncomputable def nearR (X D : Nat) : Nat := @dite _ (∃ r, Near X D r) (Classical.propDecidable _) (fun h => Classical.choose h) (fun _ => 0)
theorem nearR_of {X D r : Nat} (hD : 0 < D) (h : Near X D r) : nearR X D = r := by
  unfold nearR
  have he : ∃ r, Near X D r := ⟨r, h⟩
  rw [dif_pos he]
  exact (Classical.choose_spec he).uniq hD hD rfl h
/-- The number that a text begins with. -/
noncomputable def preN (l : List UInt8) : Nat := turned (sigL l).1 (nearR (2 * (pv ((sigL l).2.1 ++ (sigL l).2.2.1) * 10 ^ ((sigL l).2.2.2.1 - ((sigL l).2.2.1.length : Int)).toNat) * S1074) (10 ^ (-((sigL l).2.2.2.1 - ((sigL l).2.2.1.length : Int))).toNat))
theorem prefix_val (s : ByteArray) (w : World) (hs : s.size ≤ 4194304) : Calls Tryz.prog 20 #[.string s] w fun e w' => e = .returned (.tuple #[.float .f64 (preN s.data.toList), .int .i64 (sigL s.data.toList).2.2.2.2]) ∧ Below w.heap.size w w' := by
  obtain ⟨b, X1, X2, xe, z, hX⟩ : ∃ b X1 X2 xe z, sigL s.data.toList = (b, X1, X2, xe, z) := ⟨_, _, _, _, _, rfl⟩
  refine (prefix_any s w hs b X1 X2 xe z hX).mono ?_
  rintro e w' ⟨r, rfl, hN, hB⟩
  refine ⟨?_, hB⟩
  unfold preN
  rw [hX]
  simp only
  rw [nearR_of (Nat.pow_pos (by omega)) hN.out]
theorem turned_lt (b : Bool) {r : Nat} (h : r < 9223372036854775808) : turned b r < 18446744073709551616 := by
  unfold turned
  cases b with
  | true => rw [if_pos rfl, neg_pos h]; omega
  | false => rw [if_neg (by decide)]; omega
end Go.Proofs.YtmceakbjholjpaaGreatDoor

namespace Go.Proofs.YtmceakbjholjpaaGreatDoor
open Go.RowKit Go.Lib

/-- The bytes of a code. -/
def textB (c : Int) : ByteArray :=
  if 1114112 ≤ c ∧ c < 1114368 then ⟨#[UInt8.ofNat (c - 1114112).toNat]⟩ else if Lib.validRune c then Utf8.encode c else ⟨#[]⟩
end Go.Proofs.YtmceakbjholjpaaGreatDoor

namespace Go.Proofs.YtmceakbjholjpaaGreatDoor
open Go.Lib

/-- The character at byte i of s: its code and how many bytes it has. -/
def chN (n b0 b1 b2 b3 : Nat) : Nat × Nat := if decodeN n b0 b1 b2 b3 = (65533, 1) then (1114112 + b0, 1) else decodeN n b0 b1 b2 b3
def chS (s : ByteArray) (i : Nat) : Nat × Nat := chN (s.size - i) (s.get! i).toNat (s.get! (i + 1)).toNat (s.get! (i + 2)).toNat (s.get! (i + 3)).toNat

/-- What Next answers. -/
def nextZ (s : ByteArray) (i : Int) (b : Bool) : Nat × Nat :=
  if i < 0 ∨ (s.size : Int) ≤ i then (0, 0) else if b then ((s.get! i.toNat).toNat, 1) else chS s i.toNat


theorem get!_lt (s : ByteArray) (i : Nat) (h : i < s.size) : s[i] = s.get! i := (Utf8W.get!_of_lt s i h).symm

theorem get!_lt256 (s : ByteArray) (i : Nat) : (s.get! i).toNat < 256 := by
  have := UInt8.toNat_lt (s.get! i)
  omega
/-! What 'size' reckons is what the library decodes. -/
end Go.Proofs.YtmceakbjholjpaaGreatDoor

namespace Go.Proofs.YtmceakbjholjpaaGreatDoor
open Go.Lib

/-- How many bytes the character at a place has (0 past the end). -/
def wid (s : ByteArray) (b : Bool) (i : Nat) : Nat := (nextZ s (i : Int) b).2
def uCod (s : ByteArray) (b : Bool) (i : Nat) : Nat := (nextZ s (i : Int) b).1
/-- The place of the k-th character (from 0 on), or the length. -/
def pl (s : ByteArray) (b : Bool) : Nat → Nat
  | 0 => 0
  | k + 1 => pl s b k + wid s b (pl s b k)

end Go.Proofs.YtmceakbjholjpaaGreatDoor

namespace Go.Proofs.YtmceakbjholjpaaGreatDoor
open Go.RowKit Go.Lib Go.Shelf
attribute [local go_sem] Oper.semAt_some

end Go.Proofs.YtmceakbjholjpaaGreatDoor

namespace Go.Proofs.YtmceakbjholjpaaGreatDoor
open Go.RowKit Go.Lib Go.Shelf
attribute [local go_sem] Oper.semAt_some

/-- What stands for the k-th character when its code is changed by f. -/
def piece (s : ByteArray) (b : Bool) (f : Int → Int) (k : Nat) : List UInt8 :=
  if f (uCod s b (pl s b k)) = uCod s b (pl s b k) then (s.data.toList.drop (pl s b k)).take (wid s b (pl s b k)) else (textB (f (uCod s b (pl s b k)))).data.toList
end Go.Proofs.YtmceakbjholjpaaGreatDoor

namespace Go.Proofs.YtmceakbjholjpaaGreatDoor
open Go.RowKit Go.Lib Go.Shelf
attribute [local go_sem] Oper.semAt_some

end Go.Proofs.YtmceakbjholjpaaGreatDoor

namespace Go.Proofs.YtmceakbjholjpaaGreatDoor
open Go.RowKit Go.Lib Go.Shelf
attribute [local go_sem] Oper.semAt_some

end Go.Proofs.YtmceakbjholjpaaGreatDoor

namespace Go.Proofs.YtmceakbjholjpaaGreatDoor
open Go.RowKit Go.Lib

set_option maxRecDepth 100000 in
set_option maxHeartbeats 4000000 in
theorem cInput_any (s : ByteArray) (v : Bool) (x : Nat) (w : World) (hs : s.size ≤ 4194304) (hv : looksL s.data.toList = v) (hx : preN s.data.toList = x) : Calls Tryz.prog 26 #[.string s] w fun e w' => e = .returned (.agg #[.int .i64 (if v = true then 3 else 2), .float .f64 (if v = true then x else 0), .string s]) ∧ Below w.heap.size w w' := by
  have hst := run_store_float
  have F := Five.new w #[.int .i64 0, .float .f64 0, .string ⟨#[]⟩] 52
  have hb := (Below.refl w.heap.size w).alloc (Nat.le_refl _) (.cells #[.int .i64 0, .float .f64 0, .string ⟨#[]⟩] 52)
  have C := Lib.hid (fun W => cText_any s W hs)
  have cL := fun W => looks_any s W hs
  rw [hv] at cL
  have CL := Lib.hid cL
  have cP := fun W => prefix_val s W hs
  rw [hx] at cP
  obtain ⟨zz, hzz⟩ : ∃ zz, (sigL s.data.toList).2.2.2.2 = zz := ⟨_, rfl⟩
  rw [hzz] at cP
  have CP := Lib.hid cP
  obtain ⟨W1, hW1⟩ : ∃ W1, w.alloc (.cells #[.int .i64 0, .float .f64 0, .string ⟨#[]⟩] 52) = W1 := ⟨_, rfl⟩
  rw [hW1] at F hb
  have HW1 := Lib.hid hW1
  have F := Lib.hid F
  have HB := Lib.hid hb
  clear hW1 hb cL cP hv hx hzz
  go_enter Tryz.func26, Tryz.ntmps26
  go_wp2_with fail
  change Calls _ _ _ (w.alloc (.cells #[.int .i64 0, .float .f64 0, .string ⟨#[]⟩] 52)) _
  rw [HW1.out]
  refine (C.out _).mono ?_
  rintro e W2 ⟨rfl, h2⟩
  have F2 := Lib.hid ((F.out.below h2).alloc (.cells #[.int .i64 2, .float .f64 0, .string s] 52))
  have b2 := (HB.out.trans (h2.mono HB.out.size))
  have HB2 := Lib.hid (b2.alloc b2.size (.cells #[.int .i64 2, .float .f64 0, .string s] 52))
  have FC := Lib.hid (Five.new W2 #[.int .i64 2, .float .f64 0, .string s] 52)
  have hlt : w.heap.size < W2.heap.size := (F.out.below h2).lt
  obtain ⟨g, hg⟩ : ∃ g, W2.heap.size = g := ⟨_, rfl⟩
  obtain ⟨W3, hW3⟩ : ∃ W3, W2.alloc (.cells #[.int .i64 2, .float .f64 0, .string s] 52) = W3 := ⟨_, rfl⟩
  rw [hW3] at F2 HB2 FC
  rw [hg] at FC hlt
  have HW3 := Lib.hid hW3
  have HG := Lib.hid hg
  clear h2 b2 hW3 hg F HB
  have hlt3 : W3.heap.size = W3.heap.size := rfl
  clear hlt3
  have n1 : ¬ w.heap.size = g := by omega
  have n2 : ¬ g = w.heap.size := by omega
  have HLT := Lib.hid hlt
  clear hlt
  go_wp2_with fail
  change Calls _ _ _ (W2.alloc (.cells #[.int .i64 2, .float .f64 0, .string s] 52)) _
  rw [HW3.out, HG.out]
  refine (CL.out _).mono ?_
  rintro e W4 ⟨rfl, h4⟩
  have F4 := Lib.hid (F2.out.below h4)
  have FC4 := Lib.hid (FC.out.below h4)
  have HB4 := Lib.hid (HB2.out.trans (h4.mono HB2.out.size))
  clear h4 F2 FC HB2
  cases v with
  | false =>
    obtain ⟨q0, q1, q2, r0, r1, r2⟩ := F4.out.three
    obtain ⟨s0, s1, s2, -⟩ := FC4.out.three
    go_wp2_with fail
    clear q0 q1 q2 r0 r1 r2 s0 s1 s2
    obtain ⟨z, hz⟩ := end3 (.int .i64 2) (.float .f64 0) (.string s) F4.out HB4.out (Nat.le_refl _)
    obtain ⟨q0, q1, q2, -⟩ := z.three
    exact bodyPost_ret (v := .agg #[.int .i64 2, .float .f64 0, .string s]) (by simp [results, Tryz.results26, go_sem, q0, q1, q2]) rfl ⟨rfl, hz⟩
  | true =>
    have s0 := FC4.out.cell 0
    have t0 := FC4.out.fro 0
    go_wp2_with fail
    clear s0 t0
    have FC5 := Lib.hid (show Five (W4.setCell ⟨g, 0, none⟩ (.int .i64 3)) g #[.int .i64 3, .float .f64 0, .string s] 52 from FC4.out.set (j := 0) (u := .int .i64 3))
    have F5 := Lib.hid (F4.out.other (j := 0) (u := .int .i64 3) n1)
    have HB5 := Lib.hid (HB4.out.setCell (p := ⟨g, 0, none⟩) (Nat.le_of_lt HLT.out) (.int .i64 3))
    obtain ⟨W5, hW5⟩ : ∃ W5, W4.setCell ⟨g, 0, none⟩ (.int .i64 3) = W5 := ⟨_, rfl⟩
    rw [hW5] at FC5 F5 HB5 ⊢
    clear hW5 FC4 F4 HB4
    refine (CP.out _).mono ?_
    rintro e W6 ⟨rfl, h6⟩
    have F6 := Lib.hid (F5.out.below h6)
    have FC6 := Lib.hid (FC5.out.below h6)
    have HB6 := Lib.hid (HB5.out.trans (h6.mono HB5.out.size))
    clear h6 F5 FC5 HB5
    obtain ⟨q0, q1, q2, r0, r1, r2⟩ := F6.out.three
    obtain ⟨s0, s1, s2, t0, t1, t2⟩ := FC6.out.three
    go_wp2_with fail
    clear q0 q1 q2 r0 r1 r2 s0 s1 s2 t0 t1 t2
    have F7 := F6.out.other (j := 1) (u := .float .f64 x) n1
    have HB7 := HB6.out.setCell (p := ⟨g, 1, none⟩) (Nat.le_of_lt HLT.out) (.float .f64 x)
    obtain ⟨z, hz⟩ := end3 (.int .i64 3) (.float .f64 x) (.string s) F7 HB7 (Nat.le_refl _)
    obtain ⟨q0, q1, q2, -⟩ := z.three
    exact bodyPost_ret (v := .agg #[.int .i64 3, .float .f64 x, .string s]) (by simp [results, Tryz.results26, go_sem, q0, q1, q2]) rfl ⟨rfl, hz⟩
/-- A value as a number. -/
noncomputable def numV2 (k : Int) (n : Nat) (s : ByteArray) : Nat := if k = 1 ∨ k = 3 then n else if k = 2 then preN s.data.toList else 0
set_option maxRecDepth 100000 in
set_option maxHeartbeats 4000000 in
theorem cNumber_any (k : Int) (n : Nat) (s : ByteArray) (w : World) (hs : s.size ≤ 4194304) : Calls Tryz.prog 31 #[.agg #[.int .i64 k, .float .f64 n, .string s]] w fun e w' => e = .returned (.float .f64 (numV2 k n s)) ∧ Below w.heap.size w w' := by
  have cP := fun W => prefix_val s W hs
  have F := Five.new w #[.int .i64 k, .float .f64 n, .string s] 52
  have hb := (Below.refl w.heap.size w).alloc (Nat.le_refl _) (.cells #[.int .i64 k, .float .f64 n, .string s] 52)
  unfold numV2
  obtain ⟨x, hx⟩ : ∃ x, preN s.data.toList = x := ⟨_, rfl⟩
  obtain ⟨zz, hzz⟩ : ∃ zz, (sigL s.data.toList).2.2.2.2 = zz := ⟨_, rfl⟩
  rw [hx, hzz] at cP
  rw [hx]
  obtain ⟨y, hy⟩ : ∃ y, (if k = 1 ∨ k = 3 then n else if k = 2 then x else 0) = y := ⟨_, rfl⟩
  rw [hy]
  have HY := Lib.hid hy
  have CP := Lib.hid cP
  have HB := Lib.hid hb
  clear cP hx hzz hy hb F
  have hcase : k = 1 ∨ k = 3 ∨ k = 2 ∨ (k ≠ 1 ∧ k ≠ 3 ∧ k ≠ 2) := by omega
  rcases hcase with rfl | rfl | rfl | ⟨h1, h2, h3⟩
  · go_enter Tryz.func31, Tryz.ntmps31
    go_wp2_with fail
    go_ret
    exact ⟨by rw [← HY.out]; rfl, HB.out⟩
  · go_enter Tryz.func31, Tryz.ntmps31
    go_wp2_with fail
    go_ret
    exact ⟨by rw [← HY.out]; rfl, HB.out⟩
  · go_enter Tryz.func31, Tryz.ntmps31
    go_wp2_with fail
    refine (CP.out _).mono ?_
    rintro e W2 ⟨rfl, h2⟩
    have hBf := HB.out.trans (h2.mono HB.out.size)
    clear h2
    go_wp2_with fail
    go_ret
    exact ⟨by rw [← HY.out]; rfl, hBf⟩
  · have v1 : (k == 1) = false := by rw [beq_eq_false_iff_ne]; exact h1
    have v2 : (k == 3) = false := by rw [beq_eq_false_iff_ne]; exact h2
    have v3 : (k == 2) = false := by rw [beq_eq_false_iff_ne]; exact h3
    have hy0 : y = 0 := by rw [← HY.out, if_neg (by omega), if_neg h3]
    clear h1 h2 h3
    go_enter Tryz.func31, Tryz.ntmps31
    go_wp2_with fail
    go_ret
    exact ⟨by first | rfl | (rw [hy0]; rfl), HB.out⟩
end Go.Proofs.YtmceakbjholjpaaGreatDoor

namespace Go.Proofs.YtmceakbjholjpaaGreatDoor
open Go.RowKit Go.Lib

set_option maxRecDepth 100000 in
set_option maxHeartbeats 4000000 in
theorem written_str (k : Int) (n : Nat) (s P : ByteArray) (w : World) (h : k = 2 ∨ k = 3) : Calls Tryz.prog 64 #[.agg #[.int .i64 k, .float .f64 n, .string s], .string P] w fun e w' => e = .returned (.string s) ∧ Below w.heap.size w w' := by
  have hb := (Below.refl w.heap.size w).alloc (Nat.le_refl _) (.cells #[.int .i64 k, .float .f64 n, .string s] 52)
  have HB := Lib.hid hb
  clear hb
  rcases h with rfl | rfl
  all_goals
    go_enter Tryz.func64, Tryz.ntmps64
    go_wp2_with fail
    go_ret
    exact ⟨rfl, HB.out⟩
set_option maxRecDepth 100000 in
set_option maxHeartbeats 4000000 in
theorem written_none (k : Int) (n : Nat) (s P : ByteArray) (w : World) (h1 : k ≠ 1) (h2 : k ≠ 2) (h3 : k ≠ 3) : Calls Tryz.prog 64 #[.agg #[.int .i64 k, .float .f64 n, .string s], .string P] w fun e w' => e = .returned (.string ⟨#[]⟩) ∧ Below w.heap.size w w' := by
  have hb := (Below.refl w.heap.size w).alloc (Nat.le_refl _) (.cells #[.int .i64 k, .float .f64 n, .string s] 52)
  have HB := Lib.hid hb
  have v1 : (k == 1) = false := by rw [beq_eq_false_iff_ne]; exact h1
  have v2 : (k == 3) = false := by rw [beq_eq_false_iff_ne]; exact h3
  have v3 : (k == 2) = false := by rw [beq_eq_false_iff_ne]; exact h2
  clear hb h1 h2 h3
  go_enter Tryz.func64, Tryz.ntmps64
  go_wp2_with fail
  go_ret
  exact ⟨rfl, HB.out⟩
set_option maxRecDepth 100000 in
set_option maxHeartbeats 4000000 in
theorem written_num (n : Nat) (s P T : ByteArray) (w : World) (hC : ∀ W, PowTab W → Calls Tryz.prog 40 #[.float .f64 n, .string P] W fun e w' => e = .returned (.string T) ∧ Below W.heap.size W w') (hT : PowTab w) : Calls Tryz.prog 64 #[.agg #[.int .i64 1, .float .f64 n, .string s], .string P] w fun e w' => e = .returned (.string T) ∧ Below w.heap.size w w' := by
  have hb := (Below.refl w.heap.size w).alloc (Nat.le_refl _) (.cells #[.int .i64 1, .float .f64 n, .string s] 52)
  have C := Lib.hid (hC _ (Lib.tabBelow_of_tabIs hT _ hb))
  have HB := Lib.hid hb
  clear hb hC hT
  go_enter Tryz.func64, Tryz.ntmps64
  go_wp2_with fail
  refine C.out.mono ?_
  rintro e W2 ⟨rfl, h2⟩
  have hBf := HB.out.trans (h2.mono HB.out.size)
  clear h2
  go_wp2_with fail
  go_ret
  exact ⟨rfl, hBf⟩
/-- A value as a string, by a pattern that makes T of its number. -/
def wrT (k : Int) (s T : ByteArray) : ByteArray := if k = 1 then T else if k = 2 ∨ k = 3 then s else ⟨#[]⟩
theorem written_any (k : Int) (n : Nat) (s P T : ByteArray) (w : World) (hC : k = 1 → ∀ W, PowTab W → Calls Tryz.prog 40 #[.float .f64 n, .string P] W fun e w' => e = .returned (.string T) ∧ Below W.heap.size W w') (hT : PowTab w) : Calls Tryz.prog 64 #[.agg #[.int .i64 k, .float .f64 n, .string s], .string P] w fun e w' => e = .returned (.string (wrT k s T)) ∧ Below w.heap.size w w' := by
  unfold wrT
  by_cases h1 : k = 1
  · subst h1
    rw [if_pos rfl]
    exact written_num n s P T w (hC rfl) hT
  · rw [if_neg h1]
    by_cases h2 : k = 2 ∨ k = 3
    · rw [if_pos h2]
      exact written_str k n s P w h2
    · rw [if_neg h2]
      exact written_none k n s P w h1 (by omega) (by omega)
set_option maxRecDepth 100000 in
set_option maxHeartbeats 4000000 in
theorem cString_any (k : Int) (n : Nat) (s P T : ByteArray) (w : World) (hC : k = 1 → ∀ W, PowTab W → Calls Tryz.prog 40 #[.float .f64 n, .string P] W fun e w' => e = .returned (.string T) ∧ Below W.heap.size W w') (hT : PowTab w) (hs : (wrT k s T).size ≤ 4194304) : Calls Tryz.prog 29 #[.agg #[.int .i64 k, .float .f64 n, .string s], .string P] w fun e w' => e = .returned (.string (wrT k s T)) ∧ Below w.heap.size w w' := by
  have C := Lib.hid (fun (W : World) (hW : PowTab W) => written_any k n s P T W hC hW)
  have CC := Lib.hid (fun W => clone_str (wrT k s T) W hs)
  have HT := Lib.hid (Lib.tabBelow_of_tabIs hT)
  obtain ⟨X, hX⟩ : ∃ X, wrT k s T = X := ⟨_, rfl⟩
  have C := C.out
  have CC := CC.out
  rw [hX] at C CC ⊢
  have C := Lib.hid C
  have CC := Lib.hid CC
  clear hX hC hT hs
  have HB := Lib.hid ((Below.refl w.heap.size w).alloc (Nat.le_refl _) (.cells #[.int .i64 k, .float .f64 n, .string s] 52))
  go_enter Tryz.func29, Tryz.ntmps29
  go_wp2_with fail
  refine (C.out _ (HT.out _ HB.out)).mono ?_
  rintro e W2 ⟨rfl, h2⟩
  have hB2 := HB.out.trans (h2.mono HB.out.size)
  clear h2
  go_wp2_with fail
  refine (CC.out _).mono ?_
  rintro e W3 ⟨rfl, h3⟩
  have hB3 := hB2.trans (h3.mono hB2.size)
  clear h3 hB2
  go_wp2_with fail
  go_ret
  exact ⟨rfl, hB3⟩
/-- Numbers in order, NaN behind all others. -/
def rkB (x : Nat) : Int := if nanB x = true then 1 else 0
def ltB (x y : Nat) : Bool := FloatKind.f64.format.order x y == some .lt
def gtB (x y : Nat) : Bool := FloatKind.f64.format.order x y == some .gt
def cmpN (x y : Nat) : Int := if ltB x y = true then -1 else if gtB x y = true then 1 else rkB x - rkB y
set_option maxRecDepth 100000 in
theorem rank_any (x : Nat) (w : World) : Calls Tryz.prog 102 #[.float .f64 x] w fun e w' => e = .returned (.int .i64 (rkB x)) ∧ w = w' := by
  have cN := fun W => isNaN_any x W
  unfold rkB
  generalize nanB x = v at *
  have CN := Lib.hid cN
  clear cN
  cases v with
  | true =>
    go_enter Tryz.func102, Tryz.ntmps102
    go_wp2_with fail
    refine (CN.out _).mono ?_
    rintro e w' ⟨rfl, rfl⟩
    go_wp2_with fail
    go_ret
    exact ⟨rfl, rfl⟩
  | false =>
    go_enter Tryz.func102, Tryz.ntmps102
    go_wp2_with fail
    refine (CN.out _).mono ?_
    rintro e w' ⟨rfl, rfl⟩
    go_wp2_with fail
    go_ret
    exact ⟨rfl, rfl⟩
set_option maxRecDepth 100000 in
set_option maxHeartbeats 4000000 in
theorem cmpNum_any (x y : Nat) (w : World) : Calls Tryz.prog 62 #[.float .f64 x, .float .f64 y] w fun e w' => e = .returned (.int .i64 (cmpN x y)) ∧ w = w' := by
  have C1 := Lib.hid (fun W => rank_any x W)
  have C2 := Lib.hid (fun W => rank_any y W)
  have hr1 : 0 ≤ rkB x ∧ rkB x ≤ 1 := by unfold rkB; split <;> omega
  have hr2 : 0 ≤ rkB y ∧ rkB y ≤ 1 := by unfold rkB; split <;> omega
  obtain ⟨a, ha⟩ : ∃ a, rkB x = a := ⟨_, rfl⟩
  obtain ⟨b, hb⟩ : ∃ b, rkB y = b := ⟨_, rfl⟩
  have C1 := C1.out
  have C2 := C2.out
  rw [ha] at C1 hr1
  rw [hb] at C2 hr2
  have C1 := Lib.hid C1
  have C2 := Lib.hid C2
  obtain ⟨c, hc⟩ : ∃ c, cmpN x y = c := ⟨_, rfl⟩
  rw [hc]
  unfold cmpN at hc
  rw [ha, hb] at hc
  obtain ⟨v, hv⟩ : ∃ v, ltB x y = v := ⟨_, rfl⟩
  obtain ⟨u, hu⟩ : ∃ u, gtB x y = u := ⟨_, rfl⟩
  rw [hv, hu] at hc
  have hv2 : (FloatKind.f64.format.order x y == some .lt) = v := hv
  have hu2 : (FloatKind.f64.format.order x y == some .gt) = u := hu
  have HC := Lib.hid hc
  obtain ⟨hr1a, hr1b⟩ := hr1
  obtain ⟨hr2a, hr2b⟩ := hr2
  have hwr : IntKind.i64.wrap (a - b) = a - b := by rw [IntKind.wrap_i64]; omega
  have hwr2 : wrap64 (a - b) = a - b := by unfold wrap64; omega
  clear ha hb hc hv hu
  cases v with
  | true =>
    go_enter Tryz.func62, Tryz.ntmps62
    go_wp2_with fail
    go_ret
    exact ⟨by rw [← HC.out]; rfl, rfl⟩
  | false =>
    cases u with
    | true =>
      go_enter Tryz.func62, Tryz.ntmps62
      go_wp2_with fail
      go_ret
      exact ⟨by rw [← HC.out]; rfl, rfl⟩
    | false =>
      go_enter Tryz.func62, Tryz.ntmps62
      go_wp2_with fail
      refine (C1.out _).mono ?_
      rintro e w' ⟨rfl, rfl⟩
      go_wp2_with fail
      refine (C2.out _).mono ?_
      rintro e w' ⟨rfl, rfl⟩
      go_wp2_with fail
      go_ret
      exact ⟨by rw [← HC.out]; rfl, rfl⟩
set_option maxRecDepth 100000 in
set_option maxHeartbeats 8000000 in
theorem cCompare_num (ka kb : Int) (x y : Nat) (s t P : ByteArray) (w : World) (ha : ka ≠ 2) (hb : kb ≠ 2) (hs : s.size ≤ 4194304) (ht : t.size ≤ 4194304) :
    Calls Tryz.prog 25 #[.agg #[.int .i64 ka, .float .f64 x, .string s], .agg #[.int .i64 kb, .float .f64 y, .string t], .string P] w fun e w' => e = .returned (.int .i64 (cmpN (numV2 ka x s) (numV2 kb y t))) ∧ Below w.heap.size w w' := by
  have v1 : (ka != 2) = true := by rw [bne_iff_ne]; exact ha
  have v2 : (kb != 2) = true := by rw [bne_iff_ne]; exact hb
  have v3 : (ka == 2) = false := by rw [beq_eq_false_iff_ne]; exact ha
  have v4 : (kb == 2) = false := by rw [beq_eq_false_iff_ne]; exact hb
  have CA := Lib.hid (fun W => cNumber_any ka x s W hs)
  have CB := Lib.hid (fun W => cNumber_any kb y t W ht)
  have CC := Lib.hid (fun W => cmpNum_any (numV2 ka x s) (numV2 kb y t) W)
  have fA := (Five.new w #[.int .i64 ka, .float .f64 x, .string s] 52).alloc (.cells #[.int .i64 kb, .float .f64 y, .string t] 52)
  have fB := Five.new (w.alloc (.cells #[.int .i64 ka, .float .f64 x, .string s] 52)) #[.int .i64 kb, .float .f64 y, .string t] 52
  have hB0 := ((Below.refl w.heap.size w).alloc (Nat.le_refl _) (.cells #[.int .i64 ka, .float .f64 x, .string s] 52)).alloc (by simp) (.cells #[.int .i64 kb, .float .f64 y, .string t] 52)
  rw [World.size_alloc] at fB
  obtain ⟨B, hB⟩ : ∃ B, w.heap.size = B := ⟨_, rfl⟩
  obtain ⟨W2, hW2⟩ : ∃ W2, (w.alloc (.cells #[.int .i64 ka, .float .f64 x, .string s] 52)).alloc (.cells #[.int .i64 kb, .float .f64 y, .string t] 52) = W2 := ⟨_, rfl⟩
  rw [hW2] at fA fB hB0
  rw [hB] at fA fB hB0 ⊢
  have HB := Lib.hid hB
  have HW2 := Lib.hid hW2
  have hle : B ≤ W2.heap.size := Nat.le_of_lt fA.lt
  have FA := Lib.hid fA
  have FB := Lib.hid fB
  have HB0 := Lib.hid hB0
  have HCW := Lib.hid (fun (W : World) (h : Below W2.heap.size W2 W) => (show W.cell? ⟨B, 0, none⟩ = some (.int .i64 ka) ∧ W.cell? ⟨B, 1, none⟩ = some (.float .f64 x) ∧ W.cell? ⟨B, 2, none⟩ = some (.string s) ∧ W.cell? ⟨B + 1, 0, none⟩ = some (.int .i64 kb) ∧ W.cell? ⟨B + 1, 1, none⟩ = some (.float .f64 y) ∧ W.cell? ⟨B + 1, 2, none⟩ = some (.string t) from ⟨(FA.out.below h).cell 0, (FA.out.below h).cell 1, (FA.out.below h).cell 2, (FB.out.below h).cell 0, (FB.out.below h).cell 1, (FB.out.below h).cell 2⟩))
  obtain ⟨a0, a1, a2, b0, b1, b2⟩ := HCW.out W2 (Below.refl _ _)
  clear ha hb hB hW2 fA fB hB0
  go_enter Tryz.func25, Tryz.ntmps25
  go_wp2_with fail
  rw [HW2.out, HB.out]
  go_region_held3 (fun w' => w'.cell? ⟨B, 0, none⟩ = some (.int .i64 ka) ∧ w'.cell? ⟨B, 1, none⟩ = some (.float .f64 x) ∧ w'.cell? ⟨B, 2, none⟩ = some (.string s) ∧ w'.cell? ⟨B + 1, 0, none⟩ = some (.int .i64 kb) ∧ w'.cell? ⟨B + 1, 1, none⟩ = some (.float .f64 y) ∧ w'.cell? ⟨B + 1, 2, none⟩ = some (.string t))
    (first | (with_reducible exact S3) | (with_reducible exact S2) | (with_reducible exact S1) | go_keep)
    (first
    | (go_at_call 31; (with_reducible refine (CA.out _).mono ?_); rintro e W3 ⟨rfl, h3⟩; have b3 : Below W2.heap.size W2 W3 := ⟨h3.os, h3.tape, h3.output, h3.size, h3.block⟩; have S1 := HCW.out _ b3; clear h3)
    | (go_at_call 31; (with_reducible refine (CB.out _).mono ?_); rintro e W4 ⟨rfl, h4⟩; have b4 : Below W2.heap.size W2 W4 := b3.trans ((⟨h4.os, h4.tape, h4.output, h4.size, h4.block⟩ : Below W3.heap.size W3 W4).mono b3.size); have S2 := HCW.out _ b4; clear h4)
    | (go_at_call 62; (with_reducible refine (CC.out _).mono ?_); rintro e w' ⟨rfl, rfl⟩))
  all_goals
    have hBf := HB0.out.trans (b4.mono hle)
    go_wp2_with fail
    go_ret
    exact ⟨rfl, by first | exact hBf | exact ⟨hBf.os, hBf.tape, hBf.output, hBf.size, hBf.block⟩⟩
end Go.Proofs.YtmceakbjholjpaaGreatDoor

namespace Go.Proofs.YtmceakbjholjpaaGreatDoor
open Go.RowKit Go.Lib

set_option maxRecDepth 100000 in
set_option maxHeartbeats 8000000 in
theorem cCompare_str (ka kb : Int) (x y : Nat) (s t P TA TB : ByteArray) (w : World) (hab : ka = 2 ∨ (ka ≠ 2 ∧ kb = 2)) (hTA : ka = 1 → ∀ W, PowTab W → Calls Tryz.prog 40 #[.float .f64 x, .string P] W fun e w' => e = .returned (.string TA) ∧ Below W.heap.size W w') (hTB : kb = 1 → ∀ W, PowTab W → Calls Tryz.prog 40 #[.float .f64 y, .string P] W fun e w' => e = .returned (.string TB) ∧ Below W.heap.size W w') (hT : PowTab w) :
    Calls Tryz.prog 25 #[.agg #[.int .i64 ka, .float .f64 x, .string s], .agg #[.int .i64 kb, .float .f64 y, .string t], .string P] w fun e w' => e = .returned (.int .i64 (Lib.compareBytes (wrT ka s TA).data.toList (wrT kb t TB).data.toList)) ∧ Below w.heap.size w w' := by
  have CA := Lib.hid (fun (W : World) (hW : PowTab W) => written_any ka x s P TA W hTA hW)
  have CB := Lib.hid (fun (W : World) (hW : PowTab W) => written_any kb y t P TB W hTB hW)
  have CC := Lib.hid (fun W => Tryz.strings_Compare (wrT ka s TA) (wrT kb t TB) W)
  have HT := Lib.hid (Lib.tabBelow_of_tabIs hT)
  have fA := (Five.new w #[.int .i64 ka, .float .f64 x, .string s] 52).alloc (.cells #[.int .i64 kb, .float .f64 y, .string t] 52)
  have fB := Five.new (w.alloc (.cells #[.int .i64 ka, .float .f64 x, .string s] 52)) #[.int .i64 kb, .float .f64 y, .string t] 52
  have hB0 := ((Below.refl w.heap.size w).alloc (Nat.le_refl _) (.cells #[.int .i64 ka, .float .f64 x, .string s] 52)).alloc (by simp) (.cells #[.int .i64 kb, .float .f64 y, .string t] 52)
  rw [World.size_alloc] at fB
  obtain ⟨B, hB⟩ : ∃ B, w.heap.size = B := ⟨_, rfl⟩
  obtain ⟨W2, hW2⟩ : ∃ W2, (w.alloc (.cells #[.int .i64 ka, .float .f64 x, .string s] 52)).alloc (.cells #[.int .i64 kb, .float .f64 y, .string t] 52) = W2 := ⟨_, rfl⟩
  rw [hW2] at fA fB hB0
  rw [hB] at fA fB hB0 ⊢
  have HB := Lib.hid hB
  have HW2 := Lib.hid hW2
  have hle : B ≤ W2.heap.size := Nat.le_of_lt fA.lt
  have FA := Lib.hid fA
  have FB := Lib.hid fB
  have HB0 := Lib.hid hB0
  have HCW := Lib.hid (fun (W : World) (h : Below W2.heap.size W2 W) => (show W.cell? ⟨B, 0, none⟩ = some (.int .i64 ka) ∧ W.cell? ⟨B, 1, none⟩ = some (.float .f64 x) ∧ W.cell? ⟨B, 2, none⟩ = some (.string s) ∧ W.cell? ⟨B + 1, 0, none⟩ = some (.int .i64 kb) ∧ W.cell? ⟨B + 1, 1, none⟩ = some (.float .f64 y) ∧ W.cell? ⟨B + 1, 2, none⟩ = some (.string t) from ⟨(FA.out.below h).cell 0, (FA.out.below h).cell 1, (FA.out.below h).cell 2, (FB.out.below h).cell 0, (FB.out.below h).cell 1, (FB.out.below h).cell 2⟩))
  obtain ⟨a0, a1, a2, b0, b1, b2⟩ := HCW.out W2 (Below.refl _ _)
  have hTW := fun (W : World) (h : Below W2.heap.size W2 W) => HT.out W (by rw [hB]; exact hB0.trans (h.mono hle))
  have HTW := Lib.hid hTW
  clear hB hW2 fA fB hB0 hTA hTB hT hTW
  obtain ⟨XA, hXA⟩ : ∃ XA, wrT ka s TA = XA := ⟨_, rfl⟩
  obtain ⟨XB, hXB⟩ : ∃ XB, wrT kb t TB = XB := ⟨_, rfl⟩
  rw [hXA, hXB] at CC ⊢
  rw [hXA] at CA
  rw [hXB] at CB
  obtain ⟨R, hR2⟩ : ∃ R, Lib.compareBytes XA.data.toList XB.data.toList = R := ⟨_, rfl⟩
  rw [hR2] at CC ⊢
  clear hR2 hXA hXB
  have hR := Below.refl W2.heap.size W2
  have hcase : (ka = 2) ∨ ((ka != 2) = true ∧ (ka == 2) = false ∧ kb = 2) := by
    rcases hab with h | ⟨h1, h2⟩
    · exact Or.inl h
    · exact Or.inr ⟨by rw [bne_iff_ne]; exact h1, by rw [beq_eq_false_iff_ne]; exact h1, h2⟩
  clear hab
  rcases hcase with rfl | ⟨v1, v2, rfl⟩
  · go_enter Tryz.func25, Tryz.ntmps25
    go_wp2_with fail
    rw [HW2.out, HB.out]
    go_region_held3 (fun w' => w'.cell? ⟨B, 0, none⟩ = some (.int .i64 2) ∧ w'.cell? ⟨B, 1, none⟩ = some (.float .f64 x) ∧ w'.cell? ⟨B, 2, none⟩ = some (.string s) ∧ w'.cell? ⟨B + 1, 0, none⟩ = some (.int .i64 kb) ∧ w'.cell? ⟨B + 1, 1, none⟩ = some (.float .f64 y) ∧ w'.cell? ⟨B + 1, 2, none⟩ = some (.string t))
      (first | (with_reducible exact S3) | (with_reducible exact S2) | (with_reducible exact S1) | go_keep)
      (first
      | (go_at_call 64; (with_reducible refine (CA.out _ (HTW.out _ (by first | exact hR | exact hR.drew | exact below_drewN hR _))).mono ?_); rintro e W3 ⟨rfl, h3⟩; have b3 : Below W2.heap.size W2 W3 := ⟨h3.os, h3.tape, h3.output, h3.size, h3.block⟩; have S1 := HCW.out _ b3; clear h3)
      | (go_at_call 64; (with_reducible refine (CB.out _ (HTW.out _ (by first | exact b3 | exact b3.drew | exact below_drewN b3 _))).mono ?_); rintro e W4 ⟨rfl, h4⟩; have b4 : Below W2.heap.size W2 W4 := b3.trans ((⟨h4.os, h4.tape, h4.output, h4.size, h4.block⟩ : Below W3.heap.size W3 W4).mono b3.size); have S2 := HCW.out _ b4; clear h4)
      | (go_at_call 63; (with_reducible refine (CC.out _).mono ?_); rintro e w' ⟨rfl, rfl⟩))
    all_goals
      have hBf := HB0.out.trans (b4.mono hle)
      go_wp2_with fail
      go_ret
      exact ⟨rfl, by first | exact hBf | exact ⟨hBf.os, hBf.tape, hBf.output, hBf.size, hBf.block⟩⟩
  · go_enter Tryz.func25, Tryz.ntmps25
    go_wp2_with fail
    rw [HW2.out, HB.out]
    go_region_held3 (fun w' => w'.cell? ⟨B, 0, none⟩ = some (.int .i64 ka) ∧ w'.cell? ⟨B, 1, none⟩ = some (.float .f64 x) ∧ w'.cell? ⟨B, 2, none⟩ = some (.string s) ∧ w'.cell? ⟨B + 1, 0, none⟩ = some (.int .i64 2) ∧ w'.cell? ⟨B + 1, 1, none⟩ = some (.float .f64 y) ∧ w'.cell? ⟨B + 1, 2, none⟩ = some (.string t))
      (first | (with_reducible exact S3) | (with_reducible exact S2) | (with_reducible exact S1) | go_keep)
      (first
      | (go_at_call 64; (with_reducible refine (CA.out _ (HTW.out _ (by first | exact hR | exact hR.drew | exact below_drewN hR _))).mono ?_); rintro e W3 ⟨rfl, h3⟩; have b3 : Below W2.heap.size W2 W3 := ⟨h3.os, h3.tape, h3.output, h3.size, h3.block⟩; have S1 := HCW.out _ b3; clear h3)
      | (go_at_call 64; (with_reducible refine (CB.out _ (HTW.out _ (by first | exact b3 | exact b3.drew | exact below_drewN b3 _))).mono ?_); rintro e W4 ⟨rfl, h4⟩; have b4 : Below W2.heap.size W2 W4 := b3.trans ((⟨h4.os, h4.tape, h4.output, h4.size, h4.block⟩ : Below W3.heap.size W3 W4).mono b3.size); have S2 := HCW.out _ b4; clear h4)
      | (go_at_call 63; (with_reducible refine (CC.out _).mono ?_); rintro e w' ⟨rfl, rfl⟩))
    all_goals
      have hBf := HB0.out.trans (b4.mono hle)
      go_wp2_with fail
      go_ret
      exact ⟨rfl, by first | exact hBf | exact ⟨hBf.os, hBf.tape, hBf.output, hBf.size, hBf.block⟩⟩
end Go.Proofs.YtmceakbjholjpaaGreatDoor

namespace Go.Proofs.YtmceakbjholjpaaGreatDoor
open Go.RowKit Go.Lib

/-- Is a float not 0? -/
def nzB (x : Nat) : Bool := FloatKind.f64.format.order x 0 != some .eq
set_option maxRecDepth 100000 in
set_option maxHeartbeats 4000000 in
theorem cTrue_num (k : Int) (n : Nat) (s : ByteArray) (w : World) (h : k = 1 ∨ k = 3) : Calls Tryz.prog 33 #[.agg #[.int .i64 k, .float .f64 n, .string s]] w fun e w' => e = .returned (.bool (nzB n)) ∧ Below w.heap.size w w' := by
  have hz : (FloatKind.f64.format.order n 0 != some .eq) = nzB n := rfl
  have HB := Lib.hid ((Below.refl w.heap.size w).alloc (Nat.le_refl _) (.cells #[.int .i64 k, .float .f64 n, .string s] 52))
  rcases h with rfl | rfl
  all_goals
    go_enter Tryz.func33, Tryz.ntmps33
    go_wp2_with fail
    go_ret
    exact ⟨rfl, HB.out⟩
set_option maxRecDepth 100000 in
set_option maxHeartbeats 4000000 in
theorem cTrue_str (n : Nat) (s : ByteArray) (v : Bool) (w : World) (h : v = !s.data.toList.isEmpty) : Calls Tryz.prog 33 #[.agg #[.int .i64 2, .float .f64 n, .string s]] w fun e w' => e = .returned (.bool v) ∧ Below w.heap.size w w' := by
  have HB := Lib.hid ((Below.refl w.heap.size w).alloc (Nat.le_refl _) (.cells #[.int .i64 2, .float .f64 n, .string s] 52))
  cases hl : s.data.toList with
  | nil =>
    rw [hl] at h
    have h1 : s.toList = [] := by rw [Lib.toList_data]; exact hl
    have hv : v = false := h
    subst hv
    clear h hl
    go_enter Tryz.func33, Tryz.ntmps33
    go_wp2_with fail
    go_ret
    exact ⟨rfl, HB.out⟩
  | cons c t =>
    rw [hl] at h
    have h1 : s.toList.isEmpty = false := by rw [Lib.toList_data, hl]; rfl
    have hv : v = true := h
    subst hv
    clear h hl
    go_enter Tryz.func33, Tryz.ntmps33
    go_wp2_with fail
    go_ret
    exact ⟨rfl, HB.out⟩
set_option maxRecDepth 100000 in
theorem cTrue_none (n : Nat) (s : ByteArray) (w : World) : Calls Tryz.prog 33 #[.agg #[.int .i64 0, .float .f64 n, .string s]] w fun e w' => e = .returned (.bool false) ∧ Below w.heap.size w w' := by
  have HB := Lib.hid ((Below.refl w.heap.size w).alloc (Nat.le_refl _) (.cells #[.int .i64 0, .float .f64 n, .string s] 52))
  go_enter Tryz.func33, Tryz.ntmps33
  go_wp2_with fail
  go_ret
  exact ⟨rfl, HB.out⟩
set_option maxRecDepth 100000 in
theorem cSame_any (x y : Nat) (w : World) : Calls Tryz.prog 66 #[.float .f64 x, .float .f64 y] w fun e w' => e = .returned (.bool (decide (x = y))) ∧ w = w' := by
  have h1 := fun W => run_f64bits x W
  have h2 := fun W => run_f64bits y W
  by_cases h : x = y
  · subst h
    have hb : ((x : Int) == (x : Int)) = true := beq_self_eq_true _
    rw [decide_eq_true rfl]
    go_enter Tryz.func66, Tryz.ntmps66
    go_wp2
    go_ret
    exact ⟨rfl, rfl⟩
  · have hb : ((x : Int) == (y : Int)) = false := by rw [beq_eq_false_iff_ne]; omega
    rw [decide_eq_false h]
    go_enter Tryz.func66, Tryz.ntmps66
    go_wp2
    go_ret
    exact ⟨rfl, rfl⟩
set_option maxRecDepth 100000 in
set_option maxHeartbeats 4000000 in
theorem cValid_str (s : ByteArray) (w : World) : Calls Tryz.prog 28 #[.agg #[.int .i64 2, .float .f64 0, .string s]] w fun e w' => e = .returned (.bool true) ∧ Below w.heap.size w w' := by
  have cS := fun W => cSame_any 0 0 W
  rw [decide_eq_true rfl] at cS
  have CS := Lib.hid cS
  clear cS
  have HB := Lib.hid ((Below.refl w.heap.size w).alloc (Nat.le_refl _) (.cells #[.int .i64 2, .float .f64 0, .string s] 52))
  go_enter Tryz.func28, Tryz.ntmps28
  go_wp2_with fail
  refine (CS.out _).mono ?_
  rintro e w' ⟨rfl, rfl⟩
  go_wp2_with fail
  go_ret
  exact ⟨rfl, HB.out⟩
set_option maxRecDepth 100000 in
set_option maxHeartbeats 4000000 in
theorem cValid_num (s : ByteArray) (x : Nat) (w : World) (hs : s.size ≤ 4194304) (hv : looksL s.data.toList = true) (hx : preN s.data.toList = x) : Calls Tryz.prog 28 #[.agg #[.int .i64 3, .float .f64 x, .string s]] w fun e w' => e = .returned (.bool true) ∧ Below w.heap.size w w' := by
  have cS := fun W => cSame_any x x W
  rw [decide_eq_true rfl] at cS
  have CS := Lib.hid cS
  have cL := fun W => looks_any s W hs
  rw [hv] at cL
  have CL := Lib.hid cL
  have cP := fun W => prefix_val s W hs
  rw [hx] at cP
  obtain ⟨zz, hzz⟩ : ∃ zz, (sigL s.data.toList).2.2.2.2 = zz := ⟨_, rfl⟩
  rw [hzz] at cP
  have CP := Lib.hid cP
  clear cS cL cP hzz hv hx
  have F := Lib.hid (Five.new w #[.int .i64 3, .float .f64 x, .string s] 52)
  have HB := Lib.hid ((Below.refl w.heap.size w).alloc (Nat.le_refl _) (.cells #[.int .i64 3, .float .f64 x, .string s] 52))
  go_enter Tryz.func28, Tryz.ntmps28
  go_wp2_with fail
  refine (CP.out _).mono ?_
  rintro e W2 ⟨rfl, h2⟩
  have F2 := Lib.hid (F.out.below h2)
  have HB2 := Lib.hid (HB.out.trans (h2.mono HB.out.size))
  clear h2 F HB
  obtain ⟨q0, q1, q2, -⟩ := F2.out.three
  go_wp2_with fail
  refine (CL.out _).mono ?_
  rintro e W3 ⟨rfl, h3⟩
  clear q0 q1 q2
  have F3 := Lib.hid (F2.out.below h3)
  have HB3 := Lib.hid (HB2.out.trans (h3.mono HB2.out.size))
  clear h3 F2 HB2
  obtain ⟨q0, q1, q2, -⟩ := F3.out.three
  go_wp2_with fail
  refine (CS.out _).mono ?_
  rintro e w' ⟨rfl, rfl⟩
  go_wp2_with fail
  go_ret
  exact ⟨rfl, HB3.out⟩
end Go.Proofs.YtmceakbjholjpaaGreatDoor

namespace Go.Proofs.YtmceakbjholjpaaGreatDoor
open Go.RowKit Go.Lib

theorem preN_fw {l X1 X2 : List UInt8} {b : Bool} {xe z : Int} {m : Nat} (hX : sigL l = (b, X1, X2, xe, z)) (hm : m < 9007199254740992) (he : pv (X1 ++ X2) * 10 ^ (xe - (X2.length : Int)).toNat = m * 10 ^ (-(xe - (X2.length : Int))).toNat) : preN l = turned b (fw m) := by
  unfold preN
  rw [hX]
  simp only
  have hs := Near.self (r := fw m) (by have := fw_bd hm; omega)
  rw [fw_V hm] at hs
  rw [nearR_of (Nat.pow_pos (by omega)) (near_same (by omega) (Nat.pow_pos (by omega)) ?_ hs)]
  rw [he, Nat.mul_one]
  generalize S1074 = z
  ac_rfl
theorem pre_10 : preN [32, 49, 48, 32] = 4621819117588971520 := by
  rw [preN_fw (b := false) (X1 := [49, 48]) (X2 := []) (xe := 0) (z := 3) (m := 10) (by rfl) (by omega) (by decide)]
  decide +kernel
theorem pre_3x : preN [51, 120] = 4613937818241073152 := by
  rw [preN_fw (b := false) (X1 := [51]) (X2 := []) (xe := 0) (z := 1) (m := 3) (by rfl) (by omega) (by decide)]
  decide +kernel
theorem looks_10 : looksL [32, 49, 48, 32] = true := by rfl
theorem pt_01 : pointT false false false false false 0 3 102 4591870180066957722 = [48, 46, 49, 48, 48] := by
  unfold pointT ptD
  rw [if_pos (Or.inl rfl)]
  decide +kernel
set_option maxRecDepth 100000 in
set_option maxHeartbeats 8000000 in
theorem cfixed_any (w : World) (hT : PowTab w) : Calls Tryz.prog 23 #[] w fun e w' => e = .returned (.bool true) ∧ Below w.heap.size w w' := by
  have c1 := fun W => cInput_any ⟨#[32, 49, 48, 32]⟩ true 4621819117588971520 W (by decide) looks_10 pre_10
  have c2 := fun W => cText_any ⟨#[57]⟩ W (by decide)
  have c3 := fun W => cOf_any 4621256167635550208 W
  have c4 := fun W => cCompare_num 3 1 4621819117588971520 4621256167635550208 ⟨#[32, 49, 48, 32]⟩ ⟨#[]⟩ p6g W (by decide) (by decide) (by decide) (by decide)
  have e4 : cmpN (numV2 3 4621819117588971520 ⟨#[32, 49, 48, 32]⟩) (numV2 1 4621256167635550208 ⟨#[]⟩) = 1 := by
    unfold numV2
    rw [if_pos (Or.inr rfl), if_pos (Or.inl rfl)]
    decide +kernel
  rw [e4] at c4
  have c5 := fun (W : World) (hW : PowTab W) => cCompare_str 3 2 4621819117588971520 0 ⟨#[32, 49, 48, 32]⟩ ⟨#[57]⟩ p6g ⟨#[]⟩ ⟨#[]⟩ W (Or.inr ⟨by decide, rfl⟩) (fun h => by cases h) (fun h => by cases h) hW
  have e5 : Lib.compareBytes (wrT 3 ⟨#[32, 49, 48, 32]⟩ ⟨#[]⟩).data.toList (wrT 2 ⟨#[57]⟩ ⟨#[]⟩).data.toList = -1 := by decide
  rw [e5] at c5
  have c6 := fun W => cOf_any 4591870180066957722 W
  have c7 := fun (W : World) (hW : PowTab W) => cString_any 1 4591870180066957722 ⟨#[]⟩ p3f ⟨#[48, 46, 49, 48, 48]⟩ W (fun _ W2 hW2 => by
    have h := conv_pt p3f 4591870180066957722 4 3 102 W2 (by omega) (by decide) rfl (by omega) (by omega) part_3f (by decide) (by decide) (by decide) (by decide) (by decide +kernel) hW2
    rw [pt_01] at h
    exact h) hW (by decide)
  replace c7 : ∀ W, PowTab W → Calls Tryz.prog 29 #[.agg #[.int .i64 1, .float .f64 4591870180066957722, .string ⟨#[]⟩], .string p3f] W fun e w' => e = .returned (.string ⟨#[48, 46, 49, 48, 48]⟩) ∧ Below W.heap.size W w' := c7
  have c8 := fun W => cText_any ⟨#[51, 120]⟩ W (by decide)
  have c9 := fun W => cNumber_any 2 0 ⟨#[51, 120]⟩ W (by decide)
  have e9 : numV2 2 0 ⟨#[51, 120]⟩ = 4613937818241073152 := by
    unfold numV2
    rw [if_neg (by decide), if_pos rfl]
    exact pre_3x
  rw [e9] at c9
  have c10 := fun W => cTrue_none 0 ⟨#[]⟩ W
  have t1 : (FloatKind.f64.format.order 4621819117588971520 4621819117588971520 == some .eq) = true := by decide +kernel
  have t2 : (FloatKind.f64.format.order 4613937818241073152 4613937818241073152 == some .eq) = true := by decide +kernel
  have HT := Lib.hid (Lib.tabBelow_of_tabIs hT)
  have C1 := Lib.hid c1
  have C2 := Lib.hid c2
  have C3 := Lib.hid c3
  have C4 := Lib.hid c4
  have C5 := Lib.hid c5
  have C6 := Lib.hid c6
  have C7 := Lib.hid c7
  have C8 := Lib.hid c8
  have C9 := Lib.hid c9
  have C10 := Lib.hid c10
  clear c1 c2 c3 c4 c5 c6 c7 c8 c9 c10 e4 e5 e9 hT
  go_enter Tryz.func23, Tryz.ntmps23
  go_wp2_with fail
  refine (C1.out _).mono ?_
  rintro e w1 ⟨rfl, hB1⟩
  go_wp2_with fail
  refine (C2.out _).mono ?_
  rintro e w2 ⟨rfl, h2⟩
  have hB2 := hB1.trans (h2.mono hB1.size)
  clear h2 hB1
  have fA := (Five.new w2 #[.int .i64 3, .float .f64 4621819117588971520, .string ⟨#[32, 49, 48, 32]⟩] 52).alloc (.cells #[.int .i64 2, .float .f64 0, .string ⟨#[57]⟩] 52)
  have fB := Five.new (w2.alloc (.cells #[.int .i64 3, .float .f64 4621819117588971520, .string ⟨#[32, 49, 48, 32]⟩] 52)) #[.int .i64 2, .float .f64 0, .string ⟨#[57]⟩] 52
  rw [World.size_alloc] at fB
  have hB3 := (hB2.alloc hB2.size (.cells #[.int .i64 3, .float .f64 4621819117588971520, .string ⟨#[32, 49, 48, 32]⟩] 52)).alloc (by have := hB2.size; rw [World.size_alloc]; omega) (.cells #[.int .i64 2, .float .f64 0, .string ⟨#[57]⟩] 52)
  obtain ⟨W3, hW3⟩ : ∃ W3, (w2.alloc (.cells #[.int .i64 3, .float .f64 4621819117588971520, .string ⟨#[32, 49, 48, 32]⟩] 52)).alloc (.cells #[.int .i64 2, .float .f64 0, .string ⟨#[57]⟩] 52) = W3 := ⟨_, rfl⟩
  obtain ⟨B, hB⟩ : ∃ B, w2.heap.size = B := ⟨_, rfl⟩
  rw [hW3] at fA fB hB3
  rw [hB] at fA fB
  have HW3 := Lib.hid hW3
  have HB := Lib.hid hB
  have FA := Lib.hid fA
  have FB := Lib.hid fB
  have HB3 := Lib.hid hB3
  clear hW3 hB fA fB hB3 hB2
  have hst := run_store_float
  go_wp2_with fail
  rw [HW3.out, HB.out]
  have HCW := Lib.hid (fun (W : World) (h : Below W3.heap.size W3 W) => (show W.cell? ⟨B, 0, none⟩ = some (.int .i64 3) ∧ W.cell? ⟨B, 1, none⟩ = some (.float .f64 4621819117588971520) ∧ W.cell? ⟨B, 2, none⟩ = some (.string ⟨#[32, 49, 48, 32]⟩) ∧ W.cell? ⟨B + 1, 0, none⟩ = some (.int .i64 2) ∧ W.cell? ⟨B + 1, 1, none⟩ = some (.float .f64 0) ∧ W.cell? ⟨B + 1, 2, none⟩ = some (.string ⟨#[57]⟩) from ⟨(FA.out.below h).cell 0, (FA.out.below h).cell 1, (FA.out.below h).cell 2, (FB.out.below h).cell 0, (FB.out.below h).cell 1, (FB.out.below h).cell 2⟩))
  have hR := Below.refl W3.heap.size W3
  obtain ⟨a0, a1, a2, a3, a4, a5⟩ := HCW.out W3 hR
  have HTW := Lib.hid (fun (W : World) (h : Below W3.heap.size W3 W) => HT.out W (HB3.out.trans (h.mono HB3.out.size)))
  clear hst
  go_region_held3 (fun W => W.cell? ⟨B, 0, none⟩ = some (.int .i64 3) ∧ W.cell? ⟨B, 1, none⟩ = some (.float .f64 4621819117588971520) ∧ W.cell? ⟨B, 2, none⟩ = some (.string ⟨#[32, 49, 48, 32]⟩) ∧ W.cell? ⟨B + 1, 0, none⟩ = some (.int .i64 2) ∧ W.cell? ⟨B + 1, 1, none⟩ = some (.float .f64 0) ∧ W.cell? ⟨B + 1, 2, none⟩ = some (.string ⟨#[57]⟩))
    (first | (with_reducible exact S11) | (with_reducible exact S10) | (with_reducible exact S9) | (with_reducible exact S8) | (with_reducible exact S7) | (with_reducible exact S6) | (with_reducible exact S5) | (with_reducible exact S4) | go_keep)
    (first
    | (go_at_call 38; (with_reducible refine (C3.out _).mono ?_); rintro e X4 ⟨rfl, h⟩; have b4 : Below W3.heap.size W3 X4 := ⟨h.os, h.tape, h.output, h.size, h.block⟩; have S4 := HCW.out _ b4; clear h)
    | (go_at_call 25; (with_reducible refine (C4.out _).mono ?_); rintro e X5 ⟨rfl, h⟩; have b5 : Below W3.heap.size W3 X5 := b4.trans ((⟨h.os, h.tape, h.output, h.size, h.block⟩ : Below X4.heap.size X4 X5).mono b4.size); have S5 := HCW.out _ b5; clear h)
    | (go_at_call 25; (with_reducible refine (C5.out _ (HTW.out _ (by first | exact b5 | exact b5.drew | exact below_drewN b5 _))).mono ?_); rintro e X6 ⟨rfl, h⟩; have b6 : Below W3.heap.size W3 X6 := b5.trans ((⟨h.os, h.tape, h.output, h.size, h.block⟩ : Below X5.heap.size X5 X6).mono b5.size); have S6 := HCW.out _ b6; clear h)
    | (go_at_call 38; (with_reducible refine (C6.out _).mono ?_); rintro e X7 ⟨rfl, h⟩; have b7 : Below W3.heap.size W3 X7 := b6.trans ((⟨h.os, h.tape, h.output, h.size, h.block⟩ : Below X6.heap.size X6 X7).mono b6.size); have S7 := HCW.out _ b7; clear h)
    | (go_at_call 29; (with_reducible refine (C7.out _ (HTW.out _ (by first | exact b7 | exact b7.drew | exact below_drewN b7 _))).mono ?_); rintro e X8 ⟨rfl, h⟩; have b8 : Below W3.heap.size W3 X8 := b7.trans ((⟨h.os, h.tape, h.output, h.size, h.block⟩ : Below X7.heap.size X7 X8).mono b7.size); have S8 := HCW.out _ b8; clear h)
    | (go_at_call 27; (with_reducible refine (C8.out _).mono ?_); rintro e X9 ⟨rfl, h⟩; have b9 : Below W3.heap.size W3 X9 := b8.trans ((⟨h.os, h.tape, h.output, h.size, h.block⟩ : Below X8.heap.size X8 X9).mono b8.size); have S9 := HCW.out _ b9; clear h)
    | (go_at_call 31; (with_reducible refine (C9.out _).mono ?_); rintro e X10 ⟨rfl, h⟩; have b10 : Below W3.heap.size W3 X10 := b9.trans ((⟨h.os, h.tape, h.output, h.size, h.block⟩ : Below X9.heap.size X9 X10).mono b9.size); have S10 := HCW.out _ b10; clear h)
    | (go_at_call 33; (with_reducible refine (C10.out _).mono ?_); rintro e X11 ⟨rfl, h⟩; have b11 : Below W3.heap.size W3 X11 := b10.trans ((⟨h.os, h.tape, h.output, h.size, h.block⟩ : Below X10.heap.size X10 X11).mono b10.size); have S11 := HCW.out _ b11; clear h))
  all_goals
    have hBf := HB3.out.trans (b11.mono HB3.out.size)
    go_wp2_with fail
    go_ret
    exact ⟨rfl, by first | exact hBf | exact ⟨hBf.os, hBf.tape, hBf.output, hBf.size, hBf.block⟩⟩
end Go.Proofs.YtmceakbjholjpaaGreatDoor

namespace Go.Proofs.YtmceakbjholjpaaGreatDoor
open Go.RowKit Go.Lib

theorem nearR_top (X D : Nat) : nearR X D ≤ 9218868437227405312 := by
  by_cases h : ∃ r, Near X D r
  · unfold nearR
    rw [dif_pos h]
    exact (Classical.choose_spec h).top
  · unfold nearR
    rw [dif_neg h]
    omega
end Go.Proofs.YtmceakbjholjpaaGreatDoor

namespace Go.Proofs.YtmceakbjholjpaaGreatDoor
open Go.RowKit Go.Lib

theorem rvalue_any (A : Option Addr) (n cap : Nat) (ds : List UInt8) (x : Int) (w : World) (hn : ds.length = n) (hn9 : n ≤ 100000) (hcap : n ≤ cap) (hcm : cap ≤ 9223372036854775807) (hx0 : -1000000 ≤ x) (hx9 : x ≤ 1000000) (hd : Dec ds) (hra : Rd .u8 w A (cod ds)) :
    Calls Tryz.prog 158 #[.slice A n cap, .int .i64 x] w (RVal w (2 * (pv ds * 10 ^ x.toNat) * S1074) (10 ^ (-x).toNat)) := by
  have hl := nz_le ds
  by_cases hz : nz ds = n
  · refine rvalue_zero A n cap ds x w hn hcap hcm hra hz _ _ ?_ (Nat.pow_pos (by omega))
    rw [nz_pv, hz, ← hn, List.drop_length]
    show 2 * (0 * _) * S1074 = 0
    rw [Nat.zero_mul, Nat.mul_zero, Nat.zero_mul]
  · obtain ⟨g, o, rfl, -⟩ := hra 0 (by rw [cod_len]; omega)
    obtain ⟨m, hm⟩ : ∃ m, n = nz ds + m := ⟨n - nz ds, by omega⟩
    rcases (by omega : x + (m : Int) < -400 ∨ 400 < x + (m : Int) ∨ (-400 ≤ x + (m : Int) ∧ x + (m : Int) ≤ 400)) with h | h | ⟨h, h'⟩
    · by_cases h1 : m ≤ 1000
      · exact rvalue_low g o n m _ cap ds x w hn rfl hm (by omega) h1 hcap hcm hx0 hx9 hd hra h
      · exact rvalue_low_long g o n m _ cap ds x w hn rfl hm (by omega) (by omega) hcap hcm hx0 hx9 hd hra h
    · by_cases h1 : m ≤ 1000
      · exact rvalue_high g o n m _ cap ds x w hn rfl hm (by omega) h1 hcap hcm hx0 hx9 hd hra h
      · exact rvalue_high_long g o n m _ cap ds x w hn rfl hm (by omega) (by omega) hcap hcm hx0 hx9 hd hra h
    · by_cases h1 : m ≤ 1000
      · exact rvalue_mid g o n m _ cap ds x w hn rfl hm (by omega) h1 hcap hcm hx0 hx9 hd hra h h'
      · exact rvalue_mid_long g o n m _ cap ds x w hn rfl hm (by omega) (by omega) hcap hcm hx0 hx9 hd hra h h'
theorem drop_head {p : UInt8 → Bool} {l t : List UInt8} {c : UInt8} (h : l.dropWhile p = c :: t) : p c = false := by
  induction l with
  | nil => cases h
  | cons d l ih =>
    rw [List.dropWhile_cons] at h
    cases hp : p d with
    | true => rw [hp, if_pos rfl] at h; exact ih h
    | false =>
      rw [hp, if_neg (by decide)] at h
      rw [← (List.cons.inj h).1]
      exact hp
theorem run_take (S : List UInt8) (p : Nat) : (S.drop p).take (nDig (S.drop p)) = (S.drop p).takeWhile isD := nDig_take _
theorem run_snoc {S : List UInt8} {p j : Nat} (h : p + j < S.length) : (S.drop p).take (j + 1) = (S.drop p).take j ++ [S[p + j]] := by
  have h2 : j < (S.drop p).length := by rw [List.length_drop]; omega
  have e : (S.drop p).take (j + 1) = (S.drop p).take j ++ [(S.drop p)[j]] := List.take_succ_eq_append_getElem h2
  rw [e, List.getElem_drop]
/-- A run of digits from a place on. -/
theorem dig_run (S : List UInt8) (p : Nat) : (∀ j, j < nDig (S.drop p) → digAt S (p + j) = true) ∧ digAt S (p + nDig (S.drop p)) = false := by
  obtain ⟨l, hl⟩ : ∃ l, S.drop p = l := ⟨_, rfl⟩
  have hg : ∀ j, S[p + j]? = l[j]? := fun j => by rw [← hl, List.getElem?_drop]
  rw [hl]
  constructor
  · intro j hj
    unfold digAt
    rw [hg]
    have hjl : j < l.length := Nat.lt_of_lt_of_le hj (nDig_le l)
    rw [List.getElem?_eq_getElem hjl]
    have hj2 : j < (l.takeWhile isD).length := hj
    have h1 : (l.takeWhile isD)[j]? = l[j]? := by
      rw [← nDig_take, List.getElem?_take, if_pos hj]
    rw [List.getElem?_eq_getElem hj2, List.getElem?_eq_getElem hjl] at h1
    rw [← Option.some.inj h1]
    show isD _ = true
    exact List.all_eq_true.1 (List.all_takeWhile (p := isD) (l := l)) _ (List.getElem_mem hj2)
  · unfold digAt
    rw [hg]
    cases h : l[nDig l]? with
    | none => rfl
    | some c =>
      have h1 := nDig_drop l
      obtain ⟨hlt, he⟩ := List.getElem?_eq_some_iff.1 h
      rw [List.drop_eq_getElem_cons hlt, he] at h1
      show isD c = false
      exact drop_head h1.symm
end Go.Proofs.YtmceakbjholjpaaGreatDoor
