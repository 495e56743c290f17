/- Several texts in one (Contracts of layer 13: whatever part; Text, whatever format and time; Plain: numbers of digits of any base, the lowest digit first; Plain: one step of each loop over limbs; Plain: the guess of a limb of the quotient, and a round of the long division; Words for memory: a row of numbers within a block that may be written; a slice that is read; Words for memory: a row of the call's own, of numbers; Contracts of layer 2: trim, fresh, mulAdd; Contracts of layer 2: mulAdd's loop, takeFrom, divLimb; Contracts of layer 2: fresh, mulAdd; Contracts of layer 2: divLimb, shiftUp, shiftDown; Contracts of layer 2: comparison; Contracts of layer 2: Cmp, Valid, From, fit, Bits; Plain: decimal texts of numbers; Contracts of layer 2: isDigits, Parse; Contracts of layer 2: Parse; Contracts of layer 2: the bytes turned round; Text; Contracts of layer 2: guess). -/
import Derived.Laws.IdiomStrings
import Derived.KernelRfl
import Derived.WalkSmall
import Derived.WalkKit
import Derived.ProofKit
import Derived.Below
import Derived.Lib.Hide
import Derived.Laws.OwnMore
import Derived.Lib.SmallJoins
import Derived.Test.YtelhbkfhalpniaaDoorProg
import Derived.Laws.MakeOwn
import Derived.Maps.AppendAt
import Derived.Laws.AppendOwnNone
import Derived.RangeFuncBox
import Derived.Laws.BitsAllLaws
import Derived.Deep.QuietTactic
import Derived.BigQuiet
import Derived.Deep.RegionWith
import Derived.Test.YtelhbkfhalpniaaDoorShelf
import Derived.WalkSpells
import Derived.WalkLawsBesides
import Derived.RegionTactic
import Derived.ChangeAlike
import Derived.Lib.LazyBuf
import Derived.Lib.BufferRead
import Derived.Outline
import Derived.Test.YtelhbkfhalpniaaDoorQt2
namespace Go.Proofs.YtelhbkfhalpniaaDoor
open Go.RowKit Go.Lib Go.Joins

set_option maxRecDepth 100000 in
set_option maxHeartbeats 4000000 in
theorem part_none (x : DateZ) (t : Int) (d : UInt8) (w : World) (hN : ∀ W, Calls Tryd.prog 46 #[momV x t, .int .u8 (d.toNat : Nat)] W fun e w' => e = .returned (.tuple #[.int .i64 0, .int .i64 0, .bool false]) ∧ Below W.heap.size W w') (hf0 : d.toNat ≠ 97) (hf1 : d.toNat ≠ 65) (hf2 : d.toNat ≠ 98) (hf3 : d.toNat ≠ 104) (hf4 : d.toNat ≠ 66) (hf5 : d.toNat ≠ 101) (hf6 : d.toNat ≠ 112) (hf7 : d.toNat ≠ 68) (hf8 : d.toNat ≠ 70) (hf9 : d.toNat ≠ 82) (hf10 : d.toNat ≠ 84) (hf11 : d.toNat ≠ 110) (hf12 : d.toNat ≠ 116) (hf13 : d.toNat ≠ 122) (hf14 : d.toNat ≠ 90) (hf15 : d.toNat ≠ 37) : Calls Tryd.prog 24 #[momV x t, .int .u8 (d.toNat : Nat)] w fun e w' => e = .returned (.string ⟨#[37, d]⟩) ∧ Below w.heap.size w w' := by
  have f0 : ((d.toNat : Int) == 97) = false := by rw [beq_eq_false_iff_ne]; omega
  have f1 : ((d.toNat : Int) == 65) = false := by rw [beq_eq_false_iff_ne]; omega
  have f2 : ((d.toNat : Int) == 98) = false := by rw [beq_eq_false_iff_ne]; omega
  have f3 : ((d.toNat : Int) == 104) = false := by rw [beq_eq_false_iff_ne]; omega
  have f4 : ((d.toNat : Int) == 66) = false := by rw [beq_eq_false_iff_ne]; omega
  have f5 : ((d.toNat : Int) == 101) = false := by rw [beq_eq_false_iff_ne]; omega
  have f6 : ((d.toNat : Int) == 112) = false := by rw [beq_eq_false_iff_ne]; omega
  have f7 : ((d.toNat : Int) == 68) = false := by rw [beq_eq_false_iff_ne]; omega
  have f8 : ((d.toNat : Int) == 70) = false := by rw [beq_eq_false_iff_ne]; omega
  have f9 : ((d.toNat : Int) == 82) = false := by rw [beq_eq_false_iff_ne]; omega
  have f10 : ((d.toNat : Int) == 84) = false := by rw [beq_eq_false_iff_ne]; omega
  have f11 : ((d.toNat : Int) == 110) = false := by rw [beq_eq_false_iff_ne]; omega
  have f12 : ((d.toNat : Int) == 116) = false := by rw [beq_eq_false_iff_ne]; omega
  have f13 : ((d.toNat : Int) == 122) = false := by rw [beq_eq_false_iff_ne]; omega
  have f14 : ((d.toNat : Int) == 90) = false := by rw [beq_eq_false_iff_ne]; omega
  have f15 : ((d.toNat : Int) == 37) = false := by rw [beq_eq_false_iff_ne]; omega
  have CN := hN (w.alloc (momO x t))
  have hb := below_alloc1 w (momO x t)
  have hcv := fun (W : World) => run_convert_bytes_back (P := Tryd.prog) (W.alloc (.cells #[.int .u8 (d.toNat : Nat)] 5)) 57 9 5 ⟨W.heap.size, 0, none⟩ 1 [d] Tryd.underlying57 Tryd.underlying5 Tryd.underlying9
  unfold momV momO at CN
  have CN := Lib.hid CN
  have HBB := Lib.hid hb
  unfold momV
  clear hN hb
  go_enter Tryd.func24, Tryd.ntmps24
  go_wp2_with fail
  refine CN.out.mono ?_
  rintro e W3 ⟨rfl, h3⟩
  have HB3 := Lib.hid h3
  have hcv3 : (convert 57 9 (.slice (some ⟨W3.heap.size, 0, none⟩) 1 1)).run Tryd.prog (W3.alloc (.cells #[.int .u8 (d.toNat : Nat)] 5)) = .ok (.string ⟨#[d]⟩) (W3.alloc (.cells #[.int .u8 (d.toNat : Nat)] 5)) := hcv W3 (fun j hj => by
    obtain rfl : j = 0 := by simpa using hj
    exact cell_of_block (heap_alloc_new W3 (.cells #[.int .u8 (d.toNat : Nat)] 5)) 0)
  clear h3 hcv
  go_wp2_with fail
  go_ret
  refine ⟨?_, (first_bel HBB.out HB3.out).alloc (Nat.le_trans HBB.out.size HB3.out.size) _⟩
  exact congrArg (fun q => Ending.returned (.string q)) (cal_cat [37] [d])
theorem txL_len {P : UInt8 → List UInt8} {k : Nat} (hk : 1 ≤ k) : ∀ l : List UInt8, (∀ d ∈ letL l, (P d).length ≤ k) → (txL P l).length ≤ k * l.length
  | [], _ => Nat.zero_le _
  | [c], _ => by show 1 ≤ k * 1; omega
  | c :: d :: r, h => by
    by_cases hc : c = 37
    · subst hc
      rw [letL_part] at h
      rw [txL_part, List.length_append]
      have h1 := h d (List.mem_cons_self ..)
      have h2 := txL_len hk r (fun e he => h e (List.mem_cons_of_mem _ he))
      simp only [List.length_cons, Nat.mul_add]
      omega
    · rw [letL_byte c (d :: r) (Or.inl hc)] at h
      rw [txL_byte P c (d :: r) (Or.inl hc)]
      have h2 := txL_len hk (d :: r) h
      simp only [List.length_cons, Nat.mul_add] at h2 ⊢
      omega
theorem wdN_len (i : Nat) : (wdN i).length ≤ 9 := by unfold wdN; split <;> decide
theorem moN_len (i : Nat) : (moN i).length ≤ 9 := by unfold moN; split <;> decide
theorem low_len {x th : DateZ} {t : Int} (h : Mom x th t) (d : UInt8) (n : Int) (k : Nat) (hd : numZ x th t d = some (n, k)) : (lowZ x th t d).length ≤ 24 := by
  obtain ⟨_, ⟨n0, n1, hk⟩, _⟩ := num_all h d n k hd
  rw [lowZ_some hd]
  have := padL_len n k 48 n0 n1
  omega
theorem numZ_none {x th : DateZ} {t : Int} {d : UInt8} (h : numZ x th t d = none) : d ≠ 89 ∧ d ≠ 67 ∧ d ≠ 121 ∧ d ≠ 109 ∧ d ≠ 100 ∧ d ≠ 72 ∧ d ≠ 73 ∧ d ≠ 77 ∧ d ≠ 83 ∧ d ≠ 106 ∧ d ≠ 119 ∧ d ≠ 117 ∧ d ≠ 85 ∧ d ≠ 87 ∧ d ≠ 86 ∧ d ≠ 71 ∧ d ≠ 103 ∧ d ≠ 115 := by
  unfold numZ at h
  by_cases q0 : d = 89
  · rw [if_pos q0] at h; cases h
  rw [if_neg q0] at h
  by_cases q1 : d = 67
  · rw [if_pos q1] at h; cases h
  rw [if_neg q1] at h
  by_cases q2 : d = 121
  · rw [if_pos q2] at h; cases h
  rw [if_neg q2] at h
  by_cases q3 : d = 109
  · rw [if_pos q3] at h; cases h
  rw [if_neg q3] at h
  by_cases q4 : d = 100
  · rw [if_pos q4] at h; cases h
  rw [if_neg q4] at h
  by_cases q5 : d = 72
  · rw [if_pos q5] at h; cases h
  rw [if_neg q5] at h
  by_cases q6 : d = 73
  · rw [if_pos q6] at h; cases h
  rw [if_neg q6] at h
  by_cases q7 : d = 77
  · rw [if_pos q7] at h; cases h
  rw [if_neg q7] at h
  by_cases q8 : d = 83
  · rw [if_pos q8] at h; cases h
  rw [if_neg q8] at h
  by_cases q9 : d = 106
  · rw [if_pos q9] at h; cases h
  rw [if_neg q9] at h
  by_cases q10 : d = 119
  · rw [if_pos q10] at h; cases h
  rw [if_neg q10] at h
  by_cases q11 : d = 117
  · rw [if_pos q11] at h; cases h
  rw [if_neg q11] at h
  by_cases q12 : d = 85
  · rw [if_pos q12] at h; cases h
  rw [if_neg q12] at h
  by_cases q13 : d = 87
  · rw [if_pos q13] at h; cases h
  rw [if_neg q13] at h
  by_cases q14 : d = 86
  · rw [if_pos q14] at h; cases h
  rw [if_neg q14] at h
  by_cases q15 : d = 71
  · rw [if_pos q15] at h; cases h
  rw [if_neg q15] at h
  by_cases q16 : d = 103
  · rw [if_pos q16] at h; cases h
  rw [if_neg q16] at h
  by_cases q17 : d = 115
  · rw [if_pos q17] at h; cases h
  rw [if_neg q17] at h
  exact ⟨q0, q1, q2, q3, q4, q5, q6, q7, q8, q9, q10, q11, q12, q13, q14, q15, q16, q17⟩
theorem len_Dc {x th : DateZ} {t : Int} (h : Mom x th t) : (txL (lowZ x th t) [37, 109, 47, 37, 100, 47, 37, 121]).length ≤ 1000 := by
  refine Nat.le_trans (txL_len (k := 24) (by decide) [37, 109, 47, 37, 100, 47, 37, 121] (fun d hd => ?_)) (by decide)
  have hd : d = 109 ∨ d = 100 ∨ d = 121 := by
    have e : letL [37, 109, 47, 37, 100, 47, 37, 121] = [109, 100, 121] := by decide
    rw [e] at hd
    simpa using hd
  rcases hd with rfl | rfl | rfl
  · exact low_len h 109 _ _ rfl
  · exact low_len h 100 _ _ rfl
  · exact low_len h 121 _ _ rfl
theorem len_Fc {x th : DateZ} {t : Int} (h : Mom x th t) : (txL (lowZ x th t) [37, 89, 45, 37, 109, 45, 37, 100]).length ≤ 1000 := by
  refine Nat.le_trans (txL_len (k := 24) (by decide) [37, 89, 45, 37, 109, 45, 37, 100] (fun d hd => ?_)) (by decide)
  have hd : d = 89 ∨ d = 109 ∨ d = 100 := by
    have e : letL [37, 89, 45, 37, 109, 45, 37, 100] = [89, 109, 100] := by decide
    rw [e] at hd
    simpa using hd
  rcases hd with rfl | rfl | rfl
  · exact low_len h 89 _ _ rfl
  · exact low_len h 109 _ _ rfl
  · exact low_len h 100 _ _ rfl
theorem len_Rc {x th : DateZ} {t : Int} (h : Mom x th t) : (txL (lowZ x th t) [37, 72, 58, 37, 77]).length ≤ 1000 := by
  refine Nat.le_trans (txL_len (k := 24) (by decide) [37, 72, 58, 37, 77] (fun d hd => ?_)) (by decide)
  have hd : d = 72 ∨ d = 77 := by
    have e : letL [37, 72, 58, 37, 77] = [72, 77] := by decide
    rw [e] at hd
    simpa using hd
  rcases hd with rfl | rfl
  · exact low_len h 72 _ _ rfl
  · exact low_len h 77 _ _ rfl
theorem len_Tc {x th : DateZ} {t : Int} (h : Mom x th t) : (txL (lowZ x th t) [37, 72, 58, 37, 77, 58, 37, 83]).length ≤ 1000 := by
  refine Nat.le_trans (txL_len (k := 24) (by decide) [37, 72, 58, 37, 77, 58, 37, 83] (fun d hd => ?_)) (by decide)
  have hd : d = 72 ∨ d = 77 ∨ d = 83 := by
    have e : letL [37, 72, 58, 37, 77, 58, 37, 83] = [72, 77, 83] := by decide
    rw [e] at hd
    simpa using hd
  rcases hd with rfl | rfl | rfl
  · exact low_len h 72 _ _ rfl
  · exact low_len h 77 _ _ rfl
  · exact low_len h 83 _ _ rfl
theorem u8_ne {d : UInt8} {n : Nat} (h : d ≠ n.toUInt8) (_hn : n < 256 := by decide) : d.toNat ≠ n := fun e => h (by rw [← e]; simp)
/-- Whatever part: what it writes. -/
theorem part_all {x th : DateZ} {t : Int} (h : Mom x th t) (d : UInt8) : (partZ x th t d).length ≤ 1000 ∧ ∀ W, CalMem W → Calls Tryd.prog 24 #[momV x t, .int .u8 (d.toNat : Nat)] W fun e w' => e = .returned (.string ⟨(partZ x th t d).toArray⟩) ∧ Below W.heap.size W w' := by
  have hf := h.fair
  by_cases q0 : d = 97
  · subst q0
    exact ⟨by show ((wdN x.wk.toNat).take 3).length ≤ 1000; rw [List.length_take]; omega, fun W hW => part_a x t W hW hf⟩
  by_cases q1 : d = 65
  · subst q1
    exact ⟨by show (wdN x.wk.toNat).length ≤ 1000; have := wdN_len x.wk.toNat; omega, fun W hW => part_Ac x t W hW hf⟩
  by_cases q2 : d = 98
  · subst q2
    exact ⟨by show ((moN (x.m - 1).toNat).take 3).length ≤ 1000; rw [List.length_take]; omega, fun W hW => part_b x t W hW hf⟩
  by_cases q3 : d = 104
  · subst q3
    exact ⟨by show ((moN (x.m - 1).toNat).take 3).length ≤ 1000; rw [List.length_take]; omega, fun W hW => part_h x t W hW hf⟩
  by_cases q4 : d = 66
  · subst q4
    exact ⟨by show (moN (x.m - 1).toNat).length ≤ 1000; have := moN_len (x.m - 1).toNat; omega, fun W hW => part_Bc x t W hW hf⟩
  by_cases q5 : d = 101
  · subst q5
    obtain ⟨d1, d2⟩ := hf.d
    exact ⟨by have := padL_len x.d 2 32 (by omega) (by omega); show (padL x.d 2 32).length ≤ 1000; omega, fun W hW => part_e x t W hW hf⟩
  by_cases q6 : d = 112
  · subst q6
    refine ⟨?_, fun W _ => part_p x t W⟩
    show (if x.hh < 12 then _ else _ : List UInt8).length ≤ 1000
    split <;> decide
  by_cases q7 : d = 68
  · subst q7
    exact ⟨len_Dc h, fun W hW => part_Dc h W hW⟩
  by_cases q8 : d = 70
  · subst q8
    exact ⟨len_Fc h, fun W hW => part_Fc h W hW⟩
  by_cases q9 : d = 82
  · subst q9
    exact ⟨len_Rc h, fun W hW => part_Rc h W hW⟩
  by_cases q10 : d = 84
  · subst q10
    exact ⟨len_Tc h, fun W hW => part_Tc h W hW⟩
  by_cases q11 : d = 110
  · subst q11
    exact ⟨by show ([10] : List UInt8).length ≤ 1000; decide, fun W _ => part_n x t W⟩
  by_cases q12 : d = 116
  · subst q12
    exact ⟨by show ([9] : List UInt8).length ≤ 1000; decide, fun W _ => part_t x t W⟩
  by_cases q13 : d = 122
  · subst q13
    exact ⟨by show ([43, 48, 48, 48, 48] : List UInt8).length ≤ 1000; decide, fun W _ => part_z x t W⟩
  by_cases q14 : d = 90
  · subst q14
    exact ⟨by show ([85, 84, 67] : List UInt8).length ≤ 1000; decide, fun W _ => part_Zc x t W⟩
  by_cases q15 : d = 37
  · subst q15
    exact ⟨by show ([37] : List UInt8).length ≤ 1000; decide, fun W _ => part_pc x t W⟩
  have e : partZ x th t d = lowZ x th t d := by
    unfold partZ
    rw [if_neg q0, if_neg q1, if_neg (fun z => z.elim q2 q3), if_neg q4, if_neg q5, if_neg q6, if_neg q7, if_neg q8, if_neg q9, if_neg q10, if_neg q11, if_neg q12, if_neg q13, if_neg q14, if_neg q15]
  rw [e]
  cases hn : numZ x th t d with
  | some p => exact part_low h d p.1 p.2 hn
  | none =>
    obtain ⟨n0, n1, n2, n3, n4, n5, n6, n7, n8, n9, n10, n11, n12, n13, n14, n15, n16, n17⟩ := numZ_none hn
    have e2 : lowZ x th t d = [37, d] := by unfold lowZ; rw [hn]
    rw [e2]
    exact ⟨by show 2 ≤ 1000; decide, fun W _ => part_none x t d W (fun W' => num_none x t d.toNat W' (u8_ne n0) (u8_ne n1) (u8_ne n2) (u8_ne n3) (u8_ne n4) (u8_ne n5) (u8_ne n6) (u8_ne n7) (u8_ne n8) (u8_ne n9) (u8_ne n10) (u8_ne n11) (u8_ne n12) (u8_ne n13) (u8_ne n14) (u8_ne n15) (u8_ne n16) (u8_ne n17)) (u8_ne q0) (u8_ne q1) (u8_ne q2) (u8_ne q3) (u8_ne q4) (u8_ne q5) (u8_ne q6) (u8_ne q7) (u8_ne q8) (u8_ne q9) (u8_ne q10) (u8_ne q11) (u8_ne q12) (u8_ne q13) (u8_ne q14) (u8_ne q15)⟩
/-- Text, whatever format and time. -/
theorem textT_all (S : ByteArray) (x th : DateZ) (t : Int) (h : Mom x th t) (w : World) (hM : CalMem w) (hS : S.size ≤ 2048) : Calls Tryd.prog 6 #[.string S, .int .i64 t] w fun e w' => e = .returned (.tuple #[.string ⟨(textR (txL (partZ x th t) S.data.toList)).1.toArray⟩, .int .i64 (textR (txL (partZ x th t) S.data.toList)).2]) ∧ Below w.heap.size w w' :=
  textT_of (partZ x th t) S x t w hM h.d h.lo h.hi hS (fun d _ => part_all h d)
end Go.Proofs.YtelhbkfhalpniaaDoor

namespace Go.Proofs.YtelhbkfhalpniaaDoor

/-- The number that digits write. -/
def vl (B : Nat) : List Nat → Nat
  | [] => 0
  | x :: l => x + B * vl B l
def Lim (B : Nat) (l : List Nat) : Prop := ∀ x ∈ l, x < B
/-- No nought at the top. -/
def Top (l : List Nat) : Prop := l.getLast? ≠ some 0

theorem vl_nil (B : Nat) : vl B [] = 0 := rfl
theorem vl_cons (B x : Nat) (l : List Nat) : vl B (x :: l) = x + B * vl B l := rfl
theorem vl_append (B : Nat) (l m : List Nat) : vl B (l ++ m) = vl B l + B ^ l.length * vl B m := by
  induction l with
  | nil => simp [vl]
  | cons x l ih =>
    rw [List.cons_append, vl_cons, ih, vl_cons, List.length_cons, Nat.pow_succ, Nat.mul_add, Nat.add_assoc, Nat.mul_comm (B ^ l.length) B, Nat.mul_assoc]
theorem vl_one (B x : Nat) : vl B [x] = x := by simp [vl]
theorem vl_snoc (B : Nat) (l : List Nat) (x : Nat) : vl B (l ++ [x]) = vl B l + B ^ l.length * x := by rw [vl_append, vl_one]
theorem vl_zeros (B n : Nat) : vl B (List.replicate n 0) = 0 := by
  induction n with
  | zero => rfl
  | succ n ih => rw [List.replicate_succ, vl_cons, ih]; rfl
theorem lim_nil (B : Nat) : Lim B [] := fun _ h => by cases h
theorem lim_append {B : Nat} {l m : List Nat} : Lim B (l ++ m) ↔ Lim B l ∧ Lim B m := by
  unfold Lim
  constructor
  · exact fun h => ⟨fun x hx => h x (List.mem_append_left _ hx), fun x hx => h x (List.mem_append_right _ hx)⟩
  · rintro ⟨h1, h2⟩ x hx
    rcases List.mem_append.1 hx with h | h
    · exact h1 x h
    · exact h2 x h
theorem lim_cons {B x : Nat} {l : List Nat} : Lim B (x :: l) ↔ x < B ∧ Lim B l := by
  unfold Lim
  simp
theorem lim_one {B x : Nat} : Lim B [x] ↔ x < B := by unfold Lim; simp
theorem lim_take {B : Nat} {l : List Nat} (h : Lim B l) (k : Nat) : Lim B (l.take k) := fun x hx => h x (List.mem_of_mem_take hx)
theorem lim_drop {B : Nat} {l : List Nat} (h : Lim B l) (k : Nat) : Lim B (l.drop k) := fun x hx => h x (List.mem_of_mem_drop hx)
theorem lim_get {B : Nat} {l : List Nat} (h : Lim B l) (k : Nat) (hk : k < l.length) : l[k] < B := h _ (List.getElem_mem hk)
theorem lim_zeros {B : Nat} (hB : 0 < B) (n : Nat) : Lim B (List.replicate n 0) := fun x hx => by rw [(List.mem_replicate.1 hx).2]; exact hB
theorem vl_lt {B : Nat} {l : List Nat} (h : Lim B l) : vl B l < B ^ l.length := by
  induction l with
  | nil => simp [vl]
  | cons x l ih =>
    obtain ⟨h1, h2⟩ := lim_cons.1 h
    have := ih h2
    rw [vl_cons, List.length_cons, Nat.pow_succ, Nat.mul_comm (B ^ l.length) B]
    have h3 : B * (vl B l + 1) ≤ B * B ^ l.length := Nat.mul_le_mul_left B this
    rw [Nat.mul_add] at h3
    omega
theorem vl_take_drop (B : Nat) (l : List Nat) (k : Nat) (hk : k ≤ l.length) : vl B l = vl B (l.take k) + B ^ k * vl B (l.drop k) := by
  have := vl_append B (l.take k) (l.drop k)
  rw [List.take_append_drop, List.length_take, Nat.min_eq_left hk] at this
  exact this
theorem take_succ_get {α : Type} (l : List α) (k : Nat) (hk : k < l.length) : l.take (k + 1) = l.take k ++ [l[k]] := by
  rw [List.take_succ_eq_append_getElem hk]
theorem drop_get {α : Type} (l : List α) (k : Nat) (hk : k < l.length) : l.drop k = l[k] :: l.drop (k + 1) := (List.drop_eq_getElem_cons hk)
theorem vl_take_succ (B : Nat) (l : List Nat) (k : Nat) (hk : k < l.length) : vl B (l.take (k + 1)) = vl B (l.take k) + B ^ k * l[k] := by
  rw [take_succ_get l k hk, vl_snoc, List.length_take, Nat.min_eq_left (by omega)]

theorem top_nil : Top [] := by simp [Top]
theorem top_snoc {l : List Nat} {x : Nat} : Top (l ++ [x]) ↔ x ≠ 0 := by simp [Top]
theorem snoc_of_ne {l : List Nat} (h : l ≠ []) : ∃ m x, l = m ++ [x] := ⟨l.dropLast, l.getLast h, (List.dropLast_concat_getLast h).symm⟩
theorem vl_top {B : Nat} {l : List Nat} (ht : Top l) (h : l ≠ []) : B ^ (l.length - 1) ≤ vl B l := by
  obtain ⟨m, x, rfl⟩ := snoc_of_ne h
  have hx := top_snoc.1 ht
  rw [vl_snoc, List.length_append, List.length_singleton, Nat.add_sub_cancel]
  have : B ^ m.length * 1 ≤ B ^ m.length * x := Nat.mul_le_mul_left _ (by omega)
  omega
/-- Digits that write a number as it is written. -/
def Norm (B : Nat) (l : List Nat) : Prop := Lim B l ∧ Top l
theorem norm_len_lt {B : Nat} (hB : 0 < B) {l m : List Nat} (hl : Lim B l) (hm : Top m) (h : l.length < m.length) : vl B l < vl B m := by
  have h1 := vl_lt hl
  have h2 := vl_top (B := B) hm (by intro e; rw [e] at h; simp at h)
  have h3 : B ^ l.length ≤ B ^ (m.length - 1) := Nat.pow_le_pow_right hB (by omega)
  omega
theorem lim_unique {B : Nat} : ∀ {l m : List Nat}, Lim B l → Lim B m → l.length = m.length → vl B l = vl B m → l = m
  | [], [], _, _, _, _ => rfl
  | [], _ :: _, _, _, h, _ => by simp at h
  | _ :: _, [], _, _, h, _ => by simp at h
  | x :: l, y :: m, hl, hm, h, he => by
    obtain ⟨a1, a2⟩ := lim_cons.1 hl
    obtain ⟨b1, b2⟩ := lim_cons.1 hm
    rw [vl_cons, vl_cons] at he
    have e1 : x = y := by
      have := congrArg (· % B) he
      simpa [Nat.add_mul_mod_self_left, Nat.mod_eq_of_lt a1, Nat.mod_eq_of_lt b1] using this
    subst e1
    have e2 : vl B l = vl B m := Nat.eq_of_mul_eq_mul_left (show 0 < B by omega) (by omega)
    rw [lim_unique a2 b2 (by simpa using h) e2]
theorem norm_unique {B : Nat} (hB : 0 < B) {l m : List Nat} (hl : Norm B l) (hm : Norm B m) (he : vl B l = vl B m) : l = m := by
  rcases Nat.lt_trichotomy l.length m.length with h | h | h
  · have := norm_len_lt hB hl.1 hm.2 h; omega
  · exact lim_unique hl.1 hm.1 h he
  · have := norm_len_lt hB hm.1 hl.2 h; omega
/-- Without noughts at the top. -/
def trimL : List Nat → List Nat
  | [] => []
  | x :: l => if trimL l = [] then (if x = 0 then [] else [x]) else x :: trimL l
theorem trimL_top : ∀ l, Top (trimL l)
  | [] => top_nil
  | x :: l => by
    unfold trimL
    split
    · split
      · exact top_nil
      · rename_i h; exact top_snoc (l := []).2 h
    · rename_i h
      have := trimL_top l
      obtain ⟨m, y, e⟩ := snoc_of_ne h
      rw [e] at this ⊢
      exact (top_snoc (l := x :: m)).2 (top_snoc.1 this)
theorem trimL_vl (B : Nat) : ∀ l, vl B (trimL l) = vl B l
  | [] => rfl
  | x :: l => by
    have ih := trimL_vl B l
    unfold trimL
    split
    · rename_i h
      rw [h, vl_nil] at ih
      rw [vl_cons, ← ih]
      split
      · rename_i h2; rw [h2]; rfl
      · simp [vl]
    · rw [vl_cons, vl_cons, ih]
theorem trimL_lim {B : Nat} : ∀ {l : List Nat}, Lim B l → Lim B (trimL l)
  | [], _ => lim_nil B
  | x :: l, h => by
    obtain ⟨h1, h2⟩ := lim_cons.1 h
    unfold trimL
    split
    · split
      · exact lim_nil B
      · exact lim_one.2 h1
    · exact lim_cons.2 ⟨h1, trimL_lim h2⟩
/-- The digits of a number: n of them, and noughts at the top taken away. -/
def digs (B : Nat) : Nat → Nat → List Nat
  | 0, _ => []
  | k + 1, n => n % B :: digs B k (n / B)
theorem digs_lim {B : Nat} (hB : 0 < B) : ∀ k n, Lim B (digs B k n)
  | 0, _ => lim_nil B
  | k + 1, _ => lim_cons.2 ⟨Nat.mod_lt _ hB, digs_lim hB k _⟩
theorem digs_vl {B : Nat} : ∀ k n, n < B ^ k → vl B (digs B k n) = n
  | 0, _, h => by simp at h; rw [h]; rfl
  | k + 1, n, h => by
    rw [digs, vl_cons, digs_vl k _ (Nat.div_lt_of_lt_mul (by rw [Nat.pow_succ, Nat.mul_comm] at h; exact h))]
    exact Nat.mod_add_div n B
theorem lt_pow_self' {B : Nat} (hB : 2 ≤ B) (n : Nat) : n < B ^ n := by
  exact Nat.lt_pow_self (by omega)
def dig (B n : Nat) : List Nat := trimL (digs B n n)
theorem dig_vl {B : Nat} (hB : 2 ≤ B) (n : Nat) : vl B (dig B n) = n := by rw [dig, trimL_vl, digs_vl _ _ (lt_pow_self' hB n)]
theorem dig_norm {B : Nat} (hB : 2 ≤ B) (n : Nat) : Norm B (dig B n) := ⟨trimL_lim (digs_lim (by omega) _ _), trimL_top _⟩
theorem dig_eq {B : Nat} (hB : 2 ≤ B) {l : List Nat} {n : Nat} (h : Norm B l) (hv : vl B l = n) : dig B n = l :=
  norm_unique (by omega) (dig_norm hB n) h (by rw [dig_vl hB, hv])
theorem dig_zero (B : Nat) : dig B 0 = [] := rfl
theorem dig_nil {B n : Nat} (hB : 2 ≤ B) (h : dig B n = []) : n = 0 := by rw [← dig_vl hB n, h]; rfl
/-- How the loop that takes noughts away ends. -/
theorem trim_take {B : Nat} (hB : 2 ≤ B) {l : List Nat} {n : Nat} (hl : Lim B l) (hn : n ≤ l.length) (h0 : ∀ j (_ : n ≤ j) (hj : j < l.length), l[j] = 0) (ht : n = 0 ∨ ∃ h : n - 1 < l.length, l[n - 1] ≠ 0) : dig B (vl B l) = l.take n ∧ (dig B (vl B l)).length = n := by
  have hd : l.drop n = List.replicate (l.length - n) 0 := by
    apply List.ext_getElem
    · simp
    · intro i h1 h2
      rw [List.getElem_drop, List.getElem_replicate]
      exact h0 _ (by omega) (by simp at h1; omega)
  have hv : vl B (l.take n) = vl B l := by
    rw [vl_take_drop B l n hn, hd, vl_zeros]; simp
  have e : dig B (vl B l) = l.take n := by
    refine dig_eq hB ⟨lim_take hl n, ?_⟩ hv
    rcases ht with rfl | ⟨h, ht⟩
    · exact top_nil
    · by_cases hz : n = 0
      · subst hz; exact top_nil
      · have := take_succ_get l (n - 1) h
        rw [show n - 1 + 1 = n by omega] at this
        rw [this]
        exact top_snoc.2 ht
  refine ⟨e, ?_⟩
  rw [e, List.length_take]; omega
/-- Comparison from the top: same above, less at one place. -/
theorem vl_cmp_at {B : Nat} {l m : List Nat} {k : Nat} (hl : Lim B l) (he : l.length = m.length) (hk : k < l.length) (ha : l.drop (k + 1) = m.drop (k + 1)) (hx : l[k] < m[k]'(by omega)) : vl B l < vl B m := by
  rw [vl_take_drop B l k (by omega), vl_take_drop B m k (by omega), drop_get l k hk, drop_get m k (by omega), vl_cons, vl_cons, ha]
  have h1 := vl_lt (lim_take hl k)
  rw [List.length_take, Nat.min_eq_left (by omega)] at h1
  generalize vl B (m.drop (k + 1)) = t
  generalize l[k] = x at hx ⊢
  generalize (m[k]'(by omega)) = y at hx ⊢
  have h2 : B ^ k * (x + B * t + 1) ≤ B ^ k * (y + B * t) := Nat.mul_le_mul_left _ (by omega)
  rw [Nat.mul_add _ _ 1] at h2
  omega
/-- Which lists are numbers: as long as the number is small. -/
theorem dig_len_le {B : Nat} (hB : 2 ≤ B) (n k : Nat) : (dig B n).length ≤ k ↔ n < B ^ k := by
  constructor
  · intro h
    have h1 := vl_lt (dig_norm hB n).1
    rw [dig_vl hB] at h1
    exact Nat.lt_of_lt_of_le h1 (Nat.pow_le_pow_right (by omega) h)
  · intro h
    rcases Nat.lt_or_ge k (dig B n).length with h1 | h1
    · have h2 := vl_top (B := B) (dig_norm hB n).2 (by intro e; rw [e] at h1; simp at h1)
      rw [dig_vl hB] at h2
      have h3 : B ^ k ≤ B ^ ((dig B n).length - 1) := Nat.pow_le_pow_right (by omega) (by omega)
      omega
    · exact h1
end Go.Proofs.YtelhbkfhalpniaaDoor

namespace Go.Proofs.YtelhbkfhalpniaaDoor

theorem take_set_succ {l : List Nat} {k y : Nat} (hk : k < l.length) : (l.set k y).take (k + 1) = l.take k ++ [y] := by
  rw [take_succ_get _ k (by simpa using hk), List.getElem_set_self, List.take_set_of_le (Nat.le_refl _)]
theorem drop_set_same {l : List Nat} {k y : Nat} (hk : k < l.length) : (l.set k y).drop k = y :: l.drop (k + 1) := by
  rw [drop_get _ k (by simpa using hk), List.getElem_set_self, List.drop_set_of_lt (by omega)]
theorem drop_set_succ {l : List Nat} {k y : Nat} : (l.set k y).drop (k + 1) = l.drop (k + 1) := List.drop_set_of_lt (by omega)
theorem take_set_same {l : List Nat} {k y : Nat} : (l.set k y).take k = l.take k := List.take_set_of_le (Nat.le_refl _)
theorem lim_set {B : Nat} {l : List Nat} {k y : Nat} (h : Lim B l) (hy : y < B) : Lim B (l.set k y) := fun x hx => by
  rcases List.mem_or_eq_of_mem_set hx with h1 | h1
  · exact h x h1
  · omega
theorem vl_set (B : Nat) : ∀ (l : List Nat) (k y : Nat) (hk : k < l.length), vl B (l.set k y) + B ^ k * l[k] = vl B l + B ^ k * y
  | x :: l, 0, y, _ => by simp [vl]; omega
  | x :: l, k + 1, y, hk => by
    have ih := vl_set B l k y (by simpa using hk)
    have := congrArg (B * ·) ih
    simp only [Nat.mul_add] at this
    simp only [List.set_cons_succ, vl_cons, List.getElem_cons_succ, Nat.pow_succ, Nat.mul_comm (B ^ k) B, Nat.mul_assoc]
    omega
/-- The digit at a place, 0 behind the end. -/
theorem vl_take_get (B : Nat) (l : List Nat) (k : Nat) : vl B (l.take (k + 1)) = vl B (l.take k) + B ^ k * l.getD k 0 := by
  by_cases hk : k < l.length
  · rw [vl_take_succ B l k hk, List.getD_eq_getElem?_getD, List.getElem?_eq_getElem hk]; rfl
  · rw [List.take_of_length_le (by omega), List.take_of_length_le (by omega), List.getD_eq_getElem?_getD, List.getElem?_eq_none (by omega)]; simp
theorem vl_take_all {B : Nat} {l : List Nat} {k : Nat} (h : l.length ≤ k) : vl B (l.take k) = vl B l := by rw [List.take_of_length_le h]
theorem getD_of {l : List Nat} {k : Nat} (hk : k < l.length) : l.getD k 0 = l[k] := by rw [List.getD_eq_getElem?_getD, List.getElem?_eq_getElem hk]; rfl
theorem getD_no {l : List Nat} {k : Nat} (hk : ¬ k < l.length) : l.getD k 0 = 0 := by rw [List.getD_eq_getElem?_getD, List.getElem?_eq_none (by omega)]; rfl
theorem getD_lt {B : Nat} {l : List Nat} (h : Lim B l) (hB : 0 < B) (k : Nat) : l.getD k 0 < B := by
  by_cases hk : k < l.length
  · rw [getD_of hk]; exact lim_get h k hk
  · rw [getD_no hk]; exact hB

/-- One digit: what is put down and what is carried. -/
theorem digit_step {B P z : Nat} : P * z = P * (z % B) + P * B * (z / B) := by
  have := Nat.mod_add_div z B
  have h2 := congrArg (P * ·) this
  simp only [Nat.mul_add, ← Nat.mul_assoc] at h2
  exact h2.symm

/-- The state of a loop that goes up over xs and has put cur in its place: below k done. -/
structure Up (B : Nat) (xs cur : List Nat) (k : Nat) : Prop where
  len : cur.length = xs.length
  lim : Lim B cur
  rest : cur.drop k = xs.drop k
  le : k ≤ xs.length
theorem up_start {B : Nat} {xs : List Nat} (h : Lim B xs) : Up B xs xs 0 := ⟨rfl, h, rfl, Nat.zero_le _⟩
theorem up_get {B : Nat} {xs cur : List Nat} {k : Nat} (h : Up B xs cur k) (hk : k < xs.length) : cur[k]'(by rw [h.len]; exact hk) = xs[k] := by
  have h3 := h.rest
  rw [drop_get cur k (by rw [h.len]; exact hk), drop_get xs k hk] at h3
  exact (List.cons.inj h3).1
theorem up_step {B : Nat} {xs cur : List Nat} {k y : Nat} (h : Up B xs cur k) (hk : k < xs.length) (hy : y < B) : Up B xs (cur.set k y) (k + 1) := by
  refine ⟨by rw [List.length_set, h.len], lim_set h.lim hy, ?_, hk⟩
  have h3 := h.rest
  rw [drop_get cur k (by rw [h.len]; exact hk), drop_get xs k hk] at h3
  rw [drop_set_succ, (List.cons.inj h3).2]
theorem up_vl {B : Nat} {xs cur : List Nat} {k y : Nat} (h : Up B xs cur k) (hk : k < xs.length) : vl B ((cur.set k y).take (k + 1)) = vl B (cur.take k) + B ^ k * y := by
  have hc := h.len
  rw [take_set_succ (by omega), vl_snoc, List.length_take, Nat.min_eq_left (by omega)]

/-- addTo: the carry c ahead of place k. -/
def AddR (B : Nat) (xs bs cur : List Nat) (k c : Nat) : Prop := Up B xs cur k ∧ vl B (cur.take k) + B ^ k * c = vl B (xs.take k) + vl B (bs.take k) ∧ c ≤ 1
theorem addR_start {B : Nat} {xs bs : List Nat} (h : Lim B xs) : AddR B xs bs xs 0 0 := ⟨up_start h, by simp [vl], by omega⟩
theorem addR_step {B : Nat} (hB : 2 ≤ B) {xs bs cur : List Nat} {k c : Nat} (h : AddR B xs bs cur k c) (hx : Lim B xs) (hb : Lim B bs) (hk : k < xs.length) (z : Nat) (hz : z = c + xs[k] + bs.getD k 0) : AddR B xs bs (cur.set k (z % B)) (k + 1) (z / B) := by
  obtain ⟨h1, h2, h3⟩ := h
  have b1 := lim_get hx k hk
  have b2 := getD_lt hb (by omega) k
  refine ⟨up_step h1 hk (Nat.mod_lt _ (by omega)), ?_, ?_⟩
  · rw [up_vl h1 hk, vl_take_succ B xs k hk, vl_take_get B bs k, Nat.pow_succ]
    have hd := digit_step (B := B) (P := B ^ k) (z := z)
    have e1 := congrArg (B ^ k * ·) hz
    simp only [Nat.mul_add] at hd e1 h2 ⊢
    omega
  · have : z < B * 2 := by omega
    have := Nat.div_lt_of_lt_mul this
    omega

/-- takeFrom: what is carried of the product, and what was borrowed. -/
def TakeR (B t : Nat) (xs bs cur : List Nat) (k m r : Nat) : Prop := Up B xs cur k ∧ vl B (cur.take k) + t * vl B (bs.take k) = vl B (xs.take k) + B ^ k * (m + r) ∧ r ≤ 1 ∧ (m = 0 ∨ m < t) ∧ (bs.length < k → t ≤ B → m = 0)
theorem takeR_start {B t : Nat} {xs bs : List Nat} (h : Lim B xs) : TakeR B t xs bs xs 0 0 0 := ⟨up_start h, by simp [vl], by omega, .inl rfl, fun _ _ => rfl⟩
theorem takeR_step {B t : Nat} (hB : 2 ≤ B) {xs bs cur : List Nat} {k m r : Nat} (h : TakeR B t xs bs cur k m r) (hb : Lim B bs) (hk : k < xs.length) (z y r' : Nat) (hz : z = m + t * bs.getD k 0)
    (hy : y + z % B + r = xs[k] + B * r') (hy2 : y < B) (hr : r' ≤ 1) : TakeR B t xs bs (cur.set k y) (k + 1) (z / B) r' := by
  obtain ⟨h1, h2, h3, h4, _⟩ := h
  have b2 := getD_lt hb (by omega) k
  refine ⟨up_step h1 hk hy2, ?_, hr, ?_, fun hl ht => ?_⟩
  · rw [up_vl h1 hk, vl_take_succ B xs k hk, vl_take_get B bs k, Nat.pow_succ]
    have hd := digit_step (B := B) (P := B ^ k) (z := z)
    have e1 := congrArg (B ^ k * ·) hz
    have e2 := congrArg (B ^ k * ·) hy
    simp only [Nat.mul_add, ← Nat.mul_assoc] at hd e1 e2 h2 ⊢
    rw [Nat.mul_comm t (B ^ k)]
    omega
  · rcases Nat.eq_zero_or_pos t with ht | ht
    · left
      subst ht
      obtain rfl : m = 0 := by omega
      rw [hz]; simp
    · right
      apply Nat.div_lt_of_lt_mul
      have : t * bs.getD k 0 ≤ t * (B - 1) := Nat.mul_le_mul_left _ (by omega)
      rw [Nat.mul_sub, Nat.mul_one, Nat.mul_comm t B] at this
      have : t ≤ B * t := Nat.le_mul_of_pos_left t (by omega)
      omega
  · rw [hz, getD_no (by omega), Nat.mul_zero, Nat.add_zero]
    exact Nat.div_eq_of_lt (by omega)

/-- mulAdd. -/
def MulR (B t more : Nat) (xs cur : List Nat) (k c : Nat) : Prop := Up B xs cur k ∧ vl B (cur.take k) + B ^ k * c = vl B (xs.take k) * t + more ∧ c < B
theorem mulR_start {B t more : Nat} {xs : List Nat} (h : Lim B xs) (hm : more < B) : MulR B t more xs xs 0 more := ⟨up_start h, by simp [vl], hm⟩
theorem mulR_step {B t more : Nat} {xs cur : List Nat} {k c : Nat} (h : MulR B t more xs cur k c) (ht : t < B) (hx : Lim B xs) (hk : k < xs.length) (z : Nat) (hz : z = c + xs[k] * t) : MulR B t more xs (cur.set k (z % B)) (k + 1) (z / B) := by
  obtain ⟨h1, h2, h3⟩ := h
  have b1 := lim_get hx k hk
  have hzb : z < B * B := by
    have h5 : (xs[k] + 1) * (t + 1) ≤ B * B := Nat.mul_le_mul b1 ht
    simp only [Nat.add_mul, Nat.mul_add, Nat.mul_one, Nat.one_mul] at h5
    have h6 : xs[k] * t + xs[k] + t + 1 ≤ B * B := by omega
    rcases Nat.eq_zero_or_pos (xs[k] * t) with h7 | h7
    · have : B ≤ B * B := Nat.le_mul_of_pos_left B (by omega)
      omega
    · have h8 : (B - 1) * (B - 1) + B ≤ B * B := by
        obtain ⟨b, rfl⟩ : ∃ b, B = b + 1 := ⟨B - 1, by omega⟩
        simp only [Nat.add_sub_cancel, Nat.add_mul, Nat.mul_add, Nat.mul_one, Nat.one_mul]
        omega
      have h9 : xs[k] * t ≤ (B - 1) * (B - 1) := Nat.mul_le_mul (by omega) (by omega)
      omega
  refine ⟨up_step h1 hk (Nat.mod_lt _ (by omega)), ?_, Nat.div_lt_of_lt_mul hzb⟩
  rw [up_vl h1 hk, vl_take_succ B xs k hk, Nat.pow_succ]
  have hd := digit_step (B := B) (P := B ^ k) (z := z)
  have e1 := congrArg (B ^ k * ·) hz
  simp only [Nat.mul_add, ← Nat.mul_assoc] at hd e1 h2 ⊢
  rw [Nat.add_mul]
  omega

/-- The state of a loop that goes down: from i on done. -/
structure Down (B : Nat) (xs cur : List Nat) (i : Nat) : Prop where
  len : cur.length = xs.length
  lim : Lim B cur
  rest : cur.take i = xs.take i
  le : i ≤ xs.length
theorem down_start {B : Nat} {xs : List Nat} (h : Lim B xs) : Down B xs xs xs.length := ⟨rfl, h, rfl, Nat.le_refl _⟩
theorem down_get {B : Nat} {xs cur : List Nat} {i : Nat} (h : Down B xs cur (i + 1)) : cur[i]'(by have := h.len; have := h.le; omega) = xs[i]'h.le := by
  have h3 := h.rest
  rw [take_succ_get cur i (by have := h.len; have := h.le; omega), take_succ_get xs i h.le] at h3
  exact List.singleton_inj.1 (List.append_inj' h3 rfl).2
theorem down_step {B : Nat} {xs cur : List Nat} {i y : Nat} (h : Down B xs cur (i + 1)) (hy : y < B) : Down B xs (cur.set i y) i := by
  refine ⟨by rw [List.length_set, h.len], lim_set h.lim hy, ?_, by have := h.le; omega⟩
  have h3 := congrArg (List.take i) h.rest
  rw [List.take_take, List.take_take, Nat.min_eq_left (by omega)] at h3
  rw [take_set_same, h3]
theorem down_vl {B : Nat} {xs cur : List Nat} {i y : Nat} (h : Down B xs cur (i + 1)) : vl B ((cur.set i y).drop i) = y + B * vl B (cur.drop (i + 1)) := by
  rw [drop_set_same (by have := h.len; have := h.le; omega), vl_cons]
/-- divLimb: what is left ahead of place i. -/
def DivR (B d : Nat) (xs cur : List Nat) (i left : Nat) : Prop := Down B xs cur i ∧ vl B (xs.drop i) = d * vl B (cur.drop i) + left ∧ left < d
theorem divR_start {B d : Nat} {xs : List Nat} (h : Lim B xs) (hd : 0 < d) : DivR B d xs xs xs.length 0 := ⟨down_start h, by simp [vl], hd⟩
theorem divR_step {B d : Nat} {xs cur : List Nat} {i left : Nat} (h : DivR B d xs cur (i + 1) left) (hx : Lim B xs) (z : Nat) (hz : z = left * B + xs[i]'h.1.le) : DivR B d xs (cur.set i (z / d)) i (z % d) ∧ z / d < B := by
  obtain ⟨h1, h2, h3⟩ := h
  have hi := h1.le
  have b1 := lim_get hx i hi
  have hq : z / d < B := by
    apply Nat.div_lt_of_lt_mul
    have : (left + 1) * B ≤ d * B := Nat.mul_le_mul_right _ h3
    rw [Nat.add_mul, Nat.one_mul] at this
    omega
  refine ⟨⟨down_step h1 hq, ?_, Nat.mod_lt _ (by omega)⟩, hq⟩
  rw [down_vl h1, drop_get xs i hi, vl_cons, h2]
  have := Nat.div_add_mod z d
  simp only [Nat.mul_add, ← Nat.mul_assoc, Nat.mul_comm B d, Nat.mul_comm left B] at *
  omega
/-- shiftDown by D (a power of two that divides B): the word's lowest digit is the one above. -/
def ShdR (B D : Nat) (xs cur : List Nat) (i v : Nat) : Prop := Down B xs cur i ∧ vl B (cur.drop i) = vl B (xs.drop i) / D ∧ v = vl B (xs.drop i) % B
theorem shdR_start {B D : Nat} {xs : List Nat} (h : Lim B xs) : ShdR B D xs xs xs.length 0 := ⟨down_start h, by simp [vl], by simp [vl]⟩
theorem shd_num {B D q x V : Nat} (hD : 0 < D) (hB : B = D * q) (hx : x < B) : (x + B * V) / D = ((V % B * B + x) / D) % B + B * (V / D) := by
  subst hB
  have e1 : V % (D * q) % D = V % D := Nat.mod_mul_right_mod V D q
  have e2 := Nat.div_add_mod V D
  have e3 := Nat.div_add_mod (V % (D * q)) D
  rw [e1] at e3
  have hr : V % D < D := Nat.mod_lt _ hD
  generalize V / D = a at *
  generalize V % (D * q) / D = b at *
  generalize V % (D * q) = c at *
  generalize V % D = r at *
  rw [← e2, ← e3]
  have f1 : x + D * q * (D * a + r) = (x + D * q * r) + D * (D * q * a) := by
    simp only [Nat.mul_add, Nat.mul_comm, Nat.mul_left_comm]; omega
  have f2 : (D * b + r) * (D * q) + x = (x + D * q * r) + D * (D * q * b) := by
    simp only [Nat.mul_add, Nat.mul_comm, Nat.mul_left_comm]; omega
  rw [f1, f2, Nat.add_mul_div_left _ _ hD, Nat.add_mul_div_left _ _ hD, Nat.add_mul_mod_self_left]
  congr 1
  symm
  apply Nat.mod_eq_of_lt
  apply Nat.div_lt_of_lt_mul
  have : D * q * (r + 1) ≤ D * q * D := Nat.mul_le_mul_left _ hr
  rw [Nat.mul_add, Nat.mul_one] at this
  rw [Nat.mul_comm D (D * q)]
  omega
theorem shdR_step {B D q : Nat} (hD : 0 < D) (hB : B = D * q) {xs cur : List Nat} {i v : Nat} (h : ShdR B D xs cur (i + 1) v) (hx : Lim B xs) (y : Nat) (hy : y = ((v * B + xs[i]'h.1.le) / D) % B) : ShdR B D xs (cur.set i y) i (xs[i]'h.1.le) := by
  obtain ⟨h1, h2, rfl⟩ := h
  have hi := h1.le
  have b1 := lim_get hx i hi
  refine ⟨down_step h1 (by rw [hy]; exact Nat.mod_lt _ (by omega)), ?_, ?_⟩
  · rw [down_vl h1, drop_get xs i hi, vl_cons, shd_num hD hB b1, h2, hy]
  · rw [drop_get xs i hi, vl_cons, Nat.add_mul_mod_self_left, Nat.mod_eq_of_lt b1]
/-- shiftUp by D, the limbs of a into cur. -/
def ShuR (B D : Nat) (al cur : List Nat) (i c : Nat) : Prop := vl B (cur.take i) + B ^ i * c = vl B (al.take i) * D ∧ c < D ∧ Lim B cur
theorem shuR_start {B D : Nat} {al cur : List Nat} (h : Lim B cur) (hD : 0 < D) : ShuR B D al cur 0 0 := ⟨by simp [vl], hD, h⟩
theorem shuR_step {B D : Nat} {al cur : List Nat} {i c : Nat} (h : ShuR B D al cur i c) (ha : Lim B al) (hi : i < al.length) (hc : i < cur.length) (z : Nat) (hz : z = al[i] * D + c) : ShuR B D al (cur.set i (z % B)) (i + 1) (z / B) := by
  obtain ⟨h1, h2, h3⟩ := h
  have b1 := lim_get ha i hi
  refine ⟨?_, ?_, lim_set h3 (Nat.mod_lt _ (by omega))⟩
  · rw [take_set_succ hc, vl_snoc, List.length_take, Nat.min_eq_left (by omega), vl_take_succ B al i hi, Nat.pow_succ, Nat.add_mul]
    have hd := digit_step (B := B) (P := B ^ i) (z := z)
    have e1 := congrArg (B ^ i * ·) hz
    simp only [Nat.mul_add, ← Nat.mul_assoc] at hd e1 h1 ⊢
    omega
  · apply Nat.div_lt_of_lt_mul
    have : (al[i] + 1) * D ≤ B * D := Nat.mul_le_mul_right _ b1
    rw [Nat.add_mul, Nat.one_mul] at this
    omega
end Go.Proofs.YtelhbkfhalpniaaDoor

namespace Go.Proofs.YtelhbkfhalpniaaDoor

theorem le_div' {D q N : Nat} (h : q * D ≤ N) (hD : 0 < D) : q ≤ N / D := (Nat.le_div_iff_mul_le hD).2 h
theorem div_lt' {D q N : Nat} (h : N < q * D) (hD : 0 < D) : N / D < q := (Nat.div_lt_iff_lt_mul hD).2 h
theorem div_mul_le' (N D : Nat) : N / D * D ≤ N := Nat.div_mul_le_self N D
theorem lt_div_succ (N D : Nat) (hD : 0 < D) : N < (N / D + 1) * D := by
  have := Nat.div_add_mod N D
  have h2 := Nat.mod_lt N hD
  rw [Nat.add_mul, Nat.one_mul, Nat.mul_comm]
  omega

/-- All that is known of the numbers that are guessed by: the divisor's two top limbs, the dividend's three. -/
structure GuessOk (B P Dl v1 v0 Nl u2 u1 u0 : Nat) : Prop where
  hP : 0 < P
  hDl : Dl < P
  hNl : Nl < P
  hv0 : v0 < B
  hv1 : v1 < B
  hu0 : u0 < B
  htop : B ≤ 2 * v1
  hB2 : 2 ≤ B
  hless : Nl + P * (u0 + B * (u1 + B * u2)) < B * (Dl + P * (v0 + B * v1))
section
variable {B P Dl v1 v0 Nl u2 u1 u0 : Nat} (h : GuessOk B P Dl v1 v0 Nl u2 u1 u0)
include h
theorem guess_W : u1 + B * u2 < B * v1 + B := by
  have h1 : P * (B * (u1 + B * u2)) < P * (B * (v0 + B * v1 + 1)) := by
    have a := h.hless
    have b : B * Dl + B ≤ B * P := by rw [← Nat.mul_succ]; exact Nat.mul_le_mul_left _ h.hDl
    have c : P * (B * (v0 + B * v1 + 1)) = B * (P * (v0 + B * v1)) + B * P := by
      rw [Nat.mul_left_comm, Nat.mul_add, Nat.mul_one, Nat.mul_add]
    rw [Nat.mul_add P u0, Nat.mul_add B Dl] at a
    rw [c]
    omega
  have h2 := Nat.lt_of_mul_lt_mul_left (Nat.lt_of_mul_lt_mul_left h1)
  have := h.hv0
  omega
theorem guess_q : (Nl + P * (u0 + B * (u1 + B * u2))) / (Dl + P * (v0 + B * v1)) < B := by
  apply div_lt' h.hless
  have h1 := h.hP
  have h2 := h.htop
  have h3 := h.hB2
  have : 0 < P * (v0 + B * v1) := Nat.mul_pos h1 (by have : 0 < B * v1 := Nat.mul_pos (by omega) (by omega); omega)
  omega
theorem guess_D : B * P ≤ Dl + P * (v0 + B * v1) := by
  have h2 := h.htop
  have h3 := h.hB2
  have : B * 1 ≤ B * v1 := Nat.mul_le_mul_left _ (by omega)
  have : P * B ≤ P * (v0 + B * v1) := Nat.mul_le_mul_left _ (by omega)
  rw [Nat.mul_comm B P]
  omega
theorem guess_Dpos : 0 < Dl + P * (v0 + B * v1) := by
  have := guess_D h
  have : 0 < B * P := Nat.mul_pos (by have := h.hB2; omega) h.hP
  omega
theorem guess_start : (Nl + P * (u0 + B * (u1 + B * u2))) / (Dl + P * (v0 + B * v1)) ≤ (u1 + B * u2) / v1 := by
  have hv : 0 < v1 := by have := h.htop; have := h.hB2; omega
  have hq := div_mul_le' (Nl + P * (u0 + B * (u1 + B * u2))) (Dl + P * (v0 + B * v1))
  generalize (Nl + P * (u0 + B * (u1 + B * u2))) / (Dl + P * (v0 + B * v1)) = q at *
  apply le_div' _ hv
  have h1 : P * (B * (q * v1)) < P * (B * (u1 + B * u2 + 1)) := by
    have e1 : P * (B * (q * v1)) ≤ q * (Dl + P * (v0 + B * v1)) := by
      have : P * (B * (q * v1)) = q * (P * (B * v1)) := by simp only [Nat.mul_left_comm, Nat.mul_comm]
      rw [this]
      exact Nat.mul_le_mul_left _ (by rw [Nat.mul_add]; omega)
    have e2 : Nl + P * (u0 + B * (u1 + B * u2)) < P * (B * (u1 + B * u2 + 1)) := by
      have a := h.hNl
      have : P * (u0 + B * (u1 + B * u2) + 1) ≤ P * (B * (u1 + B * u2 + 1)) := Nat.mul_le_mul_left _ (by rw [Nat.mul_add B _ 1]; have := h.hu0; omega)
      rw [Nat.mul_add P _ 1] at this
      omega
    omega
  have := Nat.lt_of_mul_lt_mul_left (Nat.lt_of_mul_lt_mul_left h1)
  omega
omit h in
theorem guess_prod {t left : Nat} (hW : t * v1 + left = u1 + B * u2) : t * (v0 + B * v1) + (u0 + left * B) = u0 + B * (u1 + B * u2) + t * v0 := by
  rw [← hW]
  simp only [Nat.mul_add, Nat.mul_comm, Nat.mul_left_comm]
  omega
theorem guess_down {t left : Nat} (hW : t * v1 + left = u1 + B * u2) (hc : B ≤ t ∨ left * B + u0 < t * v0) : (Nl + P * (u0 + B * (u1 + B * u2))) / (Dl + P * (v0 + B * v1)) < t := by
  rcases hc with hc | hc
  · have := guess_q h; omega
  · have hp := guess_prod (v0 := v0) (u0 := u0) hW
    apply div_lt' _ (guess_Dpos h)
    have e1 : P * (u0 + B * (u1 + B * u2) + 1) ≤ P * (t * (v0 + B * v1)) := Nat.mul_le_mul_left _ (by omega)
    have e2 : t * (Dl + P * (v0 + B * v1)) = t * Dl + P * (t * (v0 + B * v1)) := by rw [Nat.mul_add, Nat.mul_left_comm]
    rw [e2]
    rw [Nat.mul_add P _ 1] at e1
    have := h.hNl
    omega
theorem guess_end {t left : Nat} (hW : t * v1 + left = u1 + B * u2) (ht : t < B) (hc : t * v0 ≤ left * B + u0) : t ≤ (Nl + P * (u0 + B * (u1 + B * u2))) / (Dl + P * (v0 + B * v1)) + 1 := by
  have hp := guess_prod (v0 := v0) (u0 := u0) hW
  have hD := guess_D h
  have hlt := lt_div_succ (Nl + P * (u0 + B * (u1 + B * u2))) (Dl + P * (v0 + B * v1)) (guess_Dpos h)
  have e2 : t * (Dl + P * (v0 + B * v1)) = t * Dl + P * (t * (v0 + B * v1)) := by rw [Nat.mul_add, Nat.mul_left_comm]
  have e3 : P * (t * (v0 + B * v1)) ≤ P * (u0 + B * (u1 + B * u2)) := Nat.mul_le_mul_left _ (by omega)
  have e4 : t * Dl ≤ B * P := Nat.mul_le_mul (by omega) (by have := h.hDl; omega)
  generalize hq : (Nl + P * (u0 + B * (u1 + B * u2))) / (Dl + P * (v0 + B * v1)) = q at *
  generalize Dl + P * (v0 + B * v1) = D at *
  have e5 : t * D ≤ Nl + P * (u0 + B * (u1 + B * u2)) + D := by omega
  rcases Nat.lt_or_ge (q + 1) t with h1 | h1
  · have h2 : (q + 2) * D ≤ t * D := Nat.mul_le_mul_right _ h1
    rw [Nat.add_mul] at h2 hlt
    omega
  · exact h1
/-- The sum of what is left has a limb more: it is the end. -/
theorem guess_break {t left : Nat} (hW : t * v1 + left = u1 + B * u2) (hl : B ≤ left) : t < B ∧ t * v0 ≤ left * B + u0 := by
  have h1 := guess_W h
  have ht : t < B := by
    have : t * v1 < B * v1 := by omega
    exact Nat.lt_of_mul_lt_mul_right this
  refine ⟨ht, ?_⟩
  have a : t * v0 ≤ B * B := Nat.mul_le_mul (by omega) (by have := h.hv0; omega)
  have b : B * B ≤ left * B := Nat.mul_le_mul_right _ hl
  omega
theorem guess_max {t left : Nat} (hW : t * v1 + left = u1 + B * u2) : t < B + 2 := by
  have h1 := guess_W h
  have h2 := h.htop
  have : t * v1 < (B + 2) * v1 := by rw [Nat.add_mul]; omega
  exact Nat.lt_of_mul_lt_mul_right this
end

/-- What is left of the dividend in cur, the quotient's limbs from i on in qs. -/
structure Long (B D A : Nat) (cur qs : List Nat) (i : Nat) : Prop where
  lim : Lim B cur
  qlim : Lim B qs
  less : vl B (cur.drop i) < D
  eq : A = vl B cur + B ^ i * (D * vl B (qs.drop i))
section
variable {B D A : Nat} {cur qs : List Nat} {i n : Nat}
theorem zeros_above (h : vl B (cur.drop i) < D) (hD : D < B ^ n) (hi : i + n ≤ cur.length) : vl B (cur.drop (i + n)) = 0 := by
  have h1 := vl_take_drop B (cur.drop i) n (by rw [List.length_drop]; omega)
  rw [List.drop_drop] at h1
  rcases Nat.eq_zero_or_pos (vl B (cur.drop (i + n))) with h0 | h0
  · exact h0
  · have : B ^ n * 1 ≤ B ^ n * vl B (cur.drop (i + n)) := Nat.mul_le_mul_left _ h0
    omega
/-- The part that a round divides. -/
theorem long_part (h : Long B D A cur qs (i + 1)) (hD : D < B ^ n) (hi : i + 1 + n ≤ cur.length) : vl B ((cur.drop i).take (n + 1)) = vl B (cur.drop i) ∧ vl B (cur.drop i) < B * D := by
  have hz := zeros_above h.less hD hi
  have h1 := vl_take_drop B (cur.drop i) (n + 1) (by rw [List.length_drop]; omega)
  rw [List.drop_drop, show i + (n + 1) = i + 1 + n by omega, hz] at h1
  refine ⟨by rw [h1]; simp, ?_⟩
  rw [drop_get cur i (by omega), vl_cons]
  have h2 := lim_get h.lim i (by omega)
  have h3 := h.less
  have : B * (vl B (cur.drop (i + 1)) + 1) ≤ B * D := Nat.mul_le_mul_left _ h3
  rw [Nat.mul_add] at this
  omega
theorem long_step (h : Long B D A cur qs (i + 1)) (hD : D < B ^ n) (hD0 : 0 < D) (hi : i + 1 + n ≤ cur.length) (hq : i < qs.length) {part : List Nat} (hp : part.length = n + 1) (hpl : Lim B part)
    (hv : vl B part = vl B (cur.drop i) % D) : Long B D A (cur.take i ++ part ++ cur.drop (i + 1 + n)) (qs.set i (vl B (cur.drop i) / D)) i ∧ vl B (cur.drop i) / D < B := by
  have hz := zeros_above h.less hD hi
  obtain ⟨_, hpB⟩ := long_part h hD hi
  have hqB : vl B (cur.drop i) / D < B := div_lt' hpB hD0
  have hlt : (cur.take i).length = i := by rw [List.length_take]; omega
  refine ⟨⟨?_, lim_set h.qlim hqB, ?_, ?_⟩, hqB⟩
  · exact lim_append.2 ⟨lim_append.2 ⟨lim_take h.lim _, hpl⟩, lim_drop h.lim _⟩
  · rw [List.append_assoc, List.drop_append_of_le_length (by omega), List.drop_of_length_le (by omega), List.nil_append, vl_append, hz, hv]
    simpa using Nat.mod_lt _ hD0
  · rw [h.eq, drop_set_same hq, vl_cons, vl_append, hz, vl_append, hlt, hv, vl_take_drop B cur i (by omega), Nat.pow_succ]
    have e := congrArg (B ^ i * ·) (Nat.mod_add_div (vl B (cur.drop i)) D)
    simp only [Nat.mul_add, ← Nat.mul_assoc, Nat.mul_zero, Nat.add_zero] at e ⊢
    rw [Nat.mul_right_comm (B ^ i) B D]
    omega
end
/-- What takeFrom, and addTo behind it, leave of the part. -/
theorem take_no {N D t x : Nat} (h : x + t * D = N) (ht : N / D ≤ t) (ht2 : t ≤ N / D + 1) (hD : 0 < D) : x = N % D ∧ t = N / D := by
  have h1 := Nat.div_add_mod N D
  have h2 := Nat.mod_lt N hD
  rcases Nat.lt_or_ge (N / D) t with h3 | h3
  · have : t = N / D + 1 := by omega
    subst this
    rw [Nat.add_mul, Nat.one_mul, Nat.mul_comm] at h
    omega
  · have : t = N / D := by omega
    subst this
    rw [Nat.mul_comm] at h
    exact ⟨by omega, rfl⟩
theorem take_yes {M N D t x y c : Nat} (h : x + t * D = N + M) (h2 : y + M * c = x + D) (hx : x < M) (hy : y < M) (hc : c ≤ 1) (ht : N / D ≤ t) (ht2 : t ≤ N / D + 1) (hD : 0 < D) : y = N % D ∧ t - 1 = N / D ∧ 0 < t := by
  have h1 := Nat.div_add_mod N D
  have h3 := Nat.mod_lt N hD
  generalize N / D = q at *
  generalize N % D = r at *
  have ht3 : t = q + 1 := by
    rcases Nat.lt_or_ge q t with h4 | h4
    · omega
    · have : t = q := by omega
      subst this
      rw [Nat.mul_comm] at h
      omega
  subst ht3
  rw [Nat.add_mul, Nat.one_mul, Nat.mul_comm] at h
  have hc1 : c = 1 := by
    rcases Nat.eq_zero_or_pos c with h4 | h4
    · subst h4; rw [Nat.mul_zero] at h2; omega
    · omega
  subst hc1
  rw [Nat.mul_one] at h2
  exact ⟨by omega, by omega, by omega⟩
/-- The rest of the scaled division is the scaled rest. -/
theorem unscale {a b S r q : Nat} (hS : 0 < S) (h : a * S = r + b * S * q) (hr : r < b * S) : r / S = a % b ∧ q = a / b := by
  have hb : 0 < b := by
    rcases Nat.eq_zero_or_pos b with h0 | h0
    · subst h0; simp at hr
    · exact h0
  have e : r = S * (a - b * q) := by
    rw [Nat.mul_sub, Nat.mul_comm S a, h, ← Nat.mul_assoc, Nat.mul_comm S b]; omega
  have e2 : r / S = a - b * q := by rw [e, Nat.mul_div_cancel_left _ hS]
  have hlt : a - b * q < b := by
    rw [e, Nat.mul_comm b S] at hr
    exact Nat.lt_of_mul_lt_mul_left hr
  have hle : b * q ≤ a := by
    have : S * (b * q) ≤ S * a := by
      rw [Nat.mul_comm S a, h, ← Nat.mul_assoc, Nat.mul_comm S b]; omega
    exact Nat.le_of_mul_le_mul_left this hS
  have hq : a / b = q := Nat.div_eq_of_lt_le (by rw [Nat.mul_comm]; exact hle) (by rw [Nat.add_mul, Nat.one_mul, Nat.mul_comm q]; omega)
  refine ⟨?_, hq.symm⟩
  have := Nat.div_add_mod a b
  rw [hq] at this
  omega
end Go.Proofs.YtelhbkfhalpniaaDoor

namespace Go.Proofs.YtelhbkfhalpniaaDoor
open Go.RowKit

/-- Numbers as cells. -/
def nums (κ : IntKind) (xs : List Nat) : List Value := xs.map fun x : Nat => Value.int κ (x : Int)
theorem nums_len (κ : IntKind) (xs : List Nat) : (nums κ xs).length = xs.length := List.length_map _
theorem nums_set (κ : IntKind) (xs : List Nat) (k y : Nat) : (nums κ xs).set k (.int κ (y : Nat)) = nums κ (xs.set k y) := by
  unfold nums; rw [List.map_set]
theorem nums_append (κ : IntKind) (xs ys : List Nat) : nums κ (xs ++ ys) = nums κ xs ++ nums κ ys := List.map_append
/-- Block g is L, then the numbers xs, then R, and may be written. -/
def At (κ : IntKind) (w : World) (g : Nat) (t : TypeId) (L : List Value) (xs : List Nat) (R : List Value) : Prop :=
  ∃ cs : Array Value, w.heap[g]? = some (.cells cs t (0, 0)) ∧ cs.toList = L ++ nums κ xs ++ R
section
variable {κ : IntKind} {w w' : World} {g o : Nat} {t : TypeId} {L R : List Value} {xs : List Nat}
theorem At.lt (h : At κ w g t L xs R) : g < w.heap.size := by
  obtain ⟨cs, h1, _⟩ := h
  exact (Array.getElem?_eq_some_iff.1 h1).1
theorem At.cell (h : At κ w g t L xs R) (ho : L.length = o) (k : Nat) (hk : k < xs.length) : w.cell? ⟨g, o + k, none⟩ = some (.int κ (xs[k] : Nat)) := by
  obtain ⟨cs, h1, h2⟩ := h
  rw [cell_of_row w g _ cs t (0, 0) h1, ← Array.getElem?_toList, h2, List.append_assoc, List.getElem?_append_right (by omega), ← ho, Nat.add_sub_cancel_left, List.getElem?_append_left (by rw [nums_len]; exact hk), nums, List.getElem?_map, List.getElem?_eq_getElem hk]
  rfl
theorem At.frozen (h : At κ w g t L xs R) (j : Nat) : w.frozen? ⟨g, j, none⟩ = false := by
  obtain ⟨cs, h1, _⟩ := h
  exact frozen_of_row w g j cs t h1
theorem At.set (h : At κ w g t L xs R) (ho : L.length = o) (k y : Nat) (hk : k < xs.length) : At κ (w.setCell ⟨g, o + k, none⟩ (.int κ (y : Nat))) g t L (xs.set k y) R := by
  obtain ⟨cs, h1, h2⟩ := h
  refine ⟨cs.setIfInBounds (o + k) (.int κ (y : Nat)), heap_setCell_same w g (o + k) cs t _ h1, ?_⟩
  rw [Array.toList_setIfInBounds, h2, List.append_assoc, List.set_append, if_neg (by omega), List.set_append, if_pos (by rw [nums_len]; omega), show o + k - L.length = k by omega, nums_set, List.append_assoc]
theorem At.set_ (h : At κ w g t L xs R) (ho : L.length = o) (k : Nat) (hk : k < xs.length) (z : Int) (y : Nat) (hz : z = (y : Int)) : At κ (w.setCell ⟨g, o + k, none⟩ (.int κ z)) g t L (xs.set k y) R := by
  subst hz
  exact h.set ho k y hk
theorem At.drew (h : At κ w g t L xs R) : At κ w.drew g t L xs R := h
theorem At.drewN (h : At κ w g t L xs R) (n : Nat) : At κ (w.drewN n) g t L xs R := h
theorem At.far (h : At κ w g t L xs R) {g' j : Nat} (hne : g ≠ g') (u : Value) : At κ (w.setCell ⟨g', j, none⟩ u) g t L xs R := by
  obtain ⟨cs, h1, h2⟩ := h
  exact ⟨cs, (heap_setCell_other w ⟨g', j, none⟩ g u (fun e => hne (by simpa using e))).trans h1, h2⟩
theorem At.alloc (h : At κ w g t L xs R) (o : Obj) : At κ (w.alloc o) g t L xs R := by
  obtain ⟨cs, h1, h2⟩ := h
  exact ⟨cs, (Below.heap_alloc w o g (Array.getElem?_eq_some_iff.1 h1).1).trans h1, h2⟩
theorem At.kept (h : At κ w g t L xs R) {row : Option Nat} (hg : w.grownBy w' row) (hne : some g ≠ row) : At κ w' g t L xs R := by
  obtain ⟨cs, h1, h2⟩ := h
  exact ⟨cs, (hg.block g (Array.getElem?_eq_some_iff.1 h1).1 hne).trans h1, h2⟩
theorem At.below (h : At κ w g t L xs R) {B : Nat} (hb : Below B w w') (hg : g < B) : At κ w' g t L xs R := by
  obtain ⟨cs, h1, h2⟩ := h
  exact ⟨cs, (hb.block g hg).trans h1, h2⟩
/-- Another cut of the same block. -/
theorem At.recut (h : At κ w g t L xs R) {L' R' : List Value} {ys : List Nat} (e : L ++ nums κ xs ++ R = L' ++ nums κ ys ++ R') : At κ w g t L' ys R' := by
  obtain ⟨cs, h1, h2⟩ := h
  exact ⟨cs, h1, h2.trans e⟩
end
theorem vint {κ : IntKind} {a b : Int} (h : a = b) : Value.int κ a = Value.int κ b := by rw [h]
theorem grown_refl (w : World) (row : Option Nat) : w.grownBy w row := ⟨rfl, rfl, rfl, Nat.le_refl _, fun _ _ _ => rfl⟩
theorem grown_trans {a b c : World} {row : Option Nat} (h : a.grownBy b row) (k : b.grownBy c row) : a.grownBy c row :=
  ⟨k.os.trans h.os, k.tape.trans h.tape, k.output.trans h.output, Nat.le_trans h.size k.size, fun i hi hne => (k.block i (Nat.lt_of_lt_of_le hi h.size) hne).trans (h.block i hi hne)⟩
theorem grown_set {a w : World} {g j : Nat} (h : a.grownBy w (some g)) (u : Value) : a.grownBy (w.setCell ⟨g, j, none⟩ u) (some g) :=
  grown_trans h ⟨rfl, rfl, rfl, by simp [World.setCell], fun k _ hk => heap_setCell_other w ⟨g, j, none⟩ k u (fun e => hk (by simp [e]))⟩
theorem grown_drew {a w : World} {row : Option Nat} (h : a.grownBy w row) : a.grownBy w.drew row := ⟨h.os, h.tape, h.output, h.size, h.block⟩
theorem grown_alloc {a w : World} {row : Option Nat} (h : a.grownBy w row) (o : Obj) : a.grownBy (w.alloc o) row := grown_trans h (World.grownBy_alloc w o row)
theorem grown_below {a b c : World} {g B : Nat} (h : Below B a b) (hg : b.grownBy c (some g)) (hB : B ≤ b.heap.size) (h2 : B ≤ g) : Below B a c :=
  h.grown hg hB (fun _ e => by cases e; exact h2)
theorem below_drewN' {B : Nat} {a w : World} (h : Below B a w) (n : Nat) : Below B a (w.drewN n) := ⟨h.os, h.tape, h.output, h.size, h.block⟩
/-- A slice that is read. -/
def Rd (κ : IntKind) (w : World) (A : Option Addr) (xs : List Nat) : Prop :=
  ∀ j (_ : j < xs.length), ∃ g o, A = some ⟨g, o, none⟩ ∧ w.cell? ⟨g, o + j, none⟩ = some (.int κ (xs[j] : Nat))
/-- It does not lie in block g. -/
def Off (A : Option Addr) (g : Nat) : Prop := ∀ a, A = some a → a.block ≠ g
section
variable {κ : IntKind} {w w' : World} {A : Option Addr} {xs : List Nat}
theorem Rd.nil : Rd κ w A [] := fun _ h => by simp at h
theorem Rd.at_ (h : Rd κ w A xs) (hx : xs ≠ []) : ∃ g o, A = some ⟨g, o, none⟩ ∧ ∀ j (_ : j < xs.length), w.cell? ⟨g, o + j, none⟩ = some (.int κ (xs[j] : Nat)) := by
  obtain ⟨g, o, rfl, _⟩ := h 0 (List.length_pos_iff.2 hx)
  refine ⟨g, o, rfl, fun j hj => ?_⟩
  obtain ⟨g', o', e, hc⟩ := h j hj
  cases e
  exact hc
theorem Rd.of {g o : Nat} (h : ∀ j (_ : j < xs.length), w.cell? ⟨g, o + j, none⟩ = some (.int κ (xs[j] : Nat))) : Rd κ w (some ⟨g, o, none⟩) xs := fun j hj => ⟨g, o, rfl, h j hj⟩
theorem Rd.kept (h : Rd κ w A xs) {g : Nat} (hg : w.grownBy w' (some g)) (hne : Off A g) : Rd κ w' A xs := fun j hj => by
  obtain ⟨g', o, e, hc⟩ := h j hj
  exact ⟨g', o, e, hg.cell hc (by intro e2; cases e2; exact hne _ e rfl)⟩
theorem Rd.below (h : Rd κ w A xs) (hb : Below w.heap.size w w') : Rd κ w' A xs := fun j hj => by
  obtain ⟨g', o, e, hc⟩ := h j hj
  exact ⟨g', o, e, (hb.cell (World.block_lt_of_cell? w _ hc)).trans hc⟩
theorem Rd.take (h : Rd κ w A xs) (n : Nat) : Rd κ w A (xs.take n) := fun j hj => by
  have hj2 : j < xs.length := by rw [List.length_take] at hj; omega
  obtain ⟨g, o, e, hc⟩ := h j hj2
  exact ⟨g, o, e, by rw [hc, List.getElem_take]⟩
theorem At.rd {g : Nat} {t : TypeId} {L R : List Value} (h : At κ w g t L xs R) : Rd κ w (some ⟨g, L.length, none⟩) xs := Rd.of fun j hj => h.cell rfl j hj
/-- What lies in old memory is not in a new block. -/
theorem Rd.off (h : Rd κ w A xs) (hx : xs ≠ []) {g : Nat} (hg : w.heap.size ≤ g) : Off A g := by
  obtain ⟨g', o, rfl, hc⟩ := h.at_ hx
  intro a e
  cases e
  have := World.block_lt_of_cell? w _ (hc 0 (List.length_pos_iff.2 hx))
  show g' ≠ g
  exact fun e => by subst e; exact absurd this (by simpa using hg)
end
/-- A row of the call's own, of numbers. -/
def Own (κ : IntKind) (w : World) (B : Nat) (t : TypeId) (v : Value) (xs : List Nat) : Prop := w.ownsRow B t 1 v xs.length (nums κ xs)
end Go.Proofs.YtelhbkfhalpniaaDoor

namespace Go.Proofs.YtelhbkfhalpniaaDoor
open Go.RowKit

/-- The unit of a limb. -/
abbrev B32 : Nat := 4294967296
theorem lim32 {l : List Nat} (h : Lim B32 l) (k : Nat) (hk : k < l.length) : ∃ x, l[k] = x ∧ x < 4294967296 := ⟨_, rfl, lim_get h k hk⟩
theorem top_of_ge {B : Nat} {l : List Nat} (hl : Lim B l) (h : l = [] ∨ B ^ (l.length - 1) ≤ vl B l) : Top l := by
  rcases h with rfl | h
  · exact top_nil
  · by_cases e : l = []
    · subst e; exact top_nil
    · obtain ⟨m, x, rfl⟩ := snoc_of_ne e
      refine top_snoc.2 fun hx => ?_
      subst hx
      rw [vl_snoc, List.length_append, List.length_singleton, Nat.add_sub_cancel, Nat.mul_zero, Nat.add_zero] at h
      have := vl_lt (lim_append.1 hl).1
      omega
theorem info_u32 : (Tryd.prog.info? 124).map (fun i => (i.zero, i.size, i.bytes)) = some (some (.int .u32 0), 1, 4) := by kernel_rfl
theorem info_i64 : (Tryd.prog.info? 3).map (fun i => (i.zero, i.size, i.bytes)) = some (some (.int .i64 0), 1, 8) := by kernel_rfl

section
variable {κ : IntKind} {w w' : World} {B g n cap : Nat} {t : TypeId} {v : Value} {A : Option Addr} {xs : List Nat}
theorem Own.nil (w : World) (B : Nat) (t : TypeId) : Own κ w B t (.slice none 0 0) [] := World.ownsRow_nil _ _ _ _
theorem Own.form (h : Own κ w B t v xs) (hx : 0 < xs.length) : ∃ g cap, v = .slice (some ⟨g, 0, none⟩) xs.length cap ∧ B ≤ g ∧ xs.length ≤ cap ∧ cap ≤ maxLen := by
  rcases h.2 with ⟨_, h0⟩ | ⟨g, cap, cur, rfl, hb, _, h1, h2, _⟩
  · omega
  · exact ⟨g, cap, rfl, hb, h1, h2⟩
theorem Own.forms (h : Own κ w B t v xs) : (v = .slice none 0 0 ∧ xs = []) ∨ ∃ g cap, v = .slice (some ⟨g, 0, none⟩) xs.length cap ∧ B ≤ g ∧ xs.length ≤ cap ∧ cap ≤ maxLen := by
  rcases h.2 with ⟨h1, h0⟩ | ⟨g, cap, cur, rfl, hb, _, h1, h2, _⟩
  · exact .inl ⟨h1, List.eq_nil_of_length_eq_zero h0⟩
  · exact .inr ⟨g, cap, rfl, hb, h1, h2⟩
/-- As a slice: the address is a variable. -/
theorem Own.slice (h : Own κ w B t v xs) : ∃ A cap, v = .slice A xs.length cap ∧ xs.length ≤ cap ∧ cap ≤ maxLen := by
  rcases h.forms with ⟨rfl, rfl⟩ | ⟨g, cap, rfl, _, h1, h2⟩
  · exact ⟨none, 0, rfl, Nat.le_refl _, Nat.zero_le _⟩
  · exact ⟨_, cap, rfl, h1, h2⟩
theorem Own.cell (h : Own κ w B t (.slice (some ⟨g, 0, none⟩) n cap) xs) (k : Nat) (hk : k < xs.length) : w.cell? ⟨g, k, none⟩ = some (.int κ (xs[k] : Nat)) := by
  have hn : n = xs.length := by
    rcases h.form (by omega) with ⟨_, _, e, _⟩
    cases e; rfl
  subst hn
  rw [World.ownsRow.cellAt h k (by omega), nums, List.getElem?_map, List.getElem?_eq_getElem hk]
  rfl
theorem Own.frozen (h : Own κ w B t (.slice (some ⟨g, 0, none⟩) xs.length cap) xs) (k : Nat) : w.frozen? ⟨g, k, none⟩ = false := World.ownsRow.frozenAt h k
theorem Own.set (h : Own κ w B t (.slice (some ⟨g, 0, none⟩) n cap) xs) (hn : n = xs.length) (k y : Nat) : Own κ (w.setCell ⟨g, k, none⟩ (.int κ (y : Nat))) B t (.slice (some ⟨g, 0, none⟩) n cap) (xs.set k y) := by
  subst hn
  have := (World.ownsRow.stored h k (.int κ (y : Nat))).1
  rw [nums_set] at this
  unfold Own
  rw [List.length_set]
  exact this
theorem Own.rd (h : Own κ w B t (.slice A n cap) xs) : Rd κ w A xs := fun j hj => by
  obtain ⟨g, c, e, _⟩ := h.form (by omega)
  cases e
  exact ⟨g, 0, rfl, by rw [Nat.zero_add]; exact h.cell j hj⟩
theorem Own.len (h : Own κ w B t (.slice A n cap) xs) : n = xs.length := by
  rcases h.forms with ⟨e, rfl⟩ | ⟨g, c, e, _⟩
  · cases e; rfl
  · cases e; rfl
theorem Own.addr (h : Own κ w B t (.slice A n cap) xs) (hx : 0 < xs.length) : ∃ g, A = some ⟨g, 0, none⟩ ∧ B ≤ g := by
  obtain ⟨g, c, e, hb, _⟩ := h.form hx
  cases e
  exact ⟨g, rfl, hb⟩
theorem Own.row (h : Own κ w B t v xs) {n : Nat} (hn : xs.length = n) : w.ownsRow B t 1 v n (nums κ xs) := by subst hn; exact h
theorem Own.kept (h : Own κ w B t v xs) {row : Option Nat} (hg : w.grownBy w' row) (hne : v.ownBlock = none ∨ v.ownBlock ≠ row) : Own κ w' B t v xs := World.ownsRow.kept h hg hne
theorem Own.drew (h : Own κ w B t v xs) : Own κ w.drew B t v xs := h
theorem Own.alloc (h : Own κ w B t v xs) (o : Obj) : Own κ (w.alloc o) B t v xs := World.ownsRow.alloc h o
theorem Own.mono (h : Own κ w B t v xs) {B' : Nat} (hb : B' ≤ B) : Own κ w B' t v xs := ⟨h.1, h.2.imp_right fun ⟨g, cap, cur, e, hB, rest⟩ => ⟨g, cap, cur, e, Nat.le_trans hb hB, rest⟩⟩
theorem Own.below (h : Own κ w B t v xs) (hb : Below w.heap.size w w') : Own κ w' B t v xs := by
  refine ⟨h.1, ?_⟩
  rcases h.2 with h0 | ⟨g, cap, cur, rfl, hB, hg, rest⟩
  · exact .inl h0
  · exact .inr ⟨g, cap, cur, rfl, hB, (hb.block g (Array.getElem?_eq_some_iff.1 hg).1).trans hg, rest⟩
theorem Own.lt (h : Own κ w B t (.slice (some ⟨g, 0, none⟩) n cap) xs) : B ≤ g ∧ g < w.heap.size := World.ownsRow.lt h g rfl
theorem Own.take (h : Own κ w B t (.slice A n cap) xs) (m : Nat) (hm : m ≤ xs.length) : Own κ w B t (.slice A m cap) (xs.take m) := by
  have hl : (xs.take m).length = m := by rw [List.length_take]; omega
  unfold Own
  rw [hl]
  rcases h.2 with ⟨e, h0⟩ | ⟨g, c, cur, e, hB, hg, h1, h2, h3, h4⟩
  · cases e
    obtain rfl : m = 0 := by omega
    exact World.ownsRow_nil _ _ _ _
  · cases e
    refine ⟨by rw [nums_len, hl]; omega, .inr ⟨g, cap, cur, rfl, hB, hg, by omega, h2, h3, ?_⟩⟩
    have := congrArg (List.take m) h4
    rw [List.take_take, Nat.mul_one, Nat.min_eq_left (by omega)] at this
    rw [Nat.mul_one, this, nums, nums, List.map_take]
theorem Own.snoc {k : Nat} {x : Nat} (h : w.ownsRow B t 1 v (k + 1) (nums κ xs ++ [.int κ (x : Nat)])) (hk : k = xs.length) : Own κ w B t v (xs ++ [x]) := by
  subst hk
  unfold Own
  rw [List.length_append, nums_append]
  exact h
theorem Own.append {k m : Nat} {ys : List Nat} (h : w.ownsRow B t 1 v (k + m) (nums κ xs ++ nums κ ys)) (hk : k = xs.length) (hm : m = ys.length) : Own κ w B t v (xs ++ ys) := by
  subst hk
  subst hm
  unfold Own
  rw [List.length_append, nums_append]
  exact h
theorem Own.off (h : Own κ w B t v xs) {r : Nat} (hv : v.ownBlock ≠ some r) (hA : v = .slice A n cap) : Off A r := by
  subst hA
  intro a e
  subst e
  exact fun e2 => hv (by simp [Value.ownBlock, e2])
/-- A row that was there, and one that was made later. -/
theorem own_apart {κ' : IntKind} {B' : Nat} {t' : TypeId} {v' : Value} {ys : List Nat} (h1 : Own κ w B t v xs) (hB : w.heap.size ≤ B') (h2 : Own κ' w' B' t' v' ys) : v.ownBlock = none ∨ v.ownBlock ≠ v'.ownBlock := by
  cases hv : v.ownBlock with
  | none => exact .inl rfl
  | some g =>
    refine .inr fun e => ?_
    have a := World.ownsRow.lt h1 g hv
    have b := World.ownsRow.lt h2 g e.symm
    omega
/-- A block whose beginning is read is a row of the call's own. -/
theorem own_of_at {R : List Value} (h : At κ w g t [] xs R) (hB : B ≤ g) (hc : cap = xs.length + R.length) (hm : cap ≤ maxLen) : Own κ w B t (.slice (some ⟨g, 0, none⟩) xs.length cap) xs := by
  obtain ⟨cs, h1, h2⟩ := h
  have hl : cs.size = cap := by rw [← Array.length_toList, h2]; simp [nums_len, hc]
  refine ⟨by rw [nums_len]; omega, .inr ⟨g, cap, cs, rfl, hB, h1, by omega, hm, by omega, ?_⟩⟩
  rw [h2, List.nil_append, Nat.mul_one, List.take_append_of_le_length (by rw [nums_len]; exact Nat.le_refl _), List.take_of_length_le (by rw [nums_len]; exact Nat.le_refl _)]
theorem at_of_own (h : Own κ w B t (.slice (some ⟨g, 0, none⟩) n cap) xs) : ∃ R, At κ w g t [] xs R ∧ cap = xs.length + R.length := by
  rcases h.2 with ⟨e, _⟩ | ⟨g', cap', cur, e, _, hg, h1, _, h3, h4⟩
  · cases e
  · cases e
    refine ⟨cur.toList.drop xs.length, ⟨cur, hg, ?_⟩, ?_⟩
    · rw [List.nil_append]
      rw [Nat.mul_one] at h4
      conv => lhs; rw [← List.take_append_drop xs.length cur.toList, h4]
    · have : cur.toList.length = cur.size := Array.length_toList
      rw [List.length_drop]; omega
/-- The cells of a slice that is read, as the law of append wants them. -/
theorem Rd.news {g o : Nat} (h : Rd κ w (some ⟨g, o, none⟩) xs) : ∀ j u, (nums κ xs)[j]? = some u → w.cell? ((⟨g, o, none⟩ : Addr).add j) = some u := by
  intro j u hu
  by_cases hj : j < xs.length
  · obtain ⟨g', o', e, hc⟩ := h j hj
    cases e
    rw [nums, List.getElem?_map, List.getElem?_eq_getElem hj] at hu
    rw [Addr.add_lit, hc]
    exact hu
  · rw [List.getElem?_eq_none (by rw [nums_len]; omega)] at hu
    cases hu
theorem nums_one (κ : IntKind) (xs : List Nat) : ∀ u ∈ nums κ xs, u.oneCell' = true := by
  intro u hu
  obtain ⟨x, _, rfl⟩ := List.mem_map.1 hu
  rfl
end
end Go.Proofs.YtelhbkfhalpniaaDoor

namespace Go.Proofs.YtelhbkfhalpniaaDoor
open Go.RowKit Go.Lib

end Go.Proofs.YtelhbkfhalpniaaDoor

namespace Go.Proofs.YtelhbkfhalpniaaDoor
open Go.RowKit Go.Lib

/-- A product of two limbs, and what is carried, fits. -/
theorem prod_fits {x t c : Nat} (hx : x < 4294967296) (ht : t < 4294967296) (hc : c < 4294967296) : (x : Int) * (t : Int) + (c : Int) ≤ 18446744073709551615 ∧ 0 ≤ (x : Int) * (t : Int) ∧ ((x : Int) * (t : Int) = ((x * t : Nat) : Int)) := by
  have h : x * t ≤ 4294967295 * 4294967295 := Nat.mul_le_mul (by omega) (by omega)
  refine ⟨?_, ?_, by simp⟩
  · rw [← Int.natCast_mul]; omega
  · rw [← Int.natCast_mul]; omega

/-- A difference that wraps round. -/
theorem sub2_lt {a b r : Int} (h1 : 0 ≤ a ∧ a < 4294967296) (h3 : 0 ≤ b ∧ b < 4294967296) (hr : 0 ≤ r ∧ r ≤ 1) (h : a < b + r) : IntKind.u64.wrap (IntKind.u64.wrap (a - b) - r) = a - b - r + 18446744073709551616 := by
  rw [IntKind.wrap_u64, IntKind.wrap_u64]; omega
theorem sub2_hi {a b r : Int} (h1 : 0 ≤ a ∧ a < 4294967296) (h3 : 0 ≤ b ∧ b < 4294967296) (hr : 0 ≤ r ∧ r ≤ 1) (h : a < b + r) : IntKind.u64.wrap (IntKind.u64.wrap (a - b) - r) / 9223372036854775808 = 1 := by
  rw [sub2_lt h1 h3 hr h]; omega
theorem sub2_lo {a b r : Int} (h1 : 0 ≤ a ∧ a < 4294967296) (h3 : 0 ≤ b ∧ b < 4294967296) (hr : 0 ≤ r ∧ r ≤ 1) (h : a < b + r) : IntKind.u64.wrap (IntKind.u64.wrap (a - b) - r) % 4294967296 = a + 4294967296 - b - r := by
  rw [sub2_lt h1 h3 hr h]; omega

end Go.Proofs.YtelhbkfhalpniaaDoor

namespace Go.Proofs.YtelhbkfhalpniaaDoor
open Go.RowKit Go.Lib

/-- The end of a contract that makes a row of its own. -/
def Makes (κ : IntKind) (t : TypeId) (w : World) (xs : List Nat) (e : Ending) (w' : World) : Prop := ∃ v, e = .returned v ∧ Own κ w' w.heap.size t v xs ∧ Below w.heap.size w w'

/-- mulAdd's numbers. -/
theorem mul_norm {xs ys : List Nat} {tm more : Nat} (hx : Norm B32 xs) (ht : 0 < tm) (hl : Lim B32 ys) (hv : vl B32 ys = vl B32 xs * tm + more) (hlen : ys.length = xs.length ∨ Top ys) : dig B32 (vl B32 xs * tm + more) = ys := by
  refine dig_eq (by decide) ⟨hl, ?_⟩ hv
  rcases hlen with h | h
  · refine top_of_ge hl ?_
    by_cases e : xs = []
    · left; subst e; exact List.eq_nil_of_length_eq_zero h
    · right
      have h1 := vl_top (B := B32) hx.2 e
      have h2 : vl B32 xs * 1 ≤ vl B32 xs * tm := Nat.mul_le_mul_left _ ht
      rw [h, hv]
      omega
  · exact h

end Go.Proofs.YtelhbkfhalpniaaDoor

namespace Go.Proofs.YtelhbkfhalpniaaDoor
open Go.RowKit Go.Lib

theorem or_low {k a b : Nat} (h : b < 2 ^ k) : a * 2 ^ k ||| b = a * 2 ^ k + b := by
  rw [← Nat.shiftLeft_eq, Nat.shiftLeft_add_eq_or_of_lt h]
/-- A word put together of two limbs. -/
theorem or_add {z x : Nat} (hz : z < 4294967296) (hx : x < 4294967296) : bits .or .u64 ((z : Int) * 4294967296) (x : Int) = (z : Int) * 4294967296 + (x : Int) := by
  have h := u64_or_nat (z * 4294967296) x (by omega) (by omega)
  rw [show z * 4294967296 ||| x = z * 4294967296 + x from or_low (k := 32) hx] at h
  rw [Int.natCast_mul, Int.natCast_add, Int.natCast_mul] at h
  exact h

/-- A limb shifted, and what was carried. -/
theorem or_shift {c x k P : Nat} (hP : 2 ^ k = P) (hc : c < P) (hx : x < 4294967296) (hk : k < 32) : bits .or .u64 (c : Int) ((x : Int) * (P : Int)) = (x : Int) * (P : Int) + (c : Int) ∧ (x : Int) * (P : Int) + (c : Int) ≤ 18446744073709551615 ∧ 0 ≤ (x : Int) * (P : Int) ∧ (2 : Int) ^ k = (P : Int) := by
  subst hP
  have h2 : 2 ^ k ≤ 2 ^ 31 := Nat.pow_le_pow_right (by omega) (by omega)
  have h3 : (x + 1) * 2 ^ k ≤ 4294967296 * 2 ^ k := Nat.mul_le_mul_right _ hx
  rw [Nat.add_mul] at h3
  have h4 : 4294967296 * 2 ^ k ≤ 4294967296 * 2 ^ 31 := Nat.mul_le_mul_left _ h2
  have h := u64_or_nat c (x * 2 ^ k) (by omega) (by omega)
  rw [Nat.or_comm, or_low hc] at h
  rw [Int.natCast_mul, Int.natCast_add, Int.natCast_mul] at h
  refine ⟨h, ?_, ?_, ?_⟩
  · rw [← Int.natCast_mul]; omega
  · rw [← Int.natCast_mul]; omega
  · rw [Int.natCast_pow]; rfl

/-- What is carried out of the last limb is put behind it, if there is a place. -/
def putTop (n m c : Nat) (cur : List Nat) : List Nat := if n < m then cur.set n c else cur
/-- How shiftUp ends. -/
def ShuEnd (g : Nat) (t : TypeId) (L R : List Value) (out ls : List Nat) (P : Nat) (w' : World) : Prop :=
  ∃ cur c, ShuR B32 P ls cur ls.length c ∧ cur.length = out.length ∧ cur.drop ls.length = out.drop ls.length ∧ At .u32 w' g t L (putTop ls.length out.length c cur) R

end Go.Proofs.YtelhbkfhalpniaaDoor

namespace Go.Proofs.YtelhbkfhalpniaaDoor
open Go.RowKit Go.Lib

/-- A quiet call behind draws: its own draws are added. -/
theorem quiet_more {P : Program} {f : FuncId} {args : Array Value} {w : World} {a n : Nat} {v : Value} (h : Calls P f args (w.drewN (a + n)) fun e w' => e = .returned v ∧ w' = w.drewN (a + n)) :
    Calls P f args (w.drewN (a + n)) fun e w' => e = .returned v ∧ ∃ m, w' = w.drewN (a + m) := h.mono fun _ _ hh => ⟨hh.1, n, hh.2⟩

def cmpZ (a b : Nat) : Int := if a < b then -1 else if b < a then 1 else 0
theorem cmpZ_lt {a b : Nat} (h : a < b) : cmpZ a b = -1 := by rw [cmpZ, if_pos h]
theorem cmpZ_gt {a b : Nat} (h : b < a) : cmpZ a b = 1 := by rw [cmpZ, if_neg (by omega), if_pos h]
theorem cmpZ_eq {a b : Nat} (h : a = b) : cmpZ a b = 0 := by rw [cmpZ, if_neg (by omega), if_neg (by omega)]

end Go.Proofs.YtelhbkfhalpniaaDoor

namespace Go.Proofs.YtelhbkfhalpniaaDoor
open Go.RowKit Go.Lib

/-- Which lists are naturals. -/
noncomputable def vld (xs : List Nat) : Bool := @decide (xs.length ≤ 256 ∧ Top xs) (Classical.propDecidable _)
theorem vld_iff {xs : List Nat} : vld xs = true ↔ xs.length ≤ 256 ∧ Top xs := by
  unfold vld
  exact @decide_eq_true_iff _ (Classical.propDecidable _)
theorem vld_no {xs : List Nat} : vld xs = false ↔ ¬ (xs.length ≤ 256 ∧ Top xs) := by
  unfold vld
  exact @decide_eq_false_iff_not _ (Classical.propDecidable _)
theorem top_get {xs : List Nat} (h : 0 < xs.length) : Top xs ↔ xs[xs.length - 1] ≠ 0 := by
  unfold Top
  rw [List.getLast?_eq_getElem?, List.getElem?_eq_getElem (by omega)]
  simp
/-- A natural that is answered, or the error. -/
def natRes (n : Nat) : List Nat × Int := if (dig B32 n).length ≤ 256 then (dig B32 n, 0) else ([], 3)
/-- A row of the call's own and an error's number. -/
def RowErr (B : Nat) (w : World) (x : List Nat × Int) (e : Ending) (w' : World) : Prop := ∃ v, e = .returned (.tuple #[v, .int .i64 x.2]) ∧ Own .u32 w' B 124 v x.1 ∧ Below B w w'
theorem own_pair (w : World) (a b : Nat) (t : TypeId) : Own .u32 (w.alloc (.cells #[.int .u32 (a : Nat), .int .u32 (b : Nat)] t)) w.heap.size t (.slice (some ⟨w.heap.size, 0, none⟩) 2 2) [a, b] :=
  World.ownsRow_lit (e := t) (size := 1) w #[.int .u32 (a : Nat), .int .u32 (b : Nat)] 2 (Nat.le_refl _) (by decide) rfl
end Go.Proofs.YtelhbkfhalpniaaDoor

namespace Go.Proofs.YtelhbkfhalpniaaDoor

/-- The number that bytes of decimal digits write, the highest first. -/
def pv : List UInt8 → Nat := fun l => l.foldl (fun a c => a * 10 + (c.toNat - 48)) 0
theorem pv_foldl (l : List UInt8) : ∀ a, l.foldl (fun a c => a * 10 + (c.toNat - 48)) a = a * 10 ^ l.length + pv l := by
  induction l with
  | nil => intro a; simp [pv]
  | cons c l ih =>
    intro a
    have h1 := ih (a * 10 + (c.toNat - 48))
    have h2 := ih (0 * 10 + (c.toNat - 48))
    simp only [List.foldl_cons, List.length_cons, pv] at h1 h2 ⊢
    rw [h1, h2, Nat.pow_succ]
    simp only [Nat.add_mul, Nat.mul_assoc, Nat.mul_comm 10]
    omega
theorem pv_append (l m : List UInt8) : pv (l ++ m) = pv l * 10 ^ m.length + pv m := by
  unfold pv
  rw [List.foldl_append, pv_foldl]
  rfl
theorem pv_nil : pv [] = 0 := rfl
theorem pv_one (c : UInt8) : pv [c] = c.toNat - 48 := by simp [pv]
theorem pv_snoc (l : List UInt8) (c : UInt8) : pv (l ++ [c]) = pv l * 10 + (c.toNat - 48) := by rw [pv_append, pv_one]; simp
/-- Decimal digits, every one. -/
def Dec (l : List UInt8) : Prop := ∀ c ∈ l, 48 ≤ c.toNat ∧ c.toNat ≤ 57
theorem dec_append {l m : List UInt8} : Dec (l ++ m) ↔ Dec l ∧ Dec m := by
  unfold Dec
  constructor
  · exact fun h => ⟨fun x hx => h x (List.mem_append_left _ hx), fun x hx => h x (List.mem_append_right _ hx)⟩
  · rintro ⟨h1, h2⟩ x hx
    rcases List.mem_append.1 hx with h | h
    · exact h1 x h
    · exact h2 x h
theorem dec_take {l : List UInt8} (h : Dec l) (k : Nat) : Dec (l.take k) := fun x hx => h x (List.mem_of_mem_take hx)
theorem dec_drop {l : List UInt8} (h : Dec l) (k : Nat) : Dec (l.drop k) := fun x hx => h x (List.mem_of_mem_drop hx)
theorem pv_cons (c : UInt8) (l : List UInt8) : pv (c :: l) = (c.toNat - 48) * 10 ^ l.length + pv l := by
  have := pv_append [c] l
  rwa [pv_one] at this
theorem pv_lt {l : List UInt8} (h : Dec l) : pv l < 10 ^ l.length := by
  induction l with
  | nil => simp [pv]
  | cons c l ih =>
    have h3 := ih (fun x hx => h x (List.mem_cons_of_mem _ hx))
    have h4 := h c List.mem_cons_self
    rw [pv_cons, List.length_cons, Nat.pow_succ]
    have : (c.toNat - 48) * 10 ^ l.length ≤ 9 * 10 ^ l.length := Nat.mul_le_mul_right _ (by omega)
    omega

/-- A digit as a byte. -/
def db (d : Nat) : UInt8 := UInt8.ofNat (48 + d)
theorem db_toNat {d : Nat} (h : d < 10) : (db d).toNat = 48 + d := by
  unfold db
  rw [UInt8.toNat_ofNat']
  omega
/-- A number's decimal text. -/
def decs (n : Nat) : List UInt8 := if n = 0 then [48] else (dig 10 n).reverse.map db
theorem decs_zero : decs 0 = [48] := rfl
/-- The text of digits, the lowest first, with noughts at the top. -/
theorem decs_of {l : List Nat} {m : Nat} (hl : Lim 10 l) (hn : vl 10 l ≠ 0) (hm : m ≤ l.length) (h0 : ∀ j (_ : m ≤ j) (hj : j < l.length), l[j] = 0) (ht : m = 0 ∨ ∃ h : m - 1 < l.length, l[m - 1] ≠ 0) :
    decs (vl 10 l) = (l.reverse.drop (l.length - m)).map db := by
  have h := (trim_take (B := 10) (by decide) hl hm h0 ht).1
  rw [decs, if_neg hn, h, List.drop_reverse, show l.length - (l.length - m) = m by omega]
/-- Every text of digits is the decimal text of its number, noughts ahead taken away. -/
theorem decs_pv {l : List Nat} (hl : Lim 10 l) (hn : vl 10 l ≠ 0) : decs (vl 10 l) = (l.reverse.dropWhile (· == 0)).map db := by
  have hn2 : dig 10 (vl 10 l) = (l.reverse.dropWhile (· == 0)).reverse := by
    have hsplit : l = (l.reverse.dropWhile (· == 0)).reverse ++ (l.reverse.takeWhile (· == 0)).reverse := by
      rw [← List.reverse_append, List.takeWhile_append_dropWhile, List.reverse_reverse]
    have hz : vl 10 (l.reverse.takeWhile (· == 0)).reverse = 0 := by
      have : (l.reverse.takeWhile (· == 0)).reverse = List.replicate (l.reverse.takeWhile (· == 0)).reverse.length 0 := by
        rw [List.eq_replicate_iff]
        refine ⟨rfl, fun b hb => ?_⟩
        have := List.all_eq_true.1 (List.all_takeWhile (p := fun x : Nat => x == 0) (l := l.reverse)) b (List.mem_reverse.1 hb)
        simpa using this
      rw [this, vl_zeros]
    have hv : vl 10 (l.reverse.dropWhile (· == 0)).reverse = vl 10 l := by
      conv => rhs; rw [hsplit, vl_append, hz]
      simp
    refine dig_eq (by decide) ⟨?_, ?_⟩ hv
    · intro x hx
      refine hl x ?_
      rw [hsplit]
      exact List.mem_append_left _ hx
    · intro e
      rw [List.getLast?_reverse] at e
      have := List.head?_dropWhile_not (fun x : Nat => x == 0) l.reverse
      rw [e] at this
      simp at this
  rw [decs, if_neg hn, hn2, List.reverse_reverse]
theorem db_zero {d : Nat} (h : d < 10) : db d = 48 ↔ d = 0 := by
  constructor
  · intro e
    have := congrArg UInt8.toNat e
    rw [db_toNat h] at this
    simpa using this
  · rintro rfl; rfl
theorem dropWhile_db : ∀ {l : List Nat}, Lim 10 l → (l.map db).dropWhile (· == 48) = (l.dropWhile (· == 0)).map db
  | [], _ => rfl
  | x :: l, h => by
    obtain ⟨h1, h2⟩ := lim_cons.1 h
    rw [List.map_cons, List.dropWhile_cons, List.dropWhile_cons]
    by_cases hx : x = 0
    · subst hx
      simp only [BEq.rfl, if_true, show (db 0 == 48) = true by rfl]
      exact dropWhile_db h2
    · have e1 : (db x == 48) = false := by
        rw [beq_eq_false_iff_ne]; exact fun e => hx ((db_zero h1).1 e)
      have e2 : (x == 0) = false := by simpa using hx
      rw [e1, e2]
      rfl
/-- Digits, the lowest first, of a piece of the text. -/
theorem vl_digits {l : List UInt8} : vl 10 (l.map fun c => c.toNat - 48).reverse = pv l := by
  induction l with
  | nil => rfl
  | cons c l ih =>
    rw [List.map_cons, List.reverse_cons, vl_snoc, ih, pv_cons, List.length_reverse, List.length_map, Nat.mul_comm]
    omega
end Go.Proofs.YtelhbkfhalpniaaDoor

namespace Go.Proofs.YtelhbkfhalpniaaDoor
open Go.RowKit Go.Lib

theorem ba_len (s : ByteArray) : s.data.toList.length = s.size := Array.length_toList
theorem ba_take_snoc (s : ByteArray) (k : Nat) (h : k < s.size) : s.data.toList.take (k + 1) = s.data.toList.take k ++ [s[k]] := by
  rw [List.take_succ_eq_append_getElem (by rw [ba_len]; exact h)]; rfl
theorem ba_nil {s : ByteArray} (h : s.size = 0) : s.data.toList = [] := List.eq_nil_of_length_eq_zero (by rw [ba_len]; exact h)
theorem dec_snoc {l : List UInt8} {c : UInt8} (h : Dec l) (hc : 48 ≤ c.toNat ∧ c.toNat ≤ 57) : Dec (l ++ [c]) := dec_append.2 ⟨h, fun x hx => by rw [List.mem_singleton] at hx; rw [hx]; exact hc⟩
theorem dec_at {s : ByteArray} (h : Dec s.data.toList) (k : Nat) (hk : k < s.size) : 48 ≤ s[k].toNat ∧ s[k].toNat ≤ 57 := h _ (by
  have : s[k] = s.data.toList[k]'(by rw [ba_len]; exact hk) := rfl
  rw [this]
  exact List.getElem_mem _)

/-- Is it one decimal digit or more? -/
noncomputable def isDec (s : ByteArray) : Bool := @decide (0 < s.size ∧ Dec s.data.toList) (Classical.propDecidable _)
theorem isDec_iff {s : ByteArray} : isDec s = true ↔ 0 < s.size ∧ Dec s.data.toList := by
  unfold isDec
  exact @decide_eq_true_iff _ (Classical.propDecidable _)
theorem isDec_no {s : ByteArray} : isDec s = false ↔ ¬ (0 < s.size ∧ Dec s.data.toList) := by
  unfold isDec
  exact @decide_eq_false_iff_not _ (Classical.propDecidable _)

end Go.Proofs.YtelhbkfhalpniaaDoor

namespace Go.Proofs.YtelhbkfhalpniaaDoor
open Go.RowKit Go.Lib

/-- What Parse answers. -/
noncomputable def parseRes (s : ByteArray) : List Nat × Int := if isDec s = true then natRes (pv s.data.toList) else ([], 30)
theorem pow10_le {i : Nat} (h : i ≤ 8) : 10 ^ i ≤ 100000000 := (Nat.pow_le_pow_right (by omega) h : 10 ^ i ≤ 10 ^ 8)
theorem pow10_le9 {i : Nat} (h : i ≤ 9) : 10 ^ i ≤ 1000000000 := (Nat.pow_le_pow_right (by omega) h : 10 ^ i ≤ 10 ^ 9)
theorem natRes_long {n : Nat} (h : ¬ (dig B32 n).length ≤ 256) : natRes n = ([], 3) := by rw [natRes, if_neg h]
theorem natRes_ok {n : Nat} (h : (dig B32 n).length ≤ 256) : natRes n = (dig B32 n, 0) := by rw [natRes, if_pos h]
theorem dig_grows {n m : Nat} (h : n ≤ m) (hn : ¬ (dig B32 n).length ≤ 256) : ¬ (dig B32 m).length ≤ 256 := by
  rw [dig_len_le (by decide)] at hn ⊢
  omega
theorem pv_take_le {l : List UInt8} (k : Nat) : pv (l.take k) ≤ pv l := by
  have h := pv_append (l.take k) (l.drop k)
  rw [List.take_append_drop] at h
  have : pv (l.take k) * 1 ≤ pv (l.take k) * 10 ^ (l.drop k).length := Nat.mul_le_mul_left _ (Nat.pow_pos (by omega))
  omega

end Go.Proofs.YtelhbkfhalpniaaDoor

namespace Go.Proofs.YtelhbkfhalpniaaDoor
open Go.RowKit Go.Lib

theorem info_u8 : (Tryd.prog.info? 5).map (fun i => (i.zero, i.size, i.bytes)) = some (some (.int .u8 0), 1, 1) := by kernel_rfl
/-- Turned round at both ends, k of each. -/
def Turned (xs cur : List Nat) (k : Nat) : Prop := cur.length = xs.length ∧ ∀ j (h : j < xs.length) (h2 : j < cur.length), cur[j] = if j < k ∨ xs.length - k ≤ j then xs[xs.length - 1 - j]'(by omega) else xs[j]
theorem turned_start (xs : List Nat) : Turned xs xs 0 := ⟨rfl, fun j h _ => by rw [if_neg (by omega)]⟩
theorem turned_step {xs cur : List Nat} {k : Nat} (h : Turned xs cur k) (hk : 2 * k + 1 < xs.length) :
    Turned xs ((cur.set k (xs[xs.length - 1 - k]'(by omega))).set (xs.length - 1 - k) (xs[k]'(by omega))) (k + 1) := by
  obtain ⟨h1, h2⟩ := h
  refine ⟨by rw [List.length_set, List.length_set, h1], fun j hj hj2 => ?_⟩
  rw [List.getElem_set, List.getElem_set]
  by_cases e1 : xs.length - 1 - k = j
  · rw [if_pos e1, if_pos (by omega)]
    congr 1
    omega
  · rw [if_neg e1]
    by_cases e2 : k = j
    · rw [if_pos e2, if_pos (by omega)]
      congr 1
      omega
    · rw [if_neg e2, h2 j hj (by omega)]
      by_cases e3 : j < k ∨ xs.length - k ≤ j
      · rw [if_pos e3, if_pos (by omega)]
      · rw [if_neg e3, if_neg (by omega)]
theorem turned_get {xs cur : List Nat} {k : Nat} (h : Turned xs cur k) (hk : 2 * k + 1 < xs.length) : cur[k]'(by have := h.1; omega) = xs[k]'(by omega) ∧ cur[xs.length - 1 - k]'(by have := h.1; omega) = xs[xs.length - 1 - k]'(by omega) := by
  constructor
  · rw [h.2 k (by omega) (by have := h.1; omega), if_neg (by omega)]
  · rw [h.2 (xs.length - 1 - k) (by omega) (by have := h.1; omega), if_neg (by omega)]
theorem turned_end {xs cur : List Nat} {k : Nat} (h : Turned xs cur k) (hk : xs.length ≤ 2 * k + 1) : cur = xs.reverse := by
  apply List.ext_getElem
  · rw [h.1, List.length_reverse]
  · intro j h1 h2
    have hl := h.1
    rw [List.getElem_reverse, h.2 j (by omega) h1]
    by_cases e : j < k ∨ xs.length - k ≤ j
    · rw [if_pos e]
    · rw [if_neg e]
      congr 1
      omega

end Go.Proofs.YtelhbkfhalpniaaDoor

namespace Go.Proofs.YtelhbkfhalpniaaDoor
open Go.RowKit Go.Lib

/-- What guess answers: the quotient, or one more. -/
def Guessed (q : Nat) (e : Ending) : Prop := ∃ t : Nat, e = .returned (.int .u32 t) ∧ q ≤ t ∧ t ≤ q + 1 ∧ t < 4294967296

/-- A product of two limbs by a name. -/
theorem prod_name {x y : Nat} (hx : x < 4294967296) (hy : y < 4294967296) : ∃ p : Nat, x * y = p ∧ (x : Int) * (y : Int) = (p : Int) ∧ (p : Int) ≤ 18446744073709551615 := by
  have h : x * y ≤ 4294967295 * 4294967295 := Nat.mul_le_mul (by omega) (by omega)
  exact ⟨x * y, rfl, (Int.natCast_mul _ _).symm, by omega⟩

end Go.Proofs.YtelhbkfhalpniaaDoor
