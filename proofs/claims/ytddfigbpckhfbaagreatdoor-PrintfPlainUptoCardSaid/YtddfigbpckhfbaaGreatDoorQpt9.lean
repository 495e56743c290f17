/- Several texts in one (Contracts of layer 5: part and Parse; what stands ahead of a part (plain) where nothing does; Plain: a part of a format is told by the bytes that it has; by what stands behind it nothing turns; Contracts of layer 5: the pieces of a number as one, as wide as is asked for (padded); The order of floats by a whole number, and what a number is called that has no digits (boundless); Contracts of layer 5: Number, by a verb with a point, and of what has no digits; Plain: what digits in a base are worth; a whole number's digits in bases of eight and sixteen; Contracts of layer 5: a pattern of one part (plain, filled); Contracts of layer 5: a pattern of one part (filled, Conv); Contracts of layer 5: a number as a string, by a pattern of one part (Conv); Contracts of layer 4: what its laws share: whole numbers read, what is left of whole numbers, the fixed examples; Contracts of layer 6: values made, and what they count as; Contracts of layer 1: the bytes of a code, in the program and in the definition; Plain arithmetic of layer 1: the character at a place of a string; Contracts of layer 1: the character at a place of a string, in the program (Next) and in the definition (size, Next)). -/
import Derived.Test.YtddfigbpckhfbaaGreatDoorRows
import Derived.WalkKit
import Derived.WalkSpells
import Derived.WalkLawsBesides
import Derived.Lib.Hide
import Derived.Test.YtddfigbpckhfbaaGreatDoorShelf
import Derived.Lib.DecodeN
import Derived.Shelf.Unicode.DecodeSlow
import Derived.Lib.RuneCountTail
import Derived.Test.YtddfigbpckhfbaaGreatDoorQpt5
import Derived.Test.YtddfigbpckhfbaaGreatDoorQpt6
import Derived.Test.YtddfigbpckhfbaaGreatDoorQpt7
import Derived.Test.YtddfigbpckhfbaaGreatDoorQpt8
namespace Go.Proofs.YtddfigbpckhfbaaGreatDoor
open Go.RowKit Go.Lib

def PartEnd (S : ByteArray) (k g : Nat) (w : World) (e : Ending) (w' : World) : Prop := e = .returned (.tuple #[pcV ((partF S k).getD pc0), .bool (partF S k).isSome]) ∧ (∀ x, partF S k = some x → Rdr w' g S x.nx) ∧ Out [g] w w'
theorem part_any (S : ByteArray) (k g : Nat) (w : World) (hk : k ≤ S.size) (hS : S.size ≤ 4611686018427387904) (hR : Rdr w g S k) :
    Calls Tryz.prog 142 #[.pointer (some ⟨g, 0, none⟩)] w (PartEnd S k g w) := by
  unfold PartEnd
  by_cases h37 : atB S k = 37
  · obtain ⟨v, hv⟩ : ∃ v, vAll.contains (atB S (prAt S (amt S (flE S (k + 1))).2.2).2.2).toUInt8 = v := ⟨_, rfl⟩
    refine (part_rest S k g w hk hS hR h37 (flE S (k + 1)) (amt S (flE S (k + 1))).2.2 (prAt S (amt S (flE S (k + 1))).2.2).2.2 0 (atB S (prAt S (amt S (flE S (k + 1))).2.2).2.2) (amt S (flE S (k + 1))).1 (prAt S (amt S (flE S (k + 1))).2.2).1 (amt S (flE S (k + 1))).2.1 (prAt S (amt S (flE S (k + 1))).2.2).2.1 v rfl rfl rfl rfl hv).mono ?_
    rintro e w' ⟨rfl, h1, h2⟩
    unfold partF
    rw [if_pos h37, hv]
    cases v with
    | true => exact ⟨rfl, fun x hx => by cases hx; exact h1 rfl, h2⟩
    | false => exact ⟨rfl, (fun x hx => by cases hx), h2⟩
  · refine (part_first S k g w hk hS hR h37).mono ?_
    rintro e w' ⟨rfl, h2⟩
    unfold partF
    rw [if_neg h37]
    exact ⟨rfl, (fun x hx => by cases hx), h2⟩
/-- The part of a format that begins at a place, or the fault. -/
def parseF (S : ByteArray) (z : Int) : Option Pc := if 0 ≤ z ∧ z < (S.size : Int) then partF S z.toNat else none
set_option maxRecDepth 100000 in
set_option maxHeartbeats 8000000 in
theorem parse_no (S : ByteArray) (z : Int) (w : World) (h : ¬ (0 ≤ z ∧ z < (S.size : Int))) :
    Calls Tryz.prog 95 #[.string S, .int .i64 z] w fun e w' => e = .returned (.tuple #[pcV pc0, .int .i64 50]) ∧ Below w.heap.size w w' := by
  have f0 := Five.new w zc 96
  have hO := Lib.hid ((Out.refl [] w).alloc (.cells zc 96))
  have hcase : z < 0 ∨ (0 ≤ z ∧ ¬ z < (S.size : Int) ∧ (S.size : Int) ≤ z) := by omega
  have HF := Lib.hid f0
  clear h f0
  rcases hcase with h1 | ⟨h1, h2, h3⟩
  all_goals
    obtain ⟨⟨c0, c1, c2, c3, c4, c5, c6, c7, c8, c9, c10⟩, d0, d1, d2, d3, d4, d5, d6, d7, d8, d9, d10⟩ := HF.out.eleven
    go_enter Tryz.func95, Tryz.ntmps95
    go_wp2_with fail
    exact bodyPost_ret (v := .tuple #[.agg #[.bool false, .bool false, .bool false, .bool false, .bool false, .int .i64 0, .int .i64 0, .int .u8 0, .bool false, .bool false, .int .i64 0], .int .i64 50]) (by simp [results, Tryz.results95, go_sem, c0, c1, c2, c3, c4, c5, c6, c7, c8, c9, c10]) rfl ⟨rfl, (Below.refl _ _).alloc (Nat.le_refl _) _⟩
set_option maxRecDepth 100000 in
set_option maxHeartbeats 8000000 in
theorem parse_in (S : ByteArray) (k : Nat) (w : World) (h : k < S.size) (hS : S.size ≤ 4611686018427387904) (y : Option Pc) (hy : partF S k = y) :
    Calls Tryz.prog 95 #[.string S, .int .i64 (k : Int)] w fun e w' => e = .returned (.tuple #[pcV (y.getD pc0), .int .i64 (if y.isSome = true then 0 else 50)]) ∧ Below w.heap.size w w' := by
  have h1 : ¬ (k : Int) < 0 := by omega
  have h2 : (k : Int) < (S.size : Int) := by omega
  have cP := fun (g : Nat) (W : World) (hR : Rdr W g S k) => part_any S k g W (by omega) hS hR
  unfold PartEnd at cP
  rw [hy] at cP
  have fB := (Five.new w zc 96).alloc (.cells #[.string S, .int .i64 (k : Int)] 166)
  have fR := Five.new (w.alloc (.cells zc 96)) #[.string S, .int .i64 (k : Int)] 166
  have hO := ((Out.refl [w.heap.size + 1] w).alloc (.cells zc 96)).alloc (.cells #[.string S, .int .i64 (k : Int)] 166)
  rw [World.size_alloc] at fR
  obtain ⟨B, hB⟩ : ∃ B, w.heap.size = B := ⟨_, rfl⟩
  obtain ⟨W2, hW2⟩ : ∃ W2, (w.alloc (.cells zc 96)).alloc (.cells #[.string S, .int .i64 (k : Int)] 166) = W2 := ⟨_, rfl⟩
  rw [hW2] at fB fR hO
  rw [hB] at fB fR hO ⊢
  have HB := Lib.hid hB
  have HW2 := Lib.hid hW2
  have HFB := Lib.hid fB
  have HFR := Lib.hid (show Rdr W2 (B + 1) S k from fR)
  have HO := Lib.hid hO
  have CP := Lib.hid cP
  clear cP h hy hB hW2 fB fR hO
  cases y with
  | none =>
    go_enter Tryz.func95, Tryz.ntmps95
    go_wp2_with fail
    change Calls _ _ _ ((w.alloc (.cells zc 96)).alloc (.cells #[.string S, .int .i64 (k : Int)] 166)) _
    rw [HW2.out, HB.out]
    refine (CP.out (B + 1) _ HFR.out).mono ?_
    rintro e W3 ⟨rfl, -, o3⟩
    have HF3 := Lib.hid (o3.five HFB.out (by simp))
    have HO3 := Lib.hid (HO.out.trans o3)
    clear o3
    have HF4 := Lib.hid (HF3.out.alloc (.cells zc 96))
    have HO4 := Lib.hid (HO3.out.alloc (.cells zc 96))
    obtain ⟨⟨c0, c1, c2, c3, c4, c5, c6, c7, c8, c9, c10⟩, d0, d1, d2, d3, d4, d5, d6, d7, d8, d9, d10⟩ := HF4.out.eleven
    rw [show pcV ((none : Option Pc).getD pc0) = .agg zc from rfl]
    go_wp2_with fail
    clear c0 c1 c2 c3 c4 c5 c6 c7 c8 c9 c10 d0 d1 d2 d3 d4 d5 d6 d7 d8 d9 d10
    obtain ⟨z, hz⟩ := end11 (.bool false) (.bool false) (.bool false) (.bool false) (.bool false) (.int .i64 0) (.int .i64 0) (.int .u8 0) (.bool false) (.bool false) (.int .i64 0) HF4.out HO4.out (Nat.le_of_eq HB.out)
    obtain ⟨⟨c0, c1, c2, c3, c4, c5, c6, c7, c8, c9, c10⟩, -⟩ := z.eleven
    have hzb : Below B w _ := hz.below (Nat.le_of_eq HB.out.symm) (by simp)
    exact bodyPost_ret (v := .tuple #[.agg #[.bool false, .bool false, .bool false, .bool false, .bool false, .int .i64 0, .int .i64 0, .int .u8 0, .bool false, .bool false, .int .i64 0], .int .i64 50]) (by simp [results, Tryz.results95, go_sem, c0, c1, c2, c3, c4, c5, c6, c7, c8, c9, c10]) rfl ⟨rfl, hzb⟩
  | some x =>
    obtain ⟨m, p, b, a, z, wd, pr, c, sw, sp, nx⟩ := x
    go_enter Tryz.func95, Tryz.ntmps95
    go_wp2_with fail
    change Calls _ _ _ ((w.alloc (.cells zc 96)).alloc (.cells #[.string S, .int .i64 (k : Int)] 166)) _
    rw [HW2.out, HB.out]
    refine (CP.out (B + 1) _ HFR.out).mono ?_
    rintro e W3 ⟨rfl, -, o3⟩
    have HF3 := Lib.hid (o3.five HFB.out (by simp))
    have HO3 := Lib.hid (HO.out.trans o3)
    clear o3
    have HF4 := Lib.hid (HF3.out.alloc (.cells #[.bool m, .bool p, .bool b, .bool a, .bool z, .int .i64 wd, .int .i64 pr, .int .u8 (c : Int), .bool sw, .bool sp, .int .i64 (nx : Int)] 96))
    have HO4 := Lib.hid (HO3.out.alloc (.cells #[.bool m, .bool p, .bool b, .bool a, .bool z, .int .i64 wd, .int .i64 pr, .int .u8 (c : Int), .bool sw, .bool sp, .int .i64 (nx : Int)] 96))
    obtain ⟨⟨c0, c1, c2, c3, c4, c5, c6, c7, c8, c9, c10⟩, d0, d1, d2, d3, d4, d5, d6, d7, d8, d9, d10⟩ := HF4.out.eleven
    obtain ⟨⟨e0, e1, e2, e3, e4, e5, e6, e7, e8, e9, e10⟩, -⟩ := (Five.new W3 #[.bool m, .bool p, .bool b, .bool a, .bool z, .int .i64 wd, .int .i64 pr, .int .u8 (c : Int), .bool sw, .bool sp, .int .i64 (nx : Int)] 96).eleven
    rw [show pcV ((some (⟨m, p, b, a, z, wd, pr, c, sw, sp, nx⟩ : Pc)).getD pc0) = .agg #[.bool m, .bool p, .bool b, .bool a, .bool z, .int .i64 wd, .int .i64 pr, .int .u8 (c : Int), .bool sw, .bool sp, .int .i64 (nx : Int)] from rfl]
    go_wp2_with fail
    clear c0 c1 c2 c3 c4 c5 c6 c7 c8 c9 c10 d0 d1 d2 d3 d4 d5 d6 d7 d8 d9 d10 e0 e1 e2 e3 e4 e5 e6 e7 e8 e9 e10
    obtain ⟨z', hz⟩ := end11 (.bool m) (.bool p) (.bool b) (.bool a) (.bool z) (.int .i64 wd) (.int .i64 pr) (.int .u8 (c : Int)) (.bool sw) (.bool sp) (.int .i64 (nx : Int)) HF4.out HO4.out (Nat.le_of_eq HB.out)
    obtain ⟨⟨c0, c1, c2, c3, c4, c5, c6, c7, c8, c9, c10⟩, -⟩ := z'.eleven
    have hzb : Below B w _ := hz.below (Nat.le_of_eq HB.out.symm) (by simp)
    exact bodyPost_ret (v := .tuple #[.agg #[.bool m, .bool p, .bool b, .bool a, .bool z, .int .i64 wd, .int .i64 pr, .int .u8 (c : Int), .bool sw, .bool sp, .int .i64 (nx : Int)], .int .i64 0]) (by simp [results, Tryz.results95, go_sem, c0, c1, c2, c3, c4, c5, c6, c7, c8, c9, c10]) rfl ⟨rfl, hzb⟩
def pErr (y : Option Pc) : Int := if y.isSome = true then 0 else 50
theorem fparse_any (S : ByteArray) (z : Int) (w : World) (hS : S.size ≤ 4611686018427387904) :
    Calls Tryz.prog 95 #[.string S, .int .i64 z] w fun e w' => e = .returned (.tuple #[pcV ((parseF S z).getD pc0), .int .i64 (pErr (parseF S z))]) ∧ Below w.heap.size w w' := by
  by_cases h : 0 ≤ z ∧ z < (S.size : Int)
  · obtain ⟨k, rfl⟩ : ∃ k : Nat, z = (k : Int) := ⟨z.toNat, by omega⟩
    have hp : parseF S (k : Int) = partF S k := by unfold parseF; rw [if_pos h, Int.toNat_natCast]
    rw [hp]
    exact parse_in S k w (by omega) hS _ rfl
  · have hp : parseF S z = none := by unfold parseF; rw [if_neg h]
    rw [hp]
    exact parse_no S z w h
end Go.Proofs.YtddfigbpckhfbaaGreatDoor

namespace Go.Proofs.YtddfigbpckhfbaaGreatDoor
open Go.RowKit Go.Lib

theorem runP_yes (p : Nat → Bool) (S : ByteArray) : ∀ f k i, i < runP p S k f → p (atB S (k + i)) = true := by
  intro f
  induction f with
  | zero => intro k i h; rw [runP] at h; omega
  | succ f ih =>
    intro k i h
    rw [runP] at h
    split at h
    case isFalse => omega
    rename_i h0
    rcases Nat.eq_zero_or_pos i with rfl | h1
    · exact h0
    · have := ih (k + 1) (i - 1) (by omega)
      rwa [show k + 1 + (i - 1) = k + i by omega] at this
theorem runP_no (p : Nat → Bool) (S : ByteArray) : ∀ f k, runP p S k f < f → p (atB S (k + runP p S k f)) = false := by
  intro f
  induction f with
  | zero => intro k h; rw [runP] at h; omega
  | succ f ih =>
    intro k h
    rw [runP] at h ⊢
    split
    · rename_i h0
      rw [if_pos h0] at h
      have := ih (k + 1) (by omega)
      rwa [show k + 1 + runP p S (k + 1) f = k + (1 + runP p S (k + 1) f) by omega] at this
    · rename_i h0
      rw [Nat.add_zero]
      cases q : p (atB S k) with
      | true => exact absurd q h0
      | false => rfl
/-- The bytes of one text from k on are those of another one from k' on, n of them. -/
def Agr (S S' : ByteArray) (k k' n : Nat) : Prop := ∀ i, i < n → atB S' (k' + i) = atB S (k + i)
theorem Agr.tail {S S' : ByteArray} {k k' n : Nat} (h : Agr S S' k k' n) (j : Nat) : Agr S S' (k + j) (k' + j) (n - j) := fun i hi => by
  have := h (j + i) (by omega)
  rwa [← Nat.add_assoc, ← Nat.add_assoc] at this
theorem Agr.less {S S' : ByteArray} {k k' n m : Nat} (h : Agr S S' k k' n) (hm : m ≤ n) : Agr S S' k k' m := fun i hi => h i (by omega)
theorem run_agr {p : Nat → Bool} {S S' : ByteArray} {k k' n : Nat} (h : Agr S S' k k' n) (hS : k + n ≤ S.size) (hS' : k' + n ≤ S'.size) (hr : runP p S k (S.size - k) < n) : runP p S' k' (S'.size - k') = runP p S k (S.size - k) := by
  refine runP_at (by omega) (fun i hi => ?_) (Or.inl ?_)
  · rw [h i (by omega)]
    exact runP_yes p S _ k i hi
  · rw [h _ hr]
    exact runP_no p S _ k (by omega)
theorem dgN_agr {S S' : ByteArray} {k k' n : Nat} (h : Agr S S' k k' n) (hS : k + n ≤ S.size) (hS' : k' + n ≤ S'.size) (hr : dgN S k < n) : dgN S' k' = dgN S k := by
  by_cases h5 : runP isDg S k (S.size - k) < 5
  · have e : dgN S k = runP isDg S k (S.size - k) := by unfold dgN; omega
    rw [e] at hr ⊢
    unfold dgN
    rw [run_agr h hS hS' hr]
    omega
  · have e : dgN S k = 5 := by unfold dgN; omega
    rw [e] at hr ⊢
    have := run_le (p := isDg) (S := S') (k := k') (f := S'.size - k') (n := 5) (by omega) (fun i hi => by rw [h i (by omega)]; exact runP_yes _ _ (S.size - k) _ _ (by omega))
    unfold dgN
    omega
theorem digV_agr {S S' : ByteArray} {k k' : Nat} : ∀ n, Agr S S' k k' n → digV S' k' n = digV S k n := by
  intro n
  induction n with
  | zero => intro _; rfl
  | succ n ih =>
    intro h
    rw [digV, digV, ih (h.less (by omega)), h n (by omega)]
theorem hasN_agr {S S' : ByteArray} {k k' c : Nat} : ∀ n, Agr S S' k k' n → hasN S' k' c n = hasN S k c n := by
  intro n
  induction n with
  | zero => intro _; rfl
  | succ n ih =>
    intro h
    rw [hasN, hasN, ih (h.less (by omega)), h n (by omega)]
theorem amt_agr {S S' : ByteArray} {k k' n : Nat} (h : Agr S S' k k' n) (hS : k + n ≤ S.size) (hS' : k' + n ≤ S'.size) (hr : (amt S k).2.2 < k + n) :
    amt S' k' = ((amt S k).1, (amt S k).2.1, (amt S k).2.2 - k + k') := by
  unfold amt at hr ⊢
  have h0 : 0 < n := by
    split at hr
    · simp only at hr; omega
    · simp only at hr; omega
  have e0 := h 0 h0
  rw [Nat.add_zero, Nat.add_zero] at e0
  rw [e0]
  by_cases h42 : atB S k = 42
  · rw [if_pos h42, if_pos h42]
    simp only [Prod.mk.injEq, true_and]
    omega
  · rw [if_neg h42] at hr
    rw [if_neg h42, if_neg h42]
    simp only at hr
    have e := dgN_agr h hS hS' (by omega)
    rw [e, digV_agr _ (h.less (by omega))]
    simp only [Prod.mk.injEq, true_and]
    omega
theorem amt_ge (S : ByteArray) (k : Nat) : k ≤ (amt S k).2.2 := by
  unfold amt
  split
  · exact Nat.le_succ _
  · exact Nat.le_add_right _ _
theorem prAt_ge (S : ByteArray) (k : Nat) : k ≤ (prAt S k).2.2 := by
  unfold prAt
  split
  · have := amt_ge S (k + 1); omega
  · exact Nat.le_refl _
theorem prAt_agr {S S' : ByteArray} {k k' n : Nat} (h : Agr S S' k k' n) (hS : k + n ≤ S.size) (hS' : k' + n ≤ S'.size) (hr : (prAt S k).2.2 < k + n) :
    prAt S' k' = ((prAt S k).1, (prAt S k).2.1, (prAt S k).2.2 - k + k') := by
  have h0 : 0 < n := by have := prAt_ge S k; omega
  have e0 := h 0 h0
  rw [Nat.add_zero, Nat.add_zero] at e0
  unfold prAt at hr ⊢
  rw [e0]
  by_cases h46 : atB S k = 46
  · rw [if_pos h46] at hr
    rw [if_pos h46, if_pos h46]
    have := amt_ge S (k + 1)
    rw [amt_agr (h.tail 1) (by omega) (by omega) (by omega)]
    simp only [Prod.mk.injEq, true_and]
    omega
  · rw [if_neg h46] at hr
    rw [if_neg h46, if_neg h46]
    simp only [Prod.mk.injEq, true_and]
    omega
theorem flE_ge (S : ByteArray) (k : Nat) : k ≤ flE S k := Nat.le_add_right _ _
theorem flE_agr {S S' : ByteArray} {k k' n : Nat} (h : Agr S S' k k' n) (hS : k + n ≤ S.size) (hS' : k' + n ≤ S'.size) (hr : flE S k < k + n) : flE S' k' = flE S k - k + k' := by
  unfold flE at hr ⊢
  rw [run_agr h hS hS' (by omega)]
  omega
/-- Where a part ends: behind its verb, which the text has. -/
theorem part_ends {S : ByteArray} {k : Nat} {x : Pc} (h : partF S k = some x) : k + 1 < x.nx ∧ x.nx ≤ S.size ∧ atB S k = 37 ∧ (prAt S (amt S (flE S (k + 1))).2.2).2.2 + 1 = x.nx ∧ vAll.contains x.c.toUInt8 = true ∧ x.c < 256 := by
  unfold partF at h
  split at h
  case isFalse => cases h
  rename_i h37
  split at h
  case isFalse => cases h
  rename_i hv
  have h1 := flE_ge S (k + 1)
  have h2 := amt_ge S (flE S (k + 1))
  have h3 := prAt_ge S (amt S (flE S (k + 1))).2.2
  have h4 : 0 < atB S (prAt S (amt S (flE S (k + 1))).2.2).2.2 := by
    rcases Nat.eq_zero_or_pos (atB S (prAt S (amt S (flE S (k + 1))).2.2).2.2) with e | e
    · rw [e] at hv; exact absurd hv (by decide)
    · exact e
  have h5 := atB_size h4
  have e := Option.some.inj h
  subst e
  exact ⟨by show k + 1 < (prAt S (amt S (flE S (k + 1))).2.2).2.2 + 1; omega, h5, h37, rfl, hv, atB_lt _ _⟩
/-- A part is told by its own bytes. -/
theorem part_agr {S S' : ByteArray} {k k' : Nat} {x : Pc} (h : partF S k = some x) (ha : Agr S S' k k' (x.nx - k)) (hS' : k' + (x.nx - k) ≤ S'.size) :
    partF S' k' = some ⟨x.m, x.p, x.b, x.a, x.z, x.wd, x.pr, x.c, x.sw, x.sp, x.nx - k + k'⟩ := by
  obtain ⟨q1, q2, q3, q4, -, -⟩ := part_ends h
  have h1 := flE_ge S (k + 1)
  have h2 := amt_ge S (flE S (k + 1))
  have h3 := prAt_ge S (amt S (flE S (k + 1))).2.2
  have a1 := ha.tail 1
  have e1 := flE_agr a1 (by omega) (by omega) (by omega)
  have a2 := ha.tail (flE S (k + 1) - k)
  rw [show k + (flE S (k + 1) - k) = flE S (k + 1) by omega, show k' + (flE S (k + 1) - k) = flE S (k + 1) - (k + 1) + (k' + 1) by omega] at a2
  have e2 := amt_agr a2 (by omega) (by omega) (by omega)
  have a3 := ha.tail ((amt S (flE S (k + 1))).2.2 - k)
  rw [show k + ((amt S (flE S (k + 1))).2.2 - k) = (amt S (flE S (k + 1))).2.2 by omega, show k' + ((amt S (flE S (k + 1))).2.2 - k) = (amt S (flE S (k + 1))).2.2 - flE S (k + 1) + (flE S (k + 1) - (k + 1) + (k' + 1)) by omega] at a3
  have e3 := prAt_agr a3 (by omega) (by omega) (by omega)
  have ev := ha ((prAt S (amt S (flE S (k + 1))).2.2).2.2 - k) (by omega)
  rw [show k + ((prAt S (amt S (flE S (k + 1))).2.2).2.2 - k) = (prAt S (amt S (flE S (k + 1))).2.2).2.2 by omega] at ev
  have e37 := ha 0 (by omega)
  rw [Nat.add_zero, Nat.add_zero, q3] at e37
  have hh : ∀ c, hasN S' (k' + 1) c (flE S (k + 1) - (k + 1)) = hasN S (k + 1) c (flE S (k + 1) - (k + 1)) := fun c => hasN_agr _ (a1.less (by omega))
  unfold partF at h ⊢
  rw [if_pos q3] at h
  rw [if_pos e37, e1, e2]
  dsimp only
  rw [e3]
  dsimp only
  rw [show (prAt S (amt S (flE S (k + 1))).2.2).2.2 - (amt S (flE S (k + 1))).2.2 + ((amt S (flE S (k + 1))).2.2 - flE S (k + 1) + (flE S (k + 1) - (k + 1) + (k' + 1))) = k' + ((prAt S (amt S (flE S (k + 1))).2.2).2.2 - k) by omega, ev]
  split at h
  case isFalse => cases h
  rename_i hv
  have e := Option.some.inj h
  subst e
  rw [if_pos hv]
  rw [show flE S (k + 1) - (k + 1) + (k' + 1) - (k' + 1) = flE S (k + 1) - (k + 1) by omega, hh, hh, hh, hh, hh]
  simp only [Option.some.injEq, Pc.mk.injEq, true_and]
  omega
/-- Where none begins, none begins in the other one, if all that is left agrees. -/
theorem part_none {S S' : ByteArray} {k k' : Nat} (h : partF S k = none) (ha : Agr S S' k k' (S.size - k)) (hk : k ≤ S.size) (hs : k' + (S.size - k) = S'.size) : partF S' k' = none := by
  cases h2 : partF S' k' with
  | none => rfl
  | some y =>
    obtain ⟨q1, q2, -⟩ := part_ends h2
    have := part_agr h2 (S' := S) (k' := k) (fun i hi => (ha i (by omega)).symm) (by omega)
    rw [h] at this
    cases this
theorem atB_list (S : ByteArray) (k : Nat) : atB S k = (S.data.toList[k]?.map UInt8.toNat).getD 0 := by
  by_cases h : k < S.size
  · rw [atB_in h]
    have := ba_byte S rfl k h
    rw [this]
    rfl
  · rw [atB_out h, List.getElem?_eq_none (by rw [ba_len]; omega)]
    rfl
theorem size_two (F G : ByteArray) : (F ++ G).size = F.size + G.size := ByteArray.size_append
theorem toList_two (F G : ByteArray) : (F ++ G).data.toList = F.data.toList ++ G.data.toList := by
  rw [ByteArray.data_append, Array.toList_append]
theorem atB_left {F G : ByteArray} {k : Nat} (h : k < F.size) : atB (F ++ G) k = atB F k := by
  rw [atB_list, atB_list, toList_two, List.getElem?_append_left (by rw [ba_len]; exact h)]
theorem atB_right {F G : ByteArray} {k : Nat} : atB (F ++ G) (F.size + k) = atB G k := by
  rw [atB_list, atB_list, toList_two, List.getElem?_append_right (by rw [ba_len]; omega), ba_len]
  congr 3
  omega
/-- A part of the first of two texts is one of both. -/
theorem part_left {F G : ByteArray} {k : Nat} {x : Pc} (h : partF F k = some x) : partF (F ++ G) k = some x := by
  obtain ⟨q1, q2, -⟩ := part_ends h
  have := part_agr h (S' := F ++ G) (k' := k) (fun i hi => atB_left (by omega)) (by rw [size_two]; omega)
  rw [this, show x.nx - k + k = x.nx by omega]
/-- A part of the second one, too, further behind. -/
theorem part_right {F G : ByteArray} {k : Nat} {x : Pc} (h : partF G k = some x) : partF (F ++ G) (F.size + k) = some ⟨x.m, x.p, x.b, x.a, x.z, x.wd, x.pr, x.c, x.sw, x.sp, F.size + x.nx⟩ := by
  obtain ⟨q1, q2, -⟩ := part_ends h
  have := part_agr h (S' := F ++ G) (k' := F.size + k) (fun i hi => by rw [Nat.add_assoc]; exact atB_right) (by rw [size_two]; omega)
  rw [this, show x.nx - k + (F.size + k) = F.size + x.nx by omega]
theorem part_right_none {F G : ByteArray} {k : Nat} (hk : k ≤ G.size) (h : partF G k = none) : partF (F ++ G) (F.size + k) = none :=
  part_none h (fun i _ => by rw [Nat.add_assoc]; exact atB_right) hk (by rw [size_two]; omega)
end Go.Proofs.YtddfigbpckhfbaaGreatDoor

namespace Go.Proofs.YtddfigbpckhfbaaGreatDoor
open Go.RowKit Go.Lib

def AscL (l : List UInt8) : Prop := ∀ c ∈ l, c.toNat < 128
theorem upper_asc (s : ByteArray) (w : World) (hs : s.size ≤ 100000) (ha : AscL s.data.toList) : Calls Tryz.prog 220 #[.string s] w fun e w' => e = .returned (.string ⟨(Lib.toUpperA s.data.toList).toArray⟩) ∧ Below w.heap.size w w' :=
  Tryz.strings_ToUpper_ascii s w (by omega) (fun j b hb => ha b (List.mem_of_getElem? hb))
theorem upper_len (l : List UInt8) : (Lib.toUpperA l).length = l.length := by unfold Lib.toUpperA; rw [List.length_map]
theorem ba_three (a b d : ByteArray) : a ++ b ++ d = ⟨(a.data.toList ++ b.data.toList ++ d.data.toList).toArray⟩ := by
  apply ByteArray.ext
  apply Array.toList_inj.1
  rw [ByteArray.data_append, ByteArray.data_append, Array.toList_append, Array.toList_append]
theorem ba_four (a b z d : ByteArray) : a ++ b ++ z ++ d = ⟨(a.data.toList ++ (b.data.toList ++ (z.data.toList ++ d.data.toList))).toArray⟩ := by
  apply ByteArray.ext
  apply Array.toList_inj.1
  rw [ByteArray.data_append, ByteArray.data_append, ByteArray.data_append, Array.toList_append, Array.toList_append, Array.toList_append, List.append_assoc, List.append_assoc]
def PadEnd (w : World) (X : ByteArray) (e : Ending) (w' : World) : Prop := e = .returned (.string X) ∧ Below w.heap.size w w'
set_option maxRecDepth 100000 in
set_option maxHeartbeats 8000000 in
theorem padded_core (m p b a z : Bool) (wd pr : Int) (c : Nat) (no : Bool) (SG BS DS BU DU X : ByteArray) (w : World) (hw0 : -100000 ≤ wd) (hw1 : wd ≤ 100000) (s1 : SG.size ≤ 10) (s2 : BS.size ≤ 10) (s3 : DS.size ≤ 20000) (a2 : AscL BS.data.toList) (a3 : AscL DS.data.toList)
    (hU : if vCap.contains c.toUInt8 = true then BU = ⟨(Lib.toUpperA BS.data.toList).toArray⟩ ∧ DU = ⟨(Lib.toUpperA DS.data.toList).toArray⟩ else BU = BS ∧ DU = DS)
    (hX : X = ⟨(laidL SG.data.toList BU.data.toList DU.data.toList wd m no).toArray⟩) :
    Calls Tryz.prog 182 #[.agg #[.string SG, .string BS, .string DS], .agg #[.bool m, .bool p, .bool b, .bool a, .bool z, .int .i64 wd, .int .i64 pr, .int .u8 (c : Int)], .bool no] w (PadEnd w X) := by
  have cA := fun W => among_any ⟨#[88, 69, 70, 71]⟩ c W
  replace cA : ∀ w : World, Calls Tryz.prog 179 #[.string ⟨#[88, 69, 70, 71]⟩, .int .u8 (c : Int)] w fun e w' => e = .returned (.bool (vCap.contains c.toUInt8)) ∧ w = w' := cA
  have u2 : BU.size = BS.size := by
    split at hU
    · rw [hU.1, ← ba_len, ← ba_len]; exact upper_len _
    · rw [hU.1]
  have u3 : DU.size = DS.size := by
    split at hU
    · rw [hU.2, ← ba_len, ← ba_len]; exact upper_len _
    · rw [hU.2]
  have t2 : BU.size ≤ 10 := by omega
  have t3 : DU.size ≤ 20000 := by omega
  clear u2 u3
  have CB := Lib.hid (fun W => upper_asc BS W (by omega) a2)
  have CD := Lib.hid (fun W => upper_asc DS W (by omega) a3)
  obtain ⟨v, hv⟩ : ∃ v, vCap.contains c.toUInt8 = v := ⟨_, rfl⟩
  rw [hv] at cA hU
  have CA := Lib.hid cA
  have HU := Lib.hid hU
  clear cA hv hU a2 a3
  have fW := (Five.new w #[.string SG, .string BS, .string DS] 215).alloc (.cells #[.bool m, .bool p, .bool b, .bool a, .bool z, .int .i64 wd, .int .i64 pr, .int .u8 (c : Int)] 94)
  have fP := Five.new (w.alloc (.cells #[.string SG, .string BS, .string DS] 215)) #[.bool m, .bool p, .bool b, .bool a, .bool z, .int .i64 wd, .int .i64 pr, .int .u8 (c : Int)] 94
  have hB0 := ((Below.refl w.heap.size w).alloc (Nat.le_refl _) (.cells #[.string SG, .string BS, .string DS] 215)).alloc (by simp) (.cells #[.bool m, .bool p, .bool b, .bool a, .bool z, .int .i64 wd, .int .i64 pr, .int .u8 (c : Int)] 94)
  rw [World.size_alloc] at fP
  have hsz : ((w.alloc (.cells #[.string SG, .string BS, .string DS] 215)).alloc (.cells #[.bool m, .bool p, .bool b, .bool a, .bool z, .int .i64 wd, .int .i64 pr, .int .u8 (c : Int)] 94)).heap.size = w.heap.size + 2 := by rw [World.size_alloc, World.size_alloc]
  unfold PadEnd
  obtain ⟨B, hB⟩ : ∃ B, w.heap.size = B := ⟨_, rfl⟩
  obtain ⟨W2, hW2⟩ : ∃ W2, (w.alloc (.cells #[.string SG, .string BS, .string DS] 215)).alloc (.cells #[.bool m, .bool p, .bool b, .bool a, .bool z, .int .i64 wd, .int .i64 pr, .int .u8 (c : Int)] 94) = W2 := ⟨_, rfl⟩
  rw [hW2] at fP fW hB0 hsz
  rw [hB] at fP fW hB0 hsz ⊢
  have FP := Lib.hid fP
  have FW := Lib.hid fW
  have HB0 := Lib.hid hB0
  have HSZ := Lib.hid hsz
  have HW2 := Lib.hid hW2
  have HB := Lib.hid hB
  have HX := Lib.hid hX
  clear fP fW hB0 hsz hW2 hB hX
  go_enter Tryz.func182, Tryz.ntmps182
  go_upto_if 11 with (go_at_call 179; refine (CA.out _).mono ?_; rintro e w' ⟨rfl, rfl⟩)
  rw [HW2.out, HB.out]
  go_cut [] (fun wx => Five wx B #[.string SG, .string BU, .string DU] 215 ∧ Five wx (B + 1) #[.bool m, .bool p, .bool b, .bool a, .bool z, .int .i64 wd, .int .i64 pr, .int .u8 (c : Int)] 94 ∧ Below B w wx)
  case first =>
    cases v with
    | false =>
      have hU2 := HU.out
      rw [if_neg (by decide)] at hU2
      obtain ⟨rfl, rfl⟩ := hU2
      go_wp2_with fail
      go_meet
      exact ⟨FW.out, FP.out, HB0.out⟩
    | true =>
      have hU2 := HU.out
      rw [if_pos rfl] at hU2
      obtain ⟨hU3, hU4⟩ := hU2
      have CB := CB.out
      have CD := CD.out
      rw [← hU3] at CB
      rw [← hU4] at CD
      have CB := Lib.hid CB
      have CD := Lib.hid CD
      clear hU3 hU4
      have HCW := Lib.hid (fun (W : World) (h : Below W2.heap.size W2 W) => (FW.out.below h).three)
      obtain ⟨q0, q1, q2, r0, r1, r2⟩ := FW.out.three
      go_wp2_with fail
      go_region_with (first
        | (go_at_call 220; (with_reducible refine (CB.out _).mono ?_); rintro e W3 ⟨rfl, h3⟩; have b3 : Below W2.heap.size W2 W3 := ⟨h3.os, h3.tape, h3.output, h3.size, h3.block⟩; obtain ⟨q0, q1, q2, r0, r1, r2⟩ := HCW.out _ b3; clear h3)
        | (go_at_call 220; (with_reducible refine (CD.out _).mono ?_); rintro e W4 ⟨rfl, h4⟩; have b4 : Below W2.heap.size W2 W4 := b3.trans ((⟨h4.os, h4.tape, h4.output, h4.size, h4.block⟩ : Below W3.heap.size W3 W4).mono b3.size); obtain ⟨q0, q1, q2, r0, r1, r2⟩ := HCW.out _ b4; clear h4))
      all_goals
        go_wp2_with fail
        go_meet
        have f4 : Five ((W4.setCell ⟨B, 1, none⟩ (.string BU)).setCell ⟨B, 2, none⟩ (.string DU)) B #[.string SG, .string BU, .string DU] 215 := ((FW.out.below b4).set (j := 1) (u := .string BU)).set (j := 2) (u := .string DU)
        have p4 : Five ((W4.setCell ⟨B, 1, none⟩ (.string BU)).setCell ⟨B, 2, none⟩ (.string DU)) (B + 1) #[.bool m, .bool p, .bool b, .bool a, .bool z, .int .i64 wd, .int .i64 pr, .int .u8 (c : Int)] 94 := ((FP.out.below b4).other (j := 1) (u := .string BU) (by omega)).other (j := 2) (u := .string DU) (by omega)
        have hB4 : Below B w ((W4.setCell ⟨B, 1, none⟩ (.string BU)).setCell ⟨B, 2, none⟩ (.string DU)) := ((HB0.out.trans (b4.mono (by have := HSZ.out; omega))).setCell (p := ⟨B, 1, none⟩) (Nat.le_refl _) _).setCell (p := ⟨B, 2, none⟩) (Nat.le_refl _) _
        first
        | exact ⟨f4, p4, hB4⟩
        | exact ⟨⟨f4.row⟩, ⟨p4.row⟩, ⟨hB4.os, hB4.tape, hB4.output, hB4.size, hB4.block⟩⟩
  case rest =>
    obtain ⟨F, Pc, hBx⟩ := hcut
    obtain ⟨q0, q1, q2, -, -, -⟩ := F.three
    obtain ⟨p0, -, -, -, -, p5, -, -⟩ := spec_cells Pc
    have hBw : B ≤ wc.heap.size := Nat.le_of_lt F.lt
    have HBX := Lib.hid hBx
    have HF := Lib.hid F
    have hlen : ((SG.data.toList ++ BU.data.toList ++ DU.data.toList).length : Int) = (SG.size : Int) + (BU.size : Int) + (DU.size : Int) := by
      rw [List.length_append, List.length_append, ba_len, ba_len, ba_len]; omega
    have hbd : (SG ++ BU ++ DU).size ≤ 1099511627776 := by rw [ByteArray.size_append, ByteArray.size_append]; omega
    have CF := Lib.hid (fun W => fill_any (SG ++ BU ++ DU) (wd - ((SG.size : Int) + (BU.size : Int) + (DU.size : Int))) m W hbd (by omega) (by omega))
    have CR := Lib.hid (fun W => rep_any 48 (wd - ((SG.size : Int) + (BU.size : Int) + (DU.size : Int))) W (by omega) (by omega))
    have HX2 := Lib.hid (show X = (if no = true ∧ m = false then SG ++ BU ++ ⟨(List.replicate (wd - ((SG.size : Int) + (BU.size : Int) + (DU.size : Int))).toNat (48 : UInt8)).toArray⟩ ++ DU else ⟨(fillL (SG ++ BU ++ DU).data.toList (wd - ((SG.size : Int) + (BU.size : Int) + (DU.size : Int))) m).toArray⟩) by
      rw [HX.out]
      unfold laidL
      rw [hlen]
      split
      · rw [ba_four]
      · rw [ba_three])
    clear hlen hbd F Pc hBx HX HU CB CD CA FP FW HSZ HB0
    by_cases hc : no = true ∧ m = false
    · have HX3 := HX2.out
      rw [if_pos hc] at HX3
      obtain ⟨rfl, rfl⟩ := hc
      obtain ⟨Z, hZ⟩ : ∃ Z : ByteArray, (⟨(List.replicate (wd - ((SG.size : Int) + (BU.size : Int) + (DU.size : Int))).toNat (48 : UInt8)).toArray⟩ : ByteArray) = Z := ⟨_, rfl⟩
      have hZs : Z.size ≤ 1000000 := by rw [← ba_len, ← hZ]; show (List.replicate _ (48 : UInt8)).length ≤ _; rw [List.length_replicate]; omega
      have c1 : ¬ 9223372036854775807 < SG.size + BU.size := by omega
      have c2 : ¬ 9223372036854775807 < SG.size + BU.size + Z.size := by omega
      have c3 : ¬ 9223372036854775807 < SG.size + BU.size + Z.size + DU.size := by omega
      have CR := CR.out
      rw [hZ] at CR HX3
      have CR := Lib.hid CR
      have HX3 := Lib.hid HX3
      clear hZ HX2 CF
      have HCW := Lib.hid (fun (W : World) (h : Below wc.heap.size wc W) => (show W.cell? ⟨B, 0, none⟩ = some (.string SG) ∧ W.cell? ⟨B, 1, none⟩ = some (.string BU) ∧ W.cell? ⟨B, 2, none⟩ = some (.string DU) from ⟨(HF.out.below h).cell 0, (HF.out.below h).cell 1, (HF.out.below h).cell 2⟩))
      go_wp2_with fail
      go_region_held3 (fun w' => w'.cell? ⟨B, 0, none⟩ = some (.string SG) ∧ w'.cell? ⟨B, 1, none⟩ = some (.string BU) ∧ w'.cell? ⟨B, 2, none⟩ = some (.string DU))
        (first | (with_reducible exact S1) | go_keep)
        (first
        | (go_at_call 216; (with_reducible refine (CR.out _).mono ?_); rintro e W3 ⟨rfl, h3⟩; have b3 : Below wc.heap.size wc W3 := ⟨h3.os, h3.tape, h3.output, h3.size, h3.block⟩; have S1 := HCW.out _ b3; clear h3))
      all_goals
        have hBf := HBX.out.trans (b3.mono hBw)
        go_wp2_with fail
        go_ret
        exact ⟨by show Ending.returned (.string (SG ++ BU ++ Z ++ DU)) = _; rw [HX3.out], by first | exact hBf | exact ⟨hBf.os, hBf.tape, hBf.output, hBf.size, hBf.block⟩⟩
    · have HX3 := HX2.out
      rw [if_neg hc] at HX3
      have CF := CF.out
      obtain ⟨Y, hY⟩ : ∃ Y : ByteArray, (⟨(fillL (SG ++ BU ++ DU).data.toList (wd - ((SG.size : Int) + (BU.size : Int) + (DU.size : Int))) m).toArray⟩ : ByteArray) = Y := ⟨_, rfl⟩
      rw [hY] at CF HX3
      have CF := Lib.hid CF
      have HX3 := Lib.hid HX3
      clear HX2 CR hY
      have hc2 : no = false ∨ (no = true ∧ m = true) := by
        cases no
        · exact Or.inl rfl
        · cases m
          · exact absurd ⟨rfl, rfl⟩ hc
          · exact Or.inr ⟨rfl, rfl⟩
      clear hc
      rcases hc2 with rfl | ⟨rfl, rfl⟩
      all_goals
        go_wp2_with fail
        refine (CF.out _).mono ?_
        rintro e W3 ⟨rfl, h3⟩
        have hBf := HBX.out.trans (h3.mono hBw)
        clear h3
        go_wp2_with fail
        go_ret
        exact ⟨by show Ending.returned (.string Y) = _; rw [HX3.out], hBf⟩
theorem asc_dec {l : List UInt8} (h : Dec l) : AscL l := fun c hc => by have := h c hc; omega
theorem asc_app {l k : List UInt8} (h : AscL l) (g : AscL k) : AscL (l ++ k) := fun c hc => (List.mem_append.1 hc).elim (h c) (g c)
theorem asc_sub {l k : List UInt8} (h : AscL l) (g : ∀ c ∈ k, c ∈ l) : AscL k := fun c hc => h c (g c hc)
theorem asc_cons {x : UInt8} {l : List UInt8} (hx : x.toNat < 128) (h : AscL l) : AscL (x :: l) := fun c hc => by
  rcases List.mem_cons.1 hc with rfl | hc
  · exact hx
  · exact h c hc
theorem asc_nil : AscL [] := fun c hc => by cases hc
theorem asc_ptT {d : List UInt8} (h : Dec d) (q : Bool) : AscL (ptT d q) := by
  unfold ptT
  split
  · exact asc_app (asc_dec (dec_take h 1)) (asc_cons (by decide) (asc_dec (dec_drop h 1)))
  · exact asc_dec h
theorem asc_expT (P : Int) : AscL (expT P) := by
  unfold expT
  refine asc_app ?_ (asc_app ?_ (asc_dec (dec_decs _)))
  · split
    · exact asc_cons (by decide) (asc_cons (by decide) asc_nil)
    · exact asc_cons (by decide) (asc_cons (by decide) asc_nil)
  · split
    · exact asc_cons (by decide) asc_nil
    · exact asc_nil
theorem asc_fixP (r q : Nat) (full : Bool) : AscL (fixP r q full) := by
  unfold fixP
  refine asc_app ?_ ?_
  · unfold fixT
    split
    · exact asc_dec (dec_decs _)
    · exact asc_app (asc_dec (dec_take (padT_dec (dec_decs _) _) _)) (asc_cons (by decide) (asc_dec (dec_drop (padT_dec (dec_decs _) _) _)))
  · split
    · exact asc_cons (by decide) asc_nil
    · exact asc_nil
theorem asc_trimG (full : Bool) {d : List UInt8} (h : AscL d) : AscL (trimG full d) := by
  unfold trimG
  split
  · refine asc_sub h fun c hc => ?_
    obtain ⟨k, hk⟩ := trim_split d 48
    have h1 : c ∈ Lib.trimRightB d 48 := by
      unfold Lib.trimSuffix at hc
      split at hc
      · exact List.mem_of_mem_take hc
      · exact hc
    rw [hk]
    exact List.mem_append_left _ h1
  · exact h
theorem asc_gen (w : World) {r n : Nat} (hr : r < 9218868437227405312) (hn : n ≤ 200) (full : Bool) : AscL (genT r n full) := by
  unfold genT
  split
  · exact asc_app (asc_trimG _ (asc_ptT (sciX_facts w hr hn).2.1 _)) (asc_expT _)
  · exact asc_trimG _ (asc_fixP _ _ _)
theorem asc_ptD (w : World) {r : Nat} (hr : r < 9218868437227405312) {pr : Int} (_h0 : -1 ≤ pr) (h1 : pr ≤ 190) (a : Bool) (c : Nat) : AscL (ptD r pr a c) := by
  have hq : (if pr < 0 then (6 : Int) else pr).toNat ≤ 190 := by split <;> omega
  have hq2 : (max 1 (if pr < 0 then (6 : Int) else pr) - 1).toNat ≤ 190 := by split <;> omega
  unfold ptD
  split
  · exact asc_fixP _ _ _
  · split
    · exact asc_app (asc_ptT (sciX_facts w hr (by omega)).2.1 _) (asc_expT _)
    · exact asc_gen w hr (by omega) _
theorem trimG_len (full : Bool) (d : List UInt8) : (trimG full d).length ≤ d.length := by
  unfold trimG
  split
  · exact Nat.le_trans (trimS_len _ _) (trimR_len _ _)
  · omega
theorem len_gen (w : World) {r n : Nat} (hr : r < 9218868437227405312) (hn : n ≤ 190) (full : Bool) : (genT r n full).length ≤ 4000 := by
  obtain ⟨hl, -, b0, b1⟩ := sciX_facts w hr (show n ≤ 200 by omega)
  unfold genT
  split
  · rw [List.length_append]
    have h1 := trimG_len full (ptT (sciX r n).1 (decide (0 < n) || full))
    have h2 := ptT_len (sciX r n).1 (decide (0 < n) || full)
    have h3 := expT_len b0 b1
    omega
  · refine Nat.le_trans (trimG_len _ _) (Nat.le_trans (fixP_len hr (by omega) _) (by omega))
theorem len_ptD (w : World) {r : Nat} (hr : r < 9218868437227405312) {pr : Int} (_h0 : -1 ≤ pr) (h1 : pr ≤ 190) (a : Bool) (c : Nat) : (ptD r pr a c).length ≤ 4000 := by
  have hq : (if pr < 0 then (6 : Int) else pr).toNat ≤ 190 := by split <;> omega
  have hq2 : (max 1 (if pr < 0 then (6 : Int) else pr) - 1).toNat ≤ 190 := by split <;> omega
  unfold ptD
  split
  · exact Nat.le_trans (fixP_len hr (by omega) _) (by omega)
  · split
    · obtain ⟨hl, -, b0, b1⟩ := sciX_facts w hr (show (if pr < 0 then (6 : Int) else pr).toNat ≤ 200 by omega)
      rw [List.length_append]
      have h2 := ptT_len (sciX r (if pr < 0 then (6 : Int) else pr).toNat).1 (decide (0 < (if pr < 0 then (6 : Int) else pr).toNat) || a)
      have h3 := expT_len b0 b1
      omega
    · exact len_gen w hr (by omega) _
end Go.Proofs.YtddfigbpckhfbaaGreatDoor

namespace Go.Proofs.YtddfigbpckhfbaaGreatDoor
open Go.RowKit Go.Lib

/-- Floats in order: a whole number for each that is no NaN. -/
def keyZ (x : Nat) : Int := if (x / 9223372036854775808 % 2 == 1) = true then -(mag x : Int) else (mag x : Int)
theorem cmp_ext {a b c d : Int} (h1 : a < b ↔ c < d) (h2 : a = b ↔ c = d) : compare a b = compare c d := by
  rcases Int.lt_trichotomy a b with h | h | h
  · rw [Int.compare_eq_lt.2 h, Int.compare_eq_lt.2 (h1.1 h)]
  · rw [Int.compare_eq_eq.2 h, Int.compare_eq_eq.2 (h2.1 h)]
  · rw [Int.compare_eq_gt.2 h, Int.compare_eq_gt.2 (by omega)]
theorem cmp_iff {a b c d : Int} (h : compare a b = compare c d) : (a < b ↔ c < d) ∧ (a = b ↔ c = d) :=
  ⟨by rw [← Int.compare_eq_lt, ← Int.compare_eq_lt, h], by rw [← Int.compare_eq_eq, ← Int.compare_eq_eq, h]⟩
theorem manF_zero {r : Nat} : manF r = 0 ↔ r = 0 := by
  unfold manF
  split <;> omega
theorem order_key {x y : Nat} (hx : mag x ≤ 9218868437227405312) (hy : mag y ≤ 9218868437227405312) : Ieee.double.order x y = some (compare (keyZ x) (keyZ y)) := by
  unfold Ieee.Format.order keyZ
  have bx := mag_lt x
  have by' := mag_lt y
  rcases Nat.lt_or_ge (mag x) 9218868437227405312 with h1 | h1
  · rcases Nat.lt_or_ge (mag y) 9218868437227405312 with h2 | h2
    · have hV := order_V h1 h2
      unfold Ieee.Format.order at hV
      rw [read_fin (by rw [mag_no h1]; exact h1), read_fin (by rw [mag_no h2]; exact h2), mag_no h1, mag_no h2] at hV
      rw [read_fin h1, read_fin h2]
      have s1 : (mag x / 9223372036854775808 % 2 == 1) = false := by rw [beq_eq_false_iff_ne]; omega
      have s2 : (mag y / 9223372036854775808 % 2 == 1) = false := by rw [beq_eq_false_iff_ne]; omega
      rw [s1, s2] at hV
      change some (compare (Ieee.signed false (manF (mag x)) (expF (mag x) - min (expF (mag x)) (expF (mag y))).toNat) (Ieee.signed false (manF (mag y)) (expF (mag y) - min (expF (mag x)) (expF (mag y))).toNat)) = _ at hV
      change some (compare (Ieee.signed _ (manF (mag x)) (expF (mag x) - min (expF (mag x)) (expF (mag y))).toNat) (Ieee.signed _ (manF (mag y)) (expF (mag y) - min (expF (mag x)) (expF (mag y))).toNat)) = _
      have hz1 := @manF_zero (mag x)
      have hz2 := @manF_zero (mag y)
      generalize (x / 9223372036854775808 % 2 == 1) = sx
      generalize (y / 9223372036854775808 % 2 == 1) = sy
      generalize (expF (mag x) - min (expF (mag x)) (expF (mag y))).toNat = k1 at *
      generalize (expF (mag y) - min (expF (mag x)) (expF (mag y))).toNat = k2 at *
      generalize manF (mag x) = m1 at *
      generalize manF (mag y) = m2 at *
      unfold Ieee.signed at hV ⊢
      have q1 : m1 <<< k1 = 0 ↔ m1 = 0 := by
        rw [Nat.shiftLeft_eq]
        constructor
        · intro h
          rcases Nat.mul_eq_zero.1 h with h | h
          · exact h
          · have := Nat.pow_pos (n := k1) (show 0 < 2 by omega); omega
        · rintro rfl; exact Nat.zero_mul _
      have q2 : m2 <<< k2 = 0 ↔ m2 = 0 := by
        rw [Nat.shiftLeft_eq]
        constructor
        · intro h
          rcases Nat.mul_eq_zero.1 h with h | h
          · exact h
          · have := Nat.pow_pos (n := k2) (show 0 < 2 by omega); omega
        · rintro rfl; exact Nat.zero_mul _
      generalize m1 <<< k1 = A at *
      generalize m2 <<< k2 = C at *
      obtain ⟨e1, e2⟩ := cmp_iff (Option.some.inj hV)
      simp only [Bool.false_eq_true, ↓reduceIte] at e1 e2
      congr 1
      have n1 : A = 0 ↔ mag x = 0 := q1.trans hz1
      have n2 : C = 0 ↔ mag y = 0 := q2.trans hz2
      clear q1 q2 hz1 hz2 hV
      cases sx <;> cases sy <;> simp only [Bool.false_eq_true, ↓reduceIte]
      all_goals refine cmp_ext ⟨fun h => ?_, fun h => ?_⟩ ⟨fun h => ?_, fun h => ?_⟩ <;> omega
    · rw [read_fin h1, read_inf (by omega)]
      show some (if (y / 9223372036854775808 % 2 == 1) then Ordering.gt else Ordering.lt) = _
      generalize (x / 9223372036854775808 % 2 == 1) = sx
      generalize (y / 9223372036854775808 % 2 == 1) = sy
      congr 1
      cases sx <;> cases sy <;> simp only [Bool.false_eq_true, ↓reduceIte]
      · exact (Int.compare_eq_lt.2 (by omega)).symm
      · exact (Int.compare_eq_gt.2 (by omega)).symm
      · exact (Int.compare_eq_lt.2 (by omega)).symm
      · exact (Int.compare_eq_gt.2 (by omega)).symm
  · rcases Nat.lt_or_ge (mag y) 9218868437227405312 with h2 | h2
    · rw [read_inf (by omega), read_fin h2]
      show some (if (x / 9223372036854775808 % 2 == 1) then Ordering.lt else Ordering.gt) = _
      generalize (x / 9223372036854775808 % 2 == 1) = sx
      generalize (y / 9223372036854775808 % 2 == 1) = sy
      congr 1
      cases sx <;> cases sy <;> simp only [Bool.false_eq_true, ↓reduceIte]
      · exact (Int.compare_eq_gt.2 (by omega)).symm
      · exact (Int.compare_eq_gt.2 (by omega)).symm
      · exact (Int.compare_eq_lt.2 (by omega)).symm
      · exact (Int.compare_eq_lt.2 (by omega)).symm
    · rw [read_inf (by omega), read_inf (by omega)]
      have e1 : mag x = 9218868437227405312 := by omega
      have e2 : mag y = 9218868437227405312 := by omega
      rw [e1, e2]
      generalize (x / 9223372036854775808 % 2 == 1) = sx
      generalize (y / 9223372036854775808 % 2 == 1) = sy
      cases sx <;> cases sy <;> rfl
theorem order_nan_l {x y : Nat} (h : 9218868437227405312 < mag x) : Ieee.double.order x y = none := by
  unfold Ieee.Format.order
  rw [read_nan h]
  rfl
/-- Is it +inf, is it -inf? -/
def infP (x : Nat) : Bool := decide (x = 9218868437227405312)
def infM (x : Nat) : Bool := decide (x = 18442240474082181120)
theorem inf_gt (x : Nat) (hb : x < 18446744073709551616) : (FloatKind.f64.format.order x 9218868437227405311 == some .gt) = infP x := by
  change (Ieee.double.order x 9218868437227405311 == some .gt) = infP x
  have hm : mag 9218868437227405311 = 9218868437227405311 := by decide
  unfold infP
  rcases Nat.lt_or_ge 9218868437227405312 (mag x) with h | h
  · rw [order_nan_l h, decide_eq_false (by unfold mag at h; omega)]
    rfl
  · rw [order_key h (by rw [hm]; decide)]
    have hk : keyZ 9218868437227405311 = 9218868437227405311 := by decide
    rw [hk]
    by_cases he : x = 9218868437227405312
    · rw [decide_eq_true he, he]
      decide
    · rw [decide_eq_false he]
      have hle : keyZ x ≤ 9218868437227405311 := by
        unfold keyZ
        unfold mag at h ⊢
        split
        · omega
        · rename_i hs
          rw [beq_iff_eq] at hs
          omega
      rw [beq_eq_false_iff_ne]
      intro hc
      have := Int.compare_eq_gt.1 (Option.some.inj hc)
      omega
set_option maxRecDepth 100000 in
theorem isInfP_any (x : Nat) (w : World) (hb : x < 18446744073709551616) : Calls Tryz.prog 126 #[.float .f64 x, .int .i64 1] w fun e w' => e = .returned (.bool (infP x)) ∧ w = w' := by
  have h := inf_gt x hb
  go_enter Tryz.func126, Tryz.ntmps126
  go_wp2
  go_ret
  exact ⟨rfl, rfl⟩
theorem neg_infM (x : Nat) (hb : x < 18446744073709551616) : (FloatKind.f64.format.order (Op.negFloat .f64 x) 9218868437227405311 == some .gt) = infM x := by
  rcases Nat.lt_or_ge x 9223372036854775808 with h | h
  · rw [neg_pos h, inf_gt _ (by omega)]
    unfold infP infM
    rw [decide_eq_false (by omega), decide_eq_false (by omega)]
  · obtain ⟨t, rfl⟩ : ∃ t, x = 9223372036854775808 + t := ⟨x - 9223372036854775808, by omega⟩
    rw [neg_neg' (by omega), inf_gt _ (by omega)]
    unfold infP infM
    by_cases ht : t = 9218868437227405312
    · rw [decide_eq_true ht, decide_eq_true (by omega)]
    · rw [decide_eq_false ht, decide_eq_false (by omega)]
set_option maxRecDepth 100000 in
theorem isInfM_any (x : Nat) (w : World) (hb : x < 18446744073709551616) : Calls Tryz.prog 126 #[.float .f64 x, .int .i64 (-1)] w fun e w' => e = .returned (.bool (infM x)) ∧ w = w' := by
  have h := neg_infM x hb
  have hn := fun W => run_neg Tryz.prog x W
  go_enter Tryz.func126, Tryz.ntmps126
  go_wp2
  go_ret
  exact ⟨rfl, rfl⟩
/-- What a number is called that has no digits. -/
def oddL (x : Nat) : Option (List UInt8) := if nanB x = true then some [43, 110, 97, 110] else if infP x = true then some [43, 105, 110, 102] else if infM x = true then some [45, 105, 110, 102] else none
set_option maxRecDepth 100000 in
theorem boundless_any (x : Nat) (w : World) (hb : x < 18446744073709551616) : Calls Tryz.prog 133 #[.float .f64 x] w fun e w' => e = .returned (.tuple #[.string ⟨((oddL x).getD []).toArray⟩, .bool (oddL x).isSome]) ∧ w = w' := by
  have c1 := fun W => isNaN_any x W
  have c2 := fun W => isInfP_any x W hb
  have c3 := fun W => isInfM_any x W hb
  unfold oddL
  generalize nanB x = n at *
  generalize infP x = i at *
  generalize infM x = j at *
  have C1 := Lib.hid c1
  have C2 := Lib.hid c2
  have C3 := Lib.hid c3
  clear c1 c2 c3
  cases n with
  | true =>
    go_enter Tryz.func133, Tryz.ntmps133
    go_wp2_with fail
    refine (C1.out _).mono ?_
    rintro e w' ⟨rfl, rfl⟩
    go_wp2_with fail
    go_ret2
    exact ⟨rfl, rfl⟩
  | false =>
    cases i with
    | true =>
      go_enter Tryz.func133, Tryz.ntmps133
      go_wp2_with fail
      refine (C1.out _).mono ?_
      rintro e w' ⟨rfl, rfl⟩
      go_wp2_with fail
      refine (C2.out _).mono ?_
      rintro e w' ⟨rfl, rfl⟩
      go_wp2_with fail
      go_ret2
      exact ⟨rfl, rfl⟩
    | false =>
      cases j with
      | true =>
        go_enter Tryz.func133, Tryz.ntmps133
        go_wp2_with fail
        refine (C1.out _).mono ?_
        rintro e w' ⟨rfl, rfl⟩
        go_wp2_with fail
        refine (C2.out _).mono ?_
        rintro e w' ⟨rfl, rfl⟩
        go_wp2_with fail
        refine (C3.out _).mono ?_
        rintro e w' ⟨rfl, rfl⟩
        go_wp2_with fail
        go_ret2
        exact ⟨rfl, rfl⟩
      | false =>
        go_enter Tryz.func133, Tryz.ntmps133
        go_wp2_with fail
        refine (C1.out _).mono ?_
        rintro e w' ⟨rfl, rfl⟩
        go_wp2_with fail
        refine (C2.out _).mono ?_
        rintro e w' ⟨rfl, rfl⟩
        go_wp2_with fail
        refine (C3.out _).mono ?_
        rintro e w' ⟨rfl, rfl⟩
        go_wp2_with fail
        go_ret2
        exact ⟨rfl, rfl⟩
theorem odd_none {x : Nat} (h : mag x < 9218868437227405312) : oddL x = none := by
  unfold oddL
  rw [nan_no (by omega), if_neg (by decide)]
  have h1 : infP x = false := decide_eq_false (by rintro rfl; exact absurd h (by decide))
  have h2 : infM x = false := decide_eq_false (by rintro rfl; exact absurd h (by decide))
  rw [h1, h2]
  rfl
end Go.Proofs.YtddfigbpckhfbaaGreatDoor

namespace Go.Proofs.YtddfigbpckhfbaaGreatDoor
open Go.RowKit Go.Lib

/-- Capitals, if the verb writes them. -/
def capL (c : Nat) (l : List UInt8) : List UInt8 := if vCap.contains c.toUInt8 = true then Lib.toUpperA l else l
noncomputable def pointT (m p b a z : Bool) (wd pr : Int) (c x : Nat) : List UInt8 := laidL (signL p b c (sbB x)) [] (capL c (ptD (mag x) pr a c)) wd m z
theorem chk_bd {wd pr : Int} {c : Nat} (h : chkB wd pr c = true) : 0 ≤ wd ∧ wd ≤ 1024 ∧ -1 ≤ pr ∧ pr ≤ 190 := by
  unfold chkB at h
  simp only [Bool.and_eq_true, decide_eq_true_eq] at h
  exact ⟨h.1.1.1, h.1.1.2, h.1.2.1, h.1.2.2⟩
set_option maxRecDepth 100000 in
set_option maxHeartbeats 8000000 in
theorem number_point (m p b a z : Bool) (wd pr : Int) (c : Nat) (x : Nat) (w : World) (hb : x < 18446744073709551616) (h : mag x < 9218868437227405312) (hk : chkB wd pr c = true) (hv : vNum.contains c.toUInt8 = true) (hw : vWhole.contains c.toUInt8 = false) (hT : PowTab w) :
    Calls Tryz.prog 135 #[.agg #[.bool m, .bool p, .bool b, .bool a, .bool z, .int .i64 wd, .int .i64 pr, .int .u8 (c : Int)], .float .f64 x] w fun e w' => e = .returned (.tuple #[.string ⟨(pointT m p b a z wd pr c x).toArray⟩, .int .i64 0]) ∧ Below w.heap.size w w' := by
  obtain ⟨d0, d1, d2, d3⟩ := chk_bd hk
  have cK := fun W => check_any m p b a z wd pr c W
  rw [hk, if_pos rfl] at cK
  have cA := fun W => among_any ⟨#[100, 105, 111, 120, 88, 117, 101, 69, 102, 70, 103, 71]⟩ c W
  replace cA : ∀ w : World, Calls Tryz.prog 179 #[.string ⟨#[100, 105, 111, 120, 88, 117, 101, 69, 102, 70, 103, 71]⟩, .int .u8 (c : Int)] w fun e w' => e = .returned (.bool (vNum.contains c.toUInt8)) ∧ w = w' := cA
  rw [hv] at cA
  have cW := fun W => among_any ⟨#[100, 105, 111, 120, 88, 117]⟩ c W
  replace cW : ∀ w : World, Calls Tryz.prog 179 #[.string ⟨#[100, 105, 111, 120, 88, 117]⟩, .int .u8 (c : Int)] w fun e w' => e = .returned (.bool (vWhole.contains c.toUInt8)) ∧ w = w' := cW
  rw [hw] at cW
  have cO := fun W => boundless_any x W hb
  rw [odd_none h] at cO
  replace cO : ∀ w : World, Calls Tryz.prog 133 #[.float .f64 x] w fun e w' => e = .returned (.tuple #[.string ⟨#[]⟩, .bool false]) ∧ w = w' := cO
  have cP := fun W hW => pointed_any m p b a z wd pr c x W hb h d2 d3 hW
  obtain ⟨SG, hSG⟩ : ∃ SG : ByteArray, (⟨(signL p b c (sbB x)).toArray⟩ : ByteArray) = SG := ⟨_, rfl⟩
  obtain ⟨D, hD⟩ : ∃ D : ByteArray, (⟨(ptD (mag x) pr a c).toArray⟩ : ByteArray) = D := ⟨_, rfl⟩
  have hSl : SG.data.toList = signL p b c (sbB x) := by rw [← hSG]
  have hDl : D.data.toList = ptD (mag x) pr a c := by rw [← hD]
  have s1 : SG.size ≤ 10 := by rw [← ba_len, hSl]; exact Nat.le_trans (sgn_len _ _ _ _) (by omega)
  have s3 : D.size ≤ 20000 := by rw [← ba_len, hDl]; exact Nat.le_trans (len_ptD w h d2 d3 a c) (by omega)
  have hAs : AscL D.data.toList := by rw [hDl]; exact asc_ptD w h d2 d3 a c
  rw [hSG, hD] at cP
  obtain ⟨X, hX⟩ : ∃ X : ByteArray, (⟨(pointT m p b a z wd pr c x).toArray⟩ : ByteArray) = X := ⟨_, rfl⟩
  have cQ := fun W => padded_core m p b a z wd pr c z SG ⟨#[]⟩ D ⟨#[]⟩ ⟨(capL c (ptD (mag x) pr a c)).toArray⟩ X W (by omega) (by omega) s1 (by decide) s3 asc_nil hAs (by
    unfold capL
    split
    · exact ⟨rfl, by rw [hDl]⟩
    · exact ⟨rfl, hD⟩) (by rw [← hX, hSl]; rfl)
  unfold PadEnd at cQ
  rw [hX]
  have CK := Lib.hid cK
  have CA := Lib.hid cA
  have CW := Lib.hid cW
  have CO := Lib.hid cO
  have CP := Lib.hid cP
  have CQ := Lib.hid cQ
  have HT := Lib.hid (Lib.tabBelow_of_tabIs hT)
  have FP := Lib.hid (Five.new w #[.bool m, .bool p, .bool b, .bool a, .bool z, .int .i64 wd, .int .i64 pr, .int .u8 (c : Int)] 94)
  have HB0 := Lib.hid ((Below.refl w.heap.size w).alloc (Nat.le_refl _) (.cells #[.bool m, .bool p, .bool b, .bool a, .bool z, .int .i64 wd, .int .i64 pr, .int .u8 (c : Int)] 94))
  obtain ⟨W1, hW1⟩ : ∃ W1, w.alloc (.cells #[.bool m, .bool p, .bool b, .bool a, .bool z, .int .i64 wd, .int .i64 pr, .int .u8 (c : Int)] 94) = W1 := ⟨_, rfl⟩
  rw [hW1] at FP HB0
  have HW1 := Lib.hid hW1
  clear cK cA cW cO cP cQ hT hW1 hX hSG hD hSl hDl s1 s3 hAs hk hv hw h hb d0 d1 d2 d3
  have hle : w.heap.size ≤ W1.heap.size := HB0.out.size
  obtain ⟨B, hB⟩ : ∃ B, w.heap.size = B := ⟨_, rfl⟩
  rw [hB] at FP HB0 HT hle ⊢
  obtain ⟨p0, p1, p2, p3, p4, p5, p6, p7⟩ := spec_cells FP.out
  have HB := Lib.hid hB
  clear hB
  go_enter Tryz.func135, Tryz.ntmps135
  go_wp2_with fail
  rw [HW1.out, HB.out]
  refine (CK.out _).mono ?_
  rintro e W2 ⟨rfl, h2⟩
  clear p0 p1 p2 p3 p4 p5 p6 p7
  obtain ⟨p0, p1, p2, p3, p4, p5, p6, p7⟩ := spec_cells (FP.out.below h2)
  have FP2 := Lib.hid (FP.out.below h2)
  have HB2 := Lib.hid (HB0.out.trans (h2.mono hle))
  have hle2 : B ≤ W2.heap.size := Nat.le_trans hle h2.size
  clear h2
  go_wp2_with fail
  refine (CA.out _).mono ?_
  rintro e w' ⟨rfl, rfl⟩
  go_wp2_with fail
  refine (CO.out _).mono ?_
  rintro e w' ⟨rfl, rfl⟩
  go_wp2_with fail
  refine (CW.out _).mono ?_
  rintro e w' ⟨rfl, rfl⟩
  go_wp2_with fail
  have HCW := Lib.hid (fun (W : World) (h : Below W2.heap.size W2 W) => spec_cells (FP2.out.below h))
  have HTW := Lib.hid (fun (W : World) (h : Below W2.heap.size W2 W) => HT.out W (HB2.out.trans (h.mono hle2)))
  have hR := Below.refl W2.heap.size W2
  go_region_held3 (fun w' => w'.cell? ⟨B, 0, none⟩ = some (.bool m) ∧ w'.cell? ⟨B, 1, none⟩ = some (.bool p) ∧ w'.cell? ⟨B, 2, none⟩ = some (.bool b) ∧ w'.cell? ⟨B, 3, none⟩ = some (.bool a) ∧ w'.cell? ⟨B, 4, none⟩ = some (.bool z) ∧ w'.cell? ⟨B, 5, none⟩ = some (.int .i64 wd) ∧ w'.cell? ⟨B, 6, none⟩ = some (.int .i64 pr) ∧ w'.cell? ⟨B, 7, none⟩ = some (.int .u8 (c : Int)))
      (first | (with_reducible exact S2) | (with_reducible exact S1) | go_keep)
      (first
      | (go_at_call 183; (with_reducible refine (CP.out _ (HTW.out _ (by first | exact hR | exact below_drewN hR _ | exact hR.drew))).mono ?_); rintro e W3 ⟨rfl, h3⟩; have b3 : Below W2.heap.size W2 W3 := ⟨h3.os, h3.tape, h3.output, h3.size, h3.block⟩; have S1 := HCW.out _ b3; clear h3)
      | (go_at_call 182; (with_reducible refine (CQ.out _).mono ?_); rintro e W4 ⟨rfl, h4⟩; have b4 : Below W2.heap.size W2 W4 := b3.trans ((⟨h4.os, h4.tape, h4.output, h4.size, h4.block⟩ : Below W3.heap.size W3 W4).mono b3.size); have S2 := HCW.out _ b4; clear h4))
  all_goals
    have hBf := HB2.out.trans (b4.mono hle2)
    go_wp2_with fail
    go_ret2
    exact ⟨rfl, by first | exact hBf | exact ⟨hBf.os, hBf.tape, hBf.output, hBf.size, hBf.block⟩⟩
end Go.Proofs.YtddfigbpckhfbaaGreatDoor

namespace Go.Proofs.YtddfigbpckhfbaaGreatDoor
open Go.RowKit Go.Lib

def hexC (d : Nat) : Nat := if d < 10 then 48 + d else 87 + d
theorem hexC_lt {d : Nat} (h : d < 16) : hexC d < 128 := by unfold hexC; split <;> omega
/-- How many digits, each of z bits; how far each is shifted down; the digits. -/
def ibN (P : Nat) (E : Int) (z : Nat) : Nat := (max 1 (Int.tdiv ((Lib.bitLen P : Int) + E + (z : Int) - 1) (z : Int))).toNat
def ibS (E : Int) (z N i : Nat) : Int := ((N : Int) - 1 - (i : Int)) * (z : Int) - E
def ibD (P : Nat) (E : Int) (z N i : Nat) : Nat := P / 2 ^ (ibS E z N i).toNat * 2 ^ (-(ibS E z N i)).toNat % 2 ^ z
def ibL (P : Nat) (E : Int) (z : Nat) : List Nat := (List.range (ibN P E z)).map fun i => hexC (ibD P E z (ibN P E z) i)
def ibT (P : Nat) (E : Int) (z : Nat) : List UInt8 := (ibL P E z).map fun x => x.toUInt8
theorem ibL_len (P : Nat) (E : Int) (z : Nat) : (ibL P E z).length = ibN P E z := by unfold ibL; rw [List.length_map, List.length_range]
theorem ibT_len (P : Nat) (E : Int) (z : Nat) : (ibT P E z).length = ibN P E z := by unfold ibT; rw [List.length_map, ibL_len]
theorem ibD_lt (P : Nat) (E : Int) (z N i : Nat) (hz : z ≤ 4) : ibD P E z N i < 16 := by
  unfold ibD
  have h1 := Nat.mod_lt (P / 2 ^ (ibS E z N i).toNat * 2 ^ (-(ibS E z N i)).toNat) (Nat.pow_pos (n := z) (show 0 < 2 by omega))
  have h2 : 2 ^ z ≤ 2 ^ 4 := Nat.pow_le_pow_right (by omega) hz
  omega
theorem asc_ibT (P : Nat) (E : Int) (z : Nat) (hz : z ≤ 4) : AscL (ibT P E z) := by
  intro c hc
  unfold ibT ibL at hc
  rw [List.map_map] at hc
  obtain ⟨i, _, rfl⟩ := List.mem_map.1 hc
  have h := hexC_lt (ibD_lt P E z (ibN P E z) i hz)
  show (hexC _).toUInt8.toNat < 128
  simp only [Nat.toUInt8, UInt8.toNat_ofNat']
  omega
theorem bitLen_pos {n : Nat} (h : 0 < n) (hb : n < 2 ^ 64) : 1 ≤ Lib.bitLen n ∧ Lib.bitLen n ≤ 64 ∧ 2 ^ (Lib.bitLen n - 1) ≤ n ∧ n < 2 ^ Lib.bitLen n := by
  have := bitLenAux_bounds 64 n hb (by omega)
  exact this
/-- Bounds of the count. -/
theorem ibN_bd {P : Nat} {E : Int} {z : Nat} (hP : P < 9007199254740992) (hE : E ≤ 971) (hz : z = 3 ∨ z = 4) : 1 ≤ ibN P E z ∧ ibN P E z ≤ 1100 := by
  have hl : Lib.bitLen P ≤ 53 := by
    rcases Nat.eq_zero_or_pos P with rfl | h
    · decide
    · obtain ⟨a, _, c, _⟩ := bitLen_pos h (by omega)
      have : Lib.bitLen P - 1 < 53 := (Nat.pow_lt_pow_iff_right (by omega : 1 < 2)).1 (Nat.lt_of_le_of_lt c hP)
      omega
  have tn : ∀ (x z : Int), x ≤ 1100 → 0 < z → Int.tdiv x z ≤ 1100 := fun x z hx hz => by
    rcases Int.lt_or_le x 0 with q | q
    · have e : x = -(-x) := by omega
      have h0 : 0 ≤ (-x) / z := Int.ediv_nonneg (by omega) (by omega)
      rw [e, Int.neg_tdiv, Int.tdiv_eq_ediv_of_nonneg (by omega)]
      omega
    · rw [Int.tdiv_eq_ediv_of_nonneg q]
      exact Int.le_trans (Int.ediv_le_self _ q) hx
  unfold ibN
  have := tn ((Lib.bitLen P : Int) + E + (z : Int) - 1) (z : Int) (by rcases hz with rfl | rfl <;> omega) (by rcases hz with rfl | rfl <;> decide)
  omega
end Go.Proofs.YtddfigbpckhfbaaGreatDoor

namespace Go.Proofs.YtddfigbpckhfbaaGreatDoor
open Go.RowKit Go.Lib

set_option maxRecDepth 100000 in
set_option maxHeartbeats 2000000 in
/-- strings.Cut at a byte that stands first, or of an empty text. -/
theorem cut_first (s : ByteArray) (x : UInt8) (w : World) (hs : s.size ≤ 4611686018427387904) (h : s.data.toList = [] ∨ ∃ t, s.data.toList = x :: t) :
    Calls Tryz.prog 139 #[.string s, .string ⟨#[x]⟩] w fun e w' => (∃ T F, e = .returned (.tuple #[.string ⟨#[]⟩, .string T, .bool F])) ∧ Below w.heap.size w w' := by
  have cI := fun W => Tryz.stringslite_Index_one s x W
  rcases h with h | ⟨t, h⟩
  · have hx : Lib.indexByte s.data.toList x = -1 := by rw [h]; rfl
    rw [hx] at cI
    have hs0 : s = ⟨#[]⟩ := by rw [← Lib.mk_data s, h]
    have CI := Lib.hid cI
    clear cI hx h
    subst hs0
    go_enter Tryz.func139, Tryz.ntmps139
    go_wp2_with fail
    refine (CI.out _).mono ?_
    rintro e w' ⟨rfl, rfl⟩
    go_wp2_with fail
    go_ret3
    exact ⟨⟨_, _, rfl⟩, Below.refl _ _⟩
  · have hx : Lib.indexByte s.data.toList x = 0 := by
      rw [h]
      show (if (x == x) = true then (0 : Int) else _) = 0
      rw [beq_self_eq_true, if_pos rfl]
    rw [hx] at cI
    have h1 : 1 ≤ s.size := by rw [← ba_len, h]; simp
    have CI := Lib.hid cI
    clear cI hx h
    go_enter Tryz.func139, Tryz.ntmps139
    go_wp2_with fail
    refine (CI.out _).mono ?_
    rintro e w' ⟨rfl, rfl⟩
    go_wp2_with fail
    have h1i : (1 : Int) ≤ (s.size : Int) := by omega
    have hw1 : IntKind.i64.wrap (0 + 1) = 1 := by decide
    go_quiet (fail)
    go_wp2_with fail
    go_ret3
    refine ⟨⟨s.extract 1 s.size, true, ?_⟩, below_drewN (Below.refl _ _) _⟩
    simp
    rfl
theorem cutS_first (s : ByteArray) (x : UInt8) (w : World) (hs : s.size ≤ 4611686018427387904) (h : s.data.toList = [] ∨ ∃ t, s.data.toList = x :: t) :
    Calls Tryz.prog 93 #[.string s, .string ⟨#[x]⟩] w fun e w' => (∃ T F, e = .returned (.tuple #[.string ⟨#[]⟩, .string T, .bool F])) ∧ Below w.heap.size w w' := by
  have C := Lib.hid (cut_first s x w hs h)
  clear h
  go_enter Tryz.func93, Tryz.ntmps93
  go_wp2_with fail
  refine C.out.mono ?_
  rintro e w' ⟨⟨T, F, rfl⟩, hB⟩
  go_wp2_with fail
  go_ret3
  exact ⟨⟨_, _, rfl⟩, hB⟩
set_option maxRecDepth 100000 in
set_option maxHeartbeats 4000000 in
/-- Where a part begins, or at the end, nothing stands ahead. -/
theorem plain_none (S : ByteArray) (k g : Nat) (w : World) (hk : k ≤ S.size) (hS : S.size ≤ 4611686018427387904) (hR : Rdr w g S k) (h : k = S.size ∨ atB S k = 37) :
    Calls Tryz.prog 177 #[.pointer (some ⟨g, 0, none⟩)] w fun e w' => e = .returned (.string ⟨#[]⟩) ∧ Rdr w' g S k ∧ Out [g] w w' := by
  have hl : (S.extract k S.size).data.toList = S.data.toList.drop k := by
    rw [ByteArray.data_extract, Array.toList_extract]
    simp only [List.extract]
    rw [List.take_of_length_le]
    rw [List.length_drop, ba_len]
    omega
  have hx : (S.extract k S.size).data.toList = [] ∨ ∃ t, (S.extract k S.size).data.toList = 37 :: t := by
    rw [hl]
    rcases h with rfl | h
    · left
      rw [List.drop_eq_nil_iff, ba_len]
      omega
    · right
      have hlt := atB_size (S := S) (k := k) (by omega)
      rw [atB_in hlt] at h
      refine ⟨S.data.toList.drop (k + 1), ?_⟩
      have h3 := List.drop_eq_getElem_cons (l := S.data.toList) (i := k) (by rw [ba_len]; exact hlt)
      rw [h3]
      congr 1
      have h4 : S.data.toList[k]'(by rw [ba_len]; exact hlt) = S[k]'hlt := by
        have := ba_byte S rfl k hlt
        rw [List.getElem?_eq_getElem (by rw [ba_len]; exact hlt)] at this
        exact Option.some.inj this
      rw [h4]
      exact UInt8.toNat_inj.1 h
  have C := Lib.hid (fun (W : World) => cutS_first (S.extract k S.size) 37 W (by rw [ByteArray.size_extract]; omega) hx)
  have H := Lib.hid hR
  have c0 := hR.cell 0
  have c1 := hR.cell 1
  have f1 := hR.fro 1
  have hki : (k : Int) ≤ (S.size : Int) := by omega
  have hki0 : (0 : Int) ≤ (k : Int) := by omega
  have hw0 : wrap64 ((k : Int) + 0) = (k : Int) := by unfold wrap64; omega
  clear hx hl h hR
  go_enter Tryz.func177, Tryz.ntmps177
  go_wp2_with fail
  have HCW := Lib.hid (fun (W : World) (h : Below w.heap.size w W) => (show W.cell? ⟨g, 0, none⟩ = some (.string S) ∧ W.cell? ⟨g, 1, none⟩ = some (.int .i64 (k : Int)) from ⟨(H.out.below h).cell 0, (H.out.below h).cell 1⟩))
  clear c0 c1 f1
  have c0 : w.cell? ⟨g, 0, none⟩ = some (.string S) := H.out.cell 0
  have c1 : w.cell? ⟨g, 1, none⟩ = some (.int .i64 (k : Int)) := H.out.cell 1
  go_region_held3 (fun w' => w'.cell? ⟨g, 0, none⟩ = some (.string S) ∧ w'.cell? ⟨g, 1, none⟩ = some (.int .i64 (k : Int)))
    (first | (with_reducible exact S1) | go_keep)
    (first
    | (go_at_call 93; (with_reducible refine (C.out _).mono ?_); rintro e W3 ⟨⟨T, F, rfl⟩, h3⟩; have b3 : Below w.heap.size w W3 := ⟨h3.os, h3.tape, h3.output, h3.size, h3.block⟩; have S1 := HCW.out _ b3; clear h3))
  all_goals
    have f3 := (H.out.below b3).fro 1
    obtain ⟨d0, d1⟩ := S1
    have HB3 := Lib.hid b3
    clear b3
    go_wp2_with fail
    go_ret
    refine ⟨rfl, ?_, ?_⟩
    · first | exact (show Rdr _ g S k from H.out.below HB3.out).step k | exact (show Rdr _ g S k from (H.out.below HB3.out)) | exact ⟨((show Rdr _ g S k from H.out.below HB3.out).step k).row⟩
    · first | exact (Out.of_below HB3.out).set (p := ⟨g, 1, none⟩) (by simp) _ | exact Out.of_below HB3.out | exact ((Out.of_below HB3.out).drew _).set (p := ⟨g, 1, none⟩) (by simp) _
theorem isB_out {T e : TypeId} {B b g : Nat} {bs : List Value} {w w' : World} (h : Lib.IsBuilder T e B b bs w) (o : Out [g] w w') (hg : g < B) : Lib.IsBuilder T e B b bs w' := by
  have key : ∀ {p : Value}, Lib.BuilderAt T e B b p bs w → Lib.BuilderAt T e B b p bs w' := fun {p} ⟨hB, v, hb, hown, hne⟩ => by
    have same : ∀ {q : Nat} {ob : Obj}, B ≤ q → w.heap[q]? = some ob → w'.heap[q]? = some ob := fun {q ob} hq hx =>
      (o.block q (by simp; omega) (Array.getElem?_eq_some_iff.1 hx).1).trans hx
    refine ⟨hB, v, same hB hb, ⟨hown.1, ?_⟩, hne⟩
    rcases hown.2 with h1 | ⟨g2, cap, cur, hv, hbg, hg2, r⟩
    · exact Or.inl h1
    · exact Or.inr ⟨g2, cap, cur, hv, hbg, same hbg hg2, r⟩
  rcases h with h | h
  · exact Or.inl (key h)
  · exact Or.inr (key h)
theorem write_any (B b : Nat) (bs : List Value) (s : ByteArray) (w : World) (h : Lib.IsBuilder 88 5 B b bs w) (hlen : bs.length + s.size ≤ 140737488355328) (hBw : B ≤ w.heap.size) :
    Calls Tryz.prog 141 #[.pointer (some ⟨b, 0, none⟩), .string s] w fun e w' => e = .returned (.tuple #[.int .i64 s.size, .nilIface]) ∧ (Lib.IsBuilder 88 5 B b (bs ++ Lib.strCells s) w' ∧ Below B w w') :=
  (Any.Builder_WriteString (ρ := Tryz.lays158_ren) { Tryz.lays158 with } Tryz.Builder_Extra_158 B b bs s w h hlen hBw).mono fun _ _ ⟨h1, h2, h3⟩ => ⟨h1, Or.inr h2, h3⟩
end Go.Proofs.YtddfigbpckhfbaaGreatDoor

namespace Go.Proofs.YtddfigbpckhfbaaGreatDoor
open Go.RowKit Go.Lib

theorem Out.then_below {G : List Nat} {a b c : World} {B : Nat} (h : Out G a b) (k : Below B b c) (hB : a.heap.size ≤ B) : Out G a c :=
  ⟨k.os.trans h.os, k.tape.trans h.tape, k.output.trans h.output, Nat.le_trans h.size k.size, fun i hi hl => (k.block i (by omega)).trans (h.block i hi hl)⟩
theorem Five.belowB {W W' : World} {g B : Nat} {cs : Array Value} {t : TypeId} (h : Five W g cs t) (hb : Below B W W') (hg : g < B) : Five W' g cs t := ⟨(hb.block g hg).trans h.row⟩
theorem out_loop {G : List Nat} {a b c : World} (h : Out G a b) (k : Below b.heap.size b c) : Out G a c := h.then (Out.of_below (G := []) k) (fun x hx => by cases hx)
set_option maxRecDepth 100000 in
set_option maxHeartbeats 16000000 in
theorem filled_one (P T : ByteArray) (g x _nx : Nat) (m p b a z : Bool) (wd pr : Int) (c : Nat) (w : World) (hP : P.size ≤ 1000000) (hP0 : 0 < P.size) (hp : partF P 0 = some ⟨m, p, b, a, z, wd, pr, c, false, false, P.size⟩) (hc : c ≠ 37) (hR : Rdr w g P 0)
    (hN : ∀ W, PowTab W → Calls Tryz.prog 135 #[.agg #[.bool m, .bool p, .bool b, .bool a, .bool z, .int .i64 wd, .int .i64 pr, .int .u8 (c : Int)], .float .f64 x] W fun e w' => e = .returned (.tuple #[.string T, .int .i64 0]) ∧ Below W.heap.size W w')
    (hTs : T.size ≤ 1000000) (hT : ∀ W, Out [g] w W → PowTab W) :
    Calls Tryz.prog 134 #[.pointer (some ⟨g, 0, none⟩), .float .f64 x] w fun e w' => e = .returned (.tuple #[.string T, .bool true]) ∧ Out [g] w w' := by
  have h37 : atB P 0 = 37 := by
    unfold partF at hp
    split at hp
    · assumption
    · cases hp
  have CPl := Lib.hid (fun (k : Nat) (W : World) (hk : k ≤ P.size) (r : Rdr W g P k) (h : k = P.size ∨ atB P k = 37) => plain_none P k g W hk (by omega) r h)
  have cPa := fun (W : World) (r : Rdr W g P 0) => part_any P 0 g W (by omega) (by omega) r
  unfold PartEnd at cPa
  rw [hp] at cPa
  have CPa := Lib.hid cPa
  have CN := Lib.hid hN
  have HT := Lib.hid hT
  have HR := Lib.hid hR
  have hgl := hR.lt
  have HGL := Lib.hid hgl
  have fb := Lib.fresh_isBuilder 88 5 w
  have hO := (Out.refl [g] w).alloc (.cells #[.pointer none, .slice none 0 0] 88)
  have r1 := hR.alloc (.cells #[.pointer none, .slice none 0 0] 88)
  obtain ⟨B, hB⟩ : ∃ B, w.heap.size = B := ⟨_, rfl⟩
  obtain ⟨W1, hW1⟩ : ∃ W1, w.alloc (.cells #[.pointer none, .slice none 0 0] 88) = W1 := ⟨_, rfl⟩
  rw [hW1] at fb hO r1
  rw [hB] at fb HGL
  have HB := Lib.hid hB
  have HW1 := Lib.hid hW1
  have HFB := Lib.hid fb
  have HO := Lib.hid hO
  have HR1 := Lib.hid (show Rdr W1 g P 0 from r1)
  have HH := Lib.hid h37
  have HC := Lib.hid hc
  clear hp cPa hN hT hR fb hO r1 hB hW1 h37 hc hgl
  go_enter Tryz.func134, Tryz.ntmps134
  go_wp2_with fail
  rw [HW1.out, HB.out]
  have hwB : w.heap.size ≤ B := Nat.le_of_eq HB.out
  refine (CPl.out 0 _ (by omega) HR1.out (Or.inr HH.out)).mono ?_
  rintro e W2 ⟨rfl, r2, o2⟩
  have b2 := isB_out HFB.out o2 HGL.out
  have HO2 := Lib.hid (HO.out.trans o2)
  have HR2 := Lib.hid r2
  have hl2 : B ≤ W2.heap.size := by have := HO2.out.size; have := HB.out; omega
  have CW := Lib.hid (write_any B B [] ⟨#[]⟩ W2 b2 (by decide) hl2)
  clear r2 o2 b2 HFB HO HR1
  go_wp2_with fail
  refine CW.out.mono ?_
  rintro e W3 ⟨rfl, b3, h3⟩
  have HB3 := Lib.hid (show Lib.IsBuilder 88 5 B B [] W3 from b3)
  have HR3 := Lib.hid (show Rdr W3 g P 0 from HR2.out.belowB h3 HGL.out)
  have HO3 := Lib.hid (HO2.out.then_below h3 hwB)
  clear b3 h3 CW HR2 HO2 hl2
  go_wp2_with fail
  go_loopw [7] (fun wv wr => (wv = .bool false ∧ Rdr wr g P 0 ∧ Lib.IsBuilder 88 5 B B [] wr ∧ Out [g] w wr) ∨ (wv = .bool true ∧ Rdr wr g P P.size ∧ Lib.IsBuilder 88 5 B B (Lib.strCells T) wr ∧ Out [g] w wr)) (fun wv _ => match wv with | .bool true => 0 | _ => 1)
  case atStart => exact Or.inl ⟨rfl, HR3.out, HB3.out, HO3.out⟩
  case round =>
    rcases hrel with ⟨rfl, rr, bb, oo⟩ | ⟨rfl, rr, bb, oo⟩
    · have c0 := rr.cell 0
      have c1 := rr.cell 1
      have HRr := Lib.hid rr
      have HBb := Lib.hid bb
      have HOo := Lib.hid oo
      have hps : (0 : Int) < (P.size : Int) := by omega
      clear rr bb oo HR3 HB3 HO3
      go_wp2_with fail
      go_quiet (fail)
      clear c0 c1
      have HRq := Lib.hid (show Rdr (wr.drewN nq) g P 0 from HRr.out.drew nq)
      have HOq := Lib.hid (HOo.out.drew nq)
      have HBq := Lib.hid (isB_out HBb.out ((Out.refl [g] wr).drew nq) HGL.out)
      obtain ⟨Wq, hWq⟩ : ∃ Wq, wr.drewN nq = Wq := ⟨_, rfl⟩
      rw [hWq] at HRq HOq HBq ⊢
      clear hWq HRr HBb HOo
      go_wp2_with fail
      refine (CPa.out _ HRq.out).mono ?_
      rintro e W4 ⟨rfl, r4, o4⟩
      have r4 := r4 _ rfl
      rw [show pcV ((some (⟨m, p, b, a, z, wd, pr, c, false, false, P.size⟩ : Pc)).getD pc0) = .agg #[.bool m, .bool p, .bool b, .bool a, .bool z, .int .i64 wd, .int .i64 pr, .int .u8 (c : Int), .bool false, .bool false, .int .i64 (P.size : Int)] from rfl]
      have HR5 := Lib.hid (show Rdr (W4.alloc (.cells #[.bool m, .bool p, .bool b, .bool a, .bool z, .int .i64 wd, .int .i64 pr, .int .u8 (c : Int), .bool false, .bool false, .int .i64 (P.size : Int)] 96)) g P P.size from Five.alloc r4 _)
      have HO5 := Lib.hid ((HOq.out.trans o4).alloc (.cells #[.bool m, .bool p, .bool b, .bool a, .bool z, .int .i64 wd, .int .i64 pr, .int .u8 (c : Int), .bool false, .bool false, .int .i64 (P.size : Int)] 96))
      have HB5 := Lib.hid (isB_out (isB_out HBq.out o4 HGL.out) ((Out.refl [g] W4).alloc (.cells #[.bool m, .bool p, .bool b, .bool a, .bool z, .int .i64 wd, .int .i64 pr, .int .u8 (c : Int), .bool false, .bool false, .int .i64 (P.size : Int)] 96)) HGL.out)
      obtain ⟨⟨e0, e1, e2, e3, e4, e5, e6, e7, e8, e9, e10⟩, -⟩ := (Five.new W4 #[.bool m, .bool p, .bool b, .bool a, .bool z, .int .i64 wd, .int .i64 pr, .int .u8 (c : Int), .bool false, .bool false, .int .i64 (P.size : Int)] 96).eleven
      have hcv : ((c : Int) == 37) = false := by rw [beq_eq_false_iff_ne]; have := HC.out; omega
      clear r4 o4 HRq HOq HBq
      go_wp2_with fail
      clear e0 e1 e2 e3 e4 e5 e6 e7 e8 e9 e10
      obtain ⟨W5, hW5⟩ : ∃ W5, W4.alloc (.cells #[.bool m, .bool p, .bool b, .bool a, .bool z, .int .i64 wd, .int .i64 pr, .int .u8 (c : Int), .bool false, .bool false, .int .i64 (P.size : Int)] 96) = W5 := ⟨_, rfl⟩
      rw [hW5] at HR5 HO5 HB5 ⊢
      clear hW5
      refine (CN.out _ (HT.out _ HO5.out)).mono ?_
      rintro e W6 ⟨rfl, h6⟩
      have HR6 := Lib.hid (show Rdr W6 g P P.size from Five.below HR5.out h6)
      have HO6 := Lib.hid (out_loop HO5.out h6)
      have b6 := isB_out HB5.out (Out.of_below (G := [g]) h6) HGL.out
      have hl6 : B ≤ W6.heap.size := by have := HO6.out.size; have := HB.out; omega
      have CW6 := Lib.hid (write_any B B [] T W6 b6 (by simp; omega) hl6)
      clear h6 b6 hl6 HR5 HO5 HB5
      go_wp2_with fail
      refine CW6.out.mono ?_
      rintro e W7 ⟨rfl, b7, h7⟩
      have HR7 := Lib.hid (show Rdr W7 g P P.size from HR6.out.belowB h7 HGL.out)
      have HO7 := Lib.hid (HO6.out.then_below h7 (Nat.le_of_eq HB.out))
      have HB7 := Lib.hid (show Lib.IsBuilder 88 5 B B (Lib.strCells T) W7 from b7)
      clear b7 h7 HR6 HO6 CW6
      go_wp2_with fail
      refine (CPl.out P.size _ (Nat.le_refl _) HR7.out (Or.inl rfl)).mono ?_
      rintro e W8 ⟨rfl, r8, o8⟩
      have HR8 := Lib.hid r8
      have HO8 := Lib.hid (HO7.out.trans o8)
      have b8 := isB_out HB7.out o8 HGL.out
      have hl8 : B ≤ W8.heap.size := by have := HO8.out.size; have := HB.out; omega
      have CW8 := Lib.hid (write_any B B (Lib.strCells T) ⟨#[]⟩ W8 b8 (by rw [Lib.strCells_length]; show T.size + 0 ≤ _; omega) hl8)
      clear r8 o8 b8 hl8 HR7 HO7 HB7
      go_wp2_with fail
      refine CW8.out.mono ?_
      rintro e W9 ⟨rfl, b9, h9⟩
      have HR9 := Lib.hid (show Rdr W9 g P P.size from HR8.out.belowB h9 HGL.out)
      have HO9 := Lib.hid (HO8.out.then_below h9 (Nat.le_of_eq HB.out))
      have HB9 := Lib.hid (show Lib.IsBuilder 88 5 B B (Lib.strCells T) W9 from by
        rw [show Lib.strCells (⟨#[]⟩ : ByteArray) = [] from rfl, List.append_nil] at b9
        exact b9)
      clear b9 h9 HR8 HO8 CW8
      go_wp2_with fail
      go_roundw
      case rel => exact Or.inr ⟨rfl, HR9.out, HB9.out, HO9.out⟩
      case measure => decide
    · have c0 := rr.cell 0
      have c1 := rr.cell 1
      have hnl : ¬ (P.size : Int) < (P.size : Int) := by omega
      have HBb := Lib.hid bb
      have HOo := Lib.hid oo
      clear rr bb oo HR3 HB3 HO3
      go_wp2_with fail
      go_quiet (fail)
      clear c0 c1
      have HOq := Lib.hid (HOo.out.drew nq)
      have bq := isB_out HBb.out ((Out.refl [g] wr).drew nq) HGL.out
      obtain ⟨Wq, hWq⟩ : ∃ Wq, wr.drewN nq = Wq := ⟨_, rfl⟩
      rw [hWq] at HOq bq ⊢
      have hlq : B ≤ Wq.heap.size := by have := HOq.out.size; have := HB.out; omega
      have cS := Tryz.Builder_String_any B B T.data.toList Wq bq hlq
      have hTT : (⟨T.data.toList.toArray⟩ : ByteArray) = T := by rw [← Lib.mk_data T]
      rw [hTT] at cS
      have CS := Lib.hid cS
      clear hWq HBb HOo bq hlq cS hTT
      go_wp2_with fail
      refine CS.out.mono ?_
      rintro e W9 ⟨rfl, h9⟩
      have HO9 := Lib.hid (HOq.out.then_below h9 (Nat.le_of_eq HB.out))
      clear h9
      go_wp2_with fail
      go_ret2
      exact ⟨rfl, HO9.out⟩
end Go.Proofs.YtddfigbpckhfbaaGreatDoor

namespace Go.Proofs.YtddfigbpckhfbaaGreatDoor
open Go.RowKit Go.Lib

set_option maxRecDepth 100000 in
set_option maxHeartbeats 4000000 in
theorem conv_whole (x : Nat) (P : ByteArray) (w : World) (hb : x < 18446744073709551616) (h : wholeB x 4846369599423283200 = true) (hT : PowTab w) :
    Calls Tryz.prog 90 #[.float .f64 x, .string P] w fun e w' => e = .returned (.string ⟨(wholeT x).toArray⟩) ∧ Below w.heap.size w w' := by
  have C := Lib.hid (whole_yes x w hb h hT)
  clear h hT
  go_enter Tryz.func90, Tryz.ntmps90
  go_wp2_with fail
  refine C.out.mono ?_
  rintro e w' ⟨rfl, hB⟩
  go_wp2_with fail
  go_ret
  exact ⟨rfl, hB⟩
set_option maxRecDepth 100000 in
set_option maxHeartbeats 4000000 in
theorem conv_odd (x : Nat) (P : ByteArray) (n : List UInt8) (w : World) (hb : x < 18446744073709551616) (h : wholeB x 4846369599423283200 = false) (ho : oddL x = some n) :
    Calls Tryz.prog 90 #[.float .f64 x, .string P] w fun e w' => e = .returned (.string ⟨n.toArray⟩) ∧ Below w.heap.size w w' := by
  have C := Lib.hid (whole_no x w hb h)
  have cO := fun W => boundless_any x W hb
  rw [ho] at cO
  replace cO : ∀ w : World, Calls Tryz.prog 133 #[.float .f64 x] w fun e w' => e = .returned (.tuple #[.string ⟨n.toArray⟩, .bool true]) ∧ w = w' := cO
  obtain ⟨N, hN⟩ : ∃ N : ByteArray, (⟨n.toArray⟩ : ByteArray) = N := ⟨_, rfl⟩
  rw [hN] at cO ⊢
  have CO := Lib.hid cO
  clear h ho cO hN
  go_enter Tryz.func90, Tryz.ntmps90
  go_wp2_with fail
  refine C.out.mono ?_
  rintro e w' ⟨rfl, rfl⟩
  go_wp2_with fail
  refine (CO.out _).mono ?_
  rintro e w' ⟨rfl, rfl⟩
  go_wp2_with fail
  go_ret
  exact ⟨rfl, Below.refl _ _⟩
set_option maxRecDepth 100000 in
set_option maxHeartbeats 4000000 in
theorem conv_one (P T : ByteArray) (x : Nat) (m p b a z : Bool) (wd pr : Int) (c : Nat) (w : World) (hb : x < 18446744073709551616) (hP : P.size ≤ 1000000) (hP0 : 0 < P.size) (hp : partF P 0 = some ⟨m, p, b, a, z, wd, pr, c, false, false, P.size⟩) (hc : c ≠ 37)
    (h : wholeB x 4846369599423283200 = false) (ho : oddL x = none)
    (hN : ∀ W, PowTab W → Calls Tryz.prog 135 #[.agg #[.bool m, .bool p, .bool b, .bool a, .bool z, .int .i64 wd, .int .i64 pr, .int .u8 (c : Int)], .float .f64 x] W fun e w' => e = .returned (.tuple #[.string T, .int .i64 0]) ∧ Below W.heap.size W w')
    (hTs : T.size ≤ 1000000) (hT : PowTab w) :
    Calls Tryz.prog 90 #[.float .f64 x, .string P] w fun e w' => e = .returned (.string T) ∧ Below w.heap.size w w' := by
  have C := Lib.hid (whole_no x w hb h)
  have cO := fun W => boundless_any x W hb
  rw [ho] at cO
  replace cO : ∀ w : World, Calls Tryz.prog 133 #[.float .f64 x] w fun e w' => e = .returned (.tuple #[.string ⟨#[]⟩, .bool false]) ∧ w = w' := cO
  have CO := Lib.hid cO
  have HTB := Lib.hid (Lib.tabBelow_of_tabIs hT)
  have fR := Five.new w #[.string P, .int .i64 0] 166
  have hbel := (Below.refl w.heap.size w).alloc (Nat.le_refl _) (.cells #[.string P, .int .i64 0] 166)
  have cF := filled_one P T w.heap.size x 0 m p b a z wd pr c (w.alloc (.cells #[.string P, .int .i64 0] 166)) hP hP0 hp hc fR hN hTs (fun W o => HTB.out W (hbel.trans (o.below (by simp) (by simp))))
  have CF := Lib.hid cF
  have HBEL := Lib.hid hbel
  clear cF cO hT fR hbel h ho hN hp
  go_enter Tryz.func90, Tryz.ntmps90
  go_wp2_with fail
  refine C.out.mono ?_
  rintro e w' ⟨rfl, rfl⟩
  go_wp2_with fail
  refine (CO.out _).mono ?_
  rintro e w' ⟨rfl, rfl⟩
  go_wp2_with fail
  refine CF.out.mono ?_
  rintro e w2 ⟨rfl, o2⟩
  have hBf := HBEL.out.trans (o2.below (by simp) (by simp))
  clear o2
  go_wp2_with fail
  go_ret
  exact ⟨rfl, hBf⟩
/-- %.6g, %.3f, %.17g -/
abbrev p6g : ByteArray := ⟨#[37, 46, 54, 103]⟩
theorem part_6g : partF p6g 0 = some ⟨false, false, false, false, false, 0, 6, 103, false, false, 4⟩ := by rfl
theorem cap_len (c : Nat) (l : List UInt8) : (capL c l).length = l.length := by
  unfold capL
  split
  · exact upper_len l
  · rfl
theorem pointT_len (w : World) {m p b a z : Bool} {wd pr : Int} {c x : Nat} (h : mag x < 9218868437227405312) (h0 : 0 ≤ wd) (h1 : wd ≤ 1024) (h2 : -1 ≤ pr) (h3 : pr ≤ 190) : (pointT m p b a z wd pr c x).length ≤ 100000 := by
  unfold pointT laidL fillL
  have h4 := len_ptD w h h2 h3 a c
  have h5 := sgn_len p b c (sbB x)
  have h6 := cap_len c (ptD (mag x) pr a c)
  split
  · simp only [List.length_append, List.length_replicate, List.length_nil]
    omega
  · split
    · simp only [List.length_append, List.length_replicate, List.length_nil]
      omega
    · simp only [List.length_append, List.length_replicate, List.length_nil]
      omega
theorem conv_pt (P : ByteArray) (x k : Nat) (pr : Int) (c : Nat) (w : World) (hb : x < 18446744073709551616) (hm : mag x < 9218868437227405312) (hP : P.size = k) (hk : k ≤ 100) (hk0 : 0 < k) (hp : partF P 0 = some ⟨false, false, false, false, false, 0, pr, c, false, false, k⟩) (hc : chkB 0 pr c = true) (hv : vNum.contains c.toUInt8 = true) (hw : vWhole.contains c.toUInt8 = false) (hc2 : c ≠ 37)
    (h : wholeB x 4846369599423283200 = false) (hT : PowTab w) :
    Calls Tryz.prog 90 #[.float .f64 x, .string P] w fun e w' => e = .returned (.string ⟨(pointT false false false false false 0 pr c x).toArray⟩) ∧ Below w.heap.size w w' := by
  subst hP
  obtain ⟨d0, d1, d2, d3⟩ := chk_bd hc
  have hlen : (pointT false false false false false 0 pr c x).length ≤ 100000 := pointT_len w hm d0 d1 d2 d3
  exact conv_one P _ x false false false false false 0 pr c w hb (by omega) hk0 hp hc2 h (odd_none hm) (fun W hW => number_point false false false false false 0 pr c x W hb hm hc hv hw hW) (by rw [← ba_len]; exact Nat.le_trans hlen (by omega)) hT
/-- What Conv answers by "%.6g". -/
noncomputable def conv6 (x : Nat) : List UInt8 := if wholeB x 4846369599423283200 = true then wholeT x else match oddL x with
  | some n => n
  | none => pointT false false false false false 0 6 103 x
theorem mag_odd {x : Nat} (hb : x < 18446744073709551616) (h : oddL x = none) : mag x < 9218868437227405312 := by
  rcases Nat.lt_or_ge (mag x) 9218868437227405312 with h1 | h1
  · exact h1
  · exfalso
    unfold oddL at h
    rcases Nat.lt_or_ge 9218868437227405312 (mag x) with h2 | h2
    · rw [nan_yes h2, if_pos rfl] at h
      cases h
    · rw [nan_no (by omega), if_neg (by decide)] at h
      have e : x = 9218868437227405312 ∨ x = 18442240474082181120 := by unfold mag at h1 h2; omega
      rcases e with rfl | rfl
      · exact absurd h (by decide)
      · exact absurd h (by decide)
theorem conv_6g (x : Nat) (w : World) (hb : x < 18446744073709551616) (hT : PowTab w) :
    Calls Tryz.prog 90 #[.float .f64 x, .string p6g] w fun e w' => e = .returned (.string ⟨(conv6 x).toArray⟩) ∧ Below w.heap.size w w' := by
  unfold conv6
  cases hw : wholeB x 4846369599423283200 with
  | true => rw [if_pos rfl]; exact conv_whole x _ w hb hw hT
  | false =>
    rw [if_neg (by decide)]
    cases ho : oddL x with
    | some n => exact conv_odd x _ n w hb hw ho
    | none => exact conv_pt p6g x 4 6 103 w hb (mag_odd hb ho) rfl (by omega) (by omega) part_6g (by decide) (by decide) (by decide) (by decide) hw hT
end Go.Proofs.YtddfigbpckhfbaaGreatDoor

namespace Go.Proofs.YtddfigbpckhfbaaGreatDoor
open Go.RowKit Go.Lib

theorem f7 : fw 7 = 4619567317775286272 := by decide +kernel
theorem f3 : fw 3 = 4613937818241073152 := by decide +kernel
theorem f1 : fw 1 = 4607182418800017408 := by decide +kernel
end Go.Proofs.YtddfigbpckhfbaaGreatDoor

namespace Go.Proofs.YtddfigbpckhfbaaGreatDoor
open Go.RowKit Go.Lib

set_option maxRecDepth 100000 in
theorem clone_str (s : ByteArray) (w : World) (hs : s.size ≤ 140737488355328) : Calls Tryz.prog 87 #[.string s] w fun e w' => e = .returned (.string s) ∧ Below w.heap.size w w' := by
  have C := Lib.hid (Tryz.stringslite_Clone s w (by omega))
  go_enter Tryz.func87, Tryz.ntmps87
  go_wp2_with fail
  refine C.out.mono ?_
  rintro e w' ⟨rfl, hB⟩
  go_wp2_with fail
  go_ret
  exact ⟨rfl, hB⟩
theorem run_store_float (a : Addr) (n : Nat) (m : Mode) (w : World) : (store a (.float .f64 n) m).run Tryz.prog w = stored Tryz.prog w a (.float .f64 n) m := run_store _ w a _ m rfl
/-- The float nearest to a fraction. -/
noncomputable def nearR (X D : Nat) : Nat := @dite _ (∃ r, Near X D r) (Classical.propDecidable _) (fun h => Classical.choose h) (fun _ => 0)
theorem nearR_of {X D r : Nat} (hD : 0 < D) (h : Near X D r) : nearR X D = r := by
  unfold nearR
  have he : ∃ r, Near X D r := ⟨r, h⟩
  rw [dif_pos he]
  exact (Classical.choose_spec he).uniq hD hD rfl h
/-- The number that a text begins with. -/
noncomputable def preN (l : List UInt8) : Nat := turned (sigL l).1 (nearR (2 * (pv ((sigL l).2.1 ++ (sigL l).2.2.1) * 10 ^ ((sigL l).2.2.2.1 - ((sigL l).2.2.1.length : Int)).toNat) * S1074) (10 ^ (-((sigL l).2.2.2.1 - ((sigL l).2.2.1.length : Int))).toNat))
theorem prefix_val (s : ByteArray) (w : World) (hs : s.size ≤ 140737488355328) : Calls Tryz.prog 32 #[.string s] w fun e w' => e = .returned (.tuple #[.float .f64 (preN s.data.toList), .int .i64 (sigL s.data.toList).2.2.2.2]) ∧ Below w.heap.size w w' := by
  obtain ⟨b, X1, X2, xe, z, hX⟩ : ∃ b X1 X2 xe z, sigL s.data.toList = (b, X1, X2, xe, z) := ⟨_, _, _, _, _, rfl⟩
  refine (prefix_any s w hs b X1 X2 xe z hX).mono ?_
  rintro e w' ⟨r, rfl, hN, hB⟩
  refine ⟨?_, hB⟩
  unfold preN
  rw [hX]
  simp only
  rw [nearR_of (Nat.pow_pos (by omega)) hN.out]
theorem turned_lt (b : Bool) {r : Nat} (h : r < 9223372036854775808) : turned b r < 18446744073709551616 := by
  unfold turned
  cases b with
  | true => rw [if_pos rfl, neg_pos h]; omega
  | false => rw [if_neg (by decide)]; omega
end Go.Proofs.YtddfigbpckhfbaaGreatDoor

namespace Go.Proofs.YtddfigbpckhfbaaGreatDoor
open Go.RowKit Go.Lib

/-- The bytes of a code. -/
def textB (c : Int) : ByteArray :=
  if 1114112 ≤ c ∧ c < 1114368 then ⟨#[UInt8.ofNat (c - 1114112).toNat]⟩ else if Lib.validRune c then Utf8.encode c else ⟨#[]⟩
theorem textB_byte (c : Int) (h : 1114112 ≤ c ∧ c < 1114368) : textB c = ⟨#[UInt8.ofNat (c - 1114112).toNat]⟩ := if_pos h
theorem textB_rune (c : Int) (h : Lib.validRune c = true) : textB c = Utf8.encode c := by
  unfold textB
  rw [if_neg (by simp [Lib.validRune] at h; omega), if_pos h]
theorem textB_none (c : Int) (h1 : ¬ (1114112 ≤ c ∧ c < 1114368)) (h : Lib.validRune c = false) : textB c = ⟨#[]⟩ := by
  unfold textB
  rw [if_neg h1, if_neg (by rw [h]; decide)]
/-- 'string(b)' of a row of bytes that was just made. -/
theorem conv_new (W : World) (xs : List Int) (h : ∀ x ∈ xs, 0 ≤ x ∧ x ≤ 255) :
    (convert 56 9 (.slice (some ⟨W.heap.size, 0, none⟩) xs.length xs.length)).run Tryz.prog (W.alloc (.cells (xs.map (Value.int .u8)).toArray 5)) =
      .ok (.string ⟨(xs.map fun x => UInt8.ofNat x.toNat).toArray⟩) (W.alloc (.cells (xs.map (Value.int .u8)).toArray 5)) := by
  have := run_convert_bytes_back (P := Tryz.prog) (W.alloc (.cells (xs.map (Value.int .u8)).toArray 5)) 56 9 5 ⟨W.heap.size, 0, none⟩ xs.length (xs.map fun x => UInt8.ofNat x.toNat)
    Tryz.underlying56 Tryz.underlying5 Tryz.underlying9 (fun j hj => by
      have hj' : j < xs.length := by simpa using hj
      have hx := h xs[j] (List.getElem_mem hj')
      rw [Addr.add_lit, World.cell?_alloc_at _ _ _ _ rfl]
      simp [hj']
      omega)
  simpa using this
theorem conv_1 (W : World) (x : Int) (h : 0 ≤ x ∧ x ≤ 255) :
    (convert 56 9 (.slice (some ⟨W.heap.size, 0, none⟩) 1 1)).run Tryz.prog (W.alloc (.cells #[.int .u8 x] 5)) = .ok (.string ⟨#[UInt8.ofNat x.toNat]⟩) (W.alloc (.cells #[.int .u8 x] 5)) :=
  conv_new W [x] (by simpa using h)
set_option maxRecDepth 100000 in
set_option maxHeartbeats 1000000 in
theorem utext_any (c : Int) (w : World) (hc : -9223372036854775808 ≤ c ∧ c ≤ 9223372036854775807) :
    Calls Tryz.prog 194 #[.int .i64 c] w fun e w' => e = .returned (.string (textB c)) ∧ Below w.heap.size w w' := by
  by_cases h1 : c < 0
  · rw [textB_none c (by omega) (by simp [Lib.validRune]; omega)]
    go_enter Tryz.func194, Tryz.ntmps194
    go_wp2
    go_ret
    exact ⟨rfl, Below.refl _ _⟩
  by_cases h2 : 1114367 < c
  · rw [textB_none c (by omega) (by simp [Lib.validRune]; omega)]
    go_enter Tryz.func194, Tryz.ntmps194
    go_wp2
    go_ret
    exact ⟨rfl, Below.refl _ _⟩
  by_cases h3 : 1114112 ≤ c
  · rw [textB_byte c (by omega)]
    have hcv := conv_1 w (c - 1114112) (by omega)
    go_enter Tryz.func194, Tryz.ntmps194
    go_wp2
    go_ret
    exact ⟨rfl, (Below.refl _ _).alloc (Nat.le_refl _) _⟩
  have cV := Tryz.utf8_ValidRune c w
  by_cases h4 : Lib.validRune c = true
  · rw [textB_rune c h4]
    rw [h4] at cV
    have CV := Lib.hid cV; clear cV h4
    go_enter Tryz.func194, Tryz.ntmps194
    go_wp2_with (go_at_call 232; refine CV.out.mono ?_; rintro e w' ⟨rfl, rfl⟩)
    go_ret
    exact ⟨rfl, Below.refl _ _⟩
  · have h4' : Lib.validRune c = false := by simpa using h4
    rw [textB_none c (by omega) h4']
    rw [h4'] at cV
    have CV := Lib.hid cV; clear cV h4 h4'
    go_enter Tryz.func194, Tryz.ntmps194
    go_wp2_with (go_at_call 232; refine CV.out.mono ?_; rintro e w' ⟨rfl, rfl⟩)
    go_ret
    exact ⟨rfl, Below.refl _ _⟩

end Go.Proofs.YtddfigbpckhfbaaGreatDoor

namespace Go.Proofs.YtddfigbpckhfbaaGreatDoor
open Go.Lib

/-- The character at byte i of s: its code and how many bytes it has. -/
def chN (n b0 b1 b2 b3 : Nat) : Nat × Nat := if decodeN n b0 b1 b2 b3 = (65533, 1) then (1114112 + b0, 1) else decodeN n b0 b1 b2 b3
def chS (s : ByteArray) (i : Nat) : Nat × Nat := chN (s.size - i) (s.get! i).toNat (s.get! (i + 1)).toNat (s.get! (i + 2)).toNat (s.get! (i + 3)).toNat

/-- What Next answers. -/
def nextZ (s : ByteArray) (i : Int) (b : Bool) : Nat × Nat :=
  if i < 0 ∨ (s.size : Int) ≤ i then (0, 0) else if b then ((s.get! i.toNat).toNat, 1) else chS s i.toNat


theorem get!_lt (s : ByteArray) (i : Nat) (h : i < s.size) : s[i] = s.get! i := (Utf8W.get!_of_lt s i h).symm

theorem get!_lt256 (s : ByteArray) (i : Nat) : (s.get! i).toNat < 256 := by
  have := UInt8.toNat_lt (s.get! i)
  omega
/-! What 'size' reckons is what the library decodes. -/
end Go.Proofs.YtddfigbpckhfbaaGreatDoor

namespace Go.Proofs.YtddfigbpckhfbaaGreatDoor
open Go.RowKit Go.Lib

/-- Past the ends of the string. -/
theorem nextZ_out (s : ByteArray) (i : Int) (b : Bool) (h : i < 0 ∨ (s.size : Int) ≤ i) : nextZ s i b = (0, 0) := if_pos h
theorem nextZ_in (s : ByteArray) (i : Nat) (b : Bool) (h : i < s.size) : nextZ s (i : Int) b = if b then ((s.get! i).toNat, 1) else chS s i := by
  unfold nextZ; rw [if_neg (by omega)]; rfl

theorem decodeGo_tail (s : ByteArray) (i : Nat) (h : i < s.size) : decodeGo (s.extract i s.size) = decodeN (s.size - i) (s.get! i).toNat (s.get! (i + 1)).toNat (s.get! (i + 2)).toNat (s.get! (i + 3)).toNat := by
  unfold decodeGo
  rw [if_neg (by rw [ByteArray.size_extract]; omega), decode_at, tail_get!, tail_get!, tail_get!, tail_get!, ByteArray.size_extract, Nat.min_self, Nat.sub_zero]
  simp only [Nat.add_zero, Nat.zero_add]
end Go.Proofs.YtddfigbpckhfbaaGreatDoor
