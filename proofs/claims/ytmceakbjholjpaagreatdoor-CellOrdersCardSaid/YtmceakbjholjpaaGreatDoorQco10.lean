/- Several texts in one (The example of layer 6's laws; the law CellNames; The walk of the law CellTexts; Plain: values in order. No walk here; Contracts of layer 6's laws: a value made of numbers and a string; The region of the law CellOrders that makes three values, whichever way its operations come up; The walk of the law CellOrders). -/
import Derived.Test.YtmceakbjholjpaaGreatDoorQco9
namespace Go.Proofs.YtmceakbjholjpaaGreatDoor
open Go.RowKit Go.Lib

theorem preN_fw {l X1 X2 : List UInt8} {b : Bool} {xe z : Int} {m : Nat} (hX : sigL l = (b, X1, X2, xe, z)) (hm : m < 9007199254740992) (he : pv (X1 ++ X2) * 10 ^ (xe - (X2.length : Int)).toNat = m * 10 ^ (-(xe - (X2.length : Int))).toNat) : preN l = turned b (fw m) := by
  unfold preN
  rw [hX]
  simp only
  have hs := Near.self (r := fw m) (by have := fw_bd hm; omega)
  rw [fw_V hm] at hs
  rw [nearR_of (Nat.pow_pos (by omega)) (near_same (by omega) (Nat.pow_pos (by omega)) ?_ hs)]
  rw [he, Nat.mul_one]
  generalize S1074 = z
  ac_rfl
theorem pre_10 : preN [32, 49, 48, 32] = 4621819117588971520 := by
  rw [preN_fw (b := false) (X1 := [49, 48]) (X2 := []) (xe := 0) (z := 3) (m := 10) (by rfl) (by omega) (by decide)]
  decide +kernel
theorem pre_3x : preN [51, 120] = 4613937818241073152 := by
  rw [preN_fw (b := false) (X1 := [51]) (X2 := []) (xe := 0) (z := 1) (m := 3) (by rfl) (by omega) (by decide)]
  decide +kernel
theorem looks_10 : looksL [32, 49, 48, 32] = true := by rfl
theorem pt_01 : pointT false false false false false 0 3 102 4591870180066957722 = [48, 46, 49, 48, 48] := by
  unfold pointT ptD
  rw [if_pos (Or.inl rfl)]
  decide +kernel
set_option maxRecDepth 100000 in
set_option maxHeartbeats 8000000 in
theorem cfixed_any (w : World) (hT : PowTab w) : Calls Tryz.prog 23 #[] w fun e w' => e = .returned (.bool true) ∧ Below w.heap.size w w' := by
  have c1 := fun W => cInput_any ⟨#[32, 49, 48, 32]⟩ true 4621819117588971520 W (by decide) looks_10 pre_10
  have c2 := fun W => cText_any ⟨#[57]⟩ W (by decide)
  have c3 := fun W => cOf_any 4621256167635550208 W
  have c4 := fun W => cCompare_num 3 1 4621819117588971520 4621256167635550208 ⟨#[32, 49, 48, 32]⟩ ⟨#[]⟩ p6g W (by decide) (by decide) (by decide) (by decide)
  have e4 : cmpN (numV2 3 4621819117588971520 ⟨#[32, 49, 48, 32]⟩) (numV2 1 4621256167635550208 ⟨#[]⟩) = 1 := by
    unfold numV2
    rw [if_pos (Or.inr rfl), if_pos (Or.inl rfl)]
    decide +kernel
  rw [e4] at c4
  have c5 := fun (W : World) (hW : PowTab W) => cCompare_str 3 2 4621819117588971520 0 ⟨#[32, 49, 48, 32]⟩ ⟨#[57]⟩ p6g ⟨#[]⟩ ⟨#[]⟩ W (Or.inr ⟨by decide, rfl⟩) (fun h => by cases h) (fun h => by cases h) hW
  have e5 : Lib.compareBytes (wrT 3 ⟨#[32, 49, 48, 32]⟩ ⟨#[]⟩).data.toList (wrT 2 ⟨#[57]⟩ ⟨#[]⟩).data.toList = -1 := by decide
  rw [e5] at c5
  have c6 := fun W => cOf_any 4591870180066957722 W
  have c7 := fun (W : World) (hW : PowTab W) => cString_any 1 4591870180066957722 ⟨#[]⟩ p3f ⟨#[48, 46, 49, 48, 48]⟩ W (fun _ W2 hW2 => by
    have h := conv_pt p3f 4591870180066957722 4 3 102 W2 (by omega) (by decide) rfl (by omega) (by omega) part_3f (by decide) (by decide) (by decide) (by decide) (by decide +kernel) hW2
    rw [pt_01] at h
    exact h) hW (by decide)
  replace c7 : ∀ W, PowTab W → Calls Tryz.prog 29 #[.agg #[.int .i64 1, .float .f64 4591870180066957722, .string ⟨#[]⟩], .string p3f] W fun e w' => e = .returned (.string ⟨#[48, 46, 49, 48, 48]⟩) ∧ Below W.heap.size W w' := c7
  have c8 := fun W => cText_any ⟨#[51, 120]⟩ W (by decide)
  have c9 := fun W => cNumber_any 2 0 ⟨#[51, 120]⟩ W (by decide)
  have e9 : numV2 2 0 ⟨#[51, 120]⟩ = 4613937818241073152 := by
    unfold numV2
    rw [if_neg (by decide), if_pos rfl]
    exact pre_3x
  rw [e9] at c9
  have c10 := fun W => cTrue_none 0 ⟨#[]⟩ W
  have t1 : (FloatKind.f64.format.order 4621819117588971520 4621819117588971520 == some .eq) = true := by decide +kernel
  have t2 : (FloatKind.f64.format.order 4613937818241073152 4613937818241073152 == some .eq) = true := by decide +kernel
  have HT := Lib.hid (Lib.tabBelow_of_tabIs hT)
  have C1 := Lib.hid c1
  have C2 := Lib.hid c2
  have C3 := Lib.hid c3
  have C4 := Lib.hid c4
  have C5 := Lib.hid c5
  have C6 := Lib.hid c6
  have C7 := Lib.hid c7
  have C8 := Lib.hid c8
  have C9 := Lib.hid c9
  have C10 := Lib.hid c10
  clear c1 c2 c3 c4 c5 c6 c7 c8 c9 c10 e4 e5 e9 hT
  go_enter Tryz.func23, Tryz.ntmps23
  go_wp2_with fail
  refine (C1.out _).mono ?_
  rintro e w1 ⟨rfl, hB1⟩
  go_wp2_with fail
  refine (C2.out _).mono ?_
  rintro e w2 ⟨rfl, h2⟩
  have hB2 := hB1.trans (h2.mono hB1.size)
  clear h2 hB1
  have fA := (Five.new w2 #[.int .i64 3, .float .f64 4621819117588971520, .string ⟨#[32, 49, 48, 32]⟩] 52).alloc (.cells #[.int .i64 2, .float .f64 0, .string ⟨#[57]⟩] 52)
  have fB := Five.new (w2.alloc (.cells #[.int .i64 3, .float .f64 4621819117588971520, .string ⟨#[32, 49, 48, 32]⟩] 52)) #[.int .i64 2, .float .f64 0, .string ⟨#[57]⟩] 52
  rw [World.size_alloc] at fB
  have hB3 := (hB2.alloc hB2.size (.cells #[.int .i64 3, .float .f64 4621819117588971520, .string ⟨#[32, 49, 48, 32]⟩] 52)).alloc (by have := hB2.size; rw [World.size_alloc]; omega) (.cells #[.int .i64 2, .float .f64 0, .string ⟨#[57]⟩] 52)
  obtain ⟨W3, hW3⟩ : ∃ W3, (w2.alloc (.cells #[.int .i64 3, .float .f64 4621819117588971520, .string ⟨#[32, 49, 48, 32]⟩] 52)).alloc (.cells #[.int .i64 2, .float .f64 0, .string ⟨#[57]⟩] 52) = W3 := ⟨_, rfl⟩
  obtain ⟨B, hB⟩ : ∃ B, w2.heap.size = B := ⟨_, rfl⟩
  rw [hW3] at fA fB hB3
  rw [hB] at fA fB
  have HW3 := Lib.hid hW3
  have HB := Lib.hid hB
  have FA := Lib.hid fA
  have FB := Lib.hid fB
  have HB3 := Lib.hid hB3
  clear hW3 hB fA fB hB3 hB2
  have hst := run_store_float
  go_wp2_with fail
  rw [HW3.out, HB.out]
  have HCW := Lib.hid (fun (W : World) (h : Below W3.heap.size W3 W) => (show W.cell? ⟨B, 0, none⟩ = some (.int .i64 3) ∧ W.cell? ⟨B, 1, none⟩ = some (.float .f64 4621819117588971520) ∧ W.cell? ⟨B, 2, none⟩ = some (.string ⟨#[32, 49, 48, 32]⟩) ∧ W.cell? ⟨B + 1, 0, none⟩ = some (.int .i64 2) ∧ W.cell? ⟨B + 1, 1, none⟩ = some (.float .f64 0) ∧ W.cell? ⟨B + 1, 2, none⟩ = some (.string ⟨#[57]⟩) from ⟨(FA.out.below h).cell 0, (FA.out.below h).cell 1, (FA.out.below h).cell 2, (FB.out.below h).cell 0, (FB.out.below h).cell 1, (FB.out.below h).cell 2⟩))
  have hR := Below.refl W3.heap.size W3
  obtain ⟨a0, a1, a2, a3, a4, a5⟩ := HCW.out W3 hR
  have HTW := Lib.hid (fun (W : World) (h : Below W3.heap.size W3 W) => HT.out W (HB3.out.trans (h.mono HB3.out.size)))
  clear hst
  go_region_held3 (fun W => W.cell? ⟨B, 0, none⟩ = some (.int .i64 3) ∧ W.cell? ⟨B, 1, none⟩ = some (.float .f64 4621819117588971520) ∧ W.cell? ⟨B, 2, none⟩ = some (.string ⟨#[32, 49, 48, 32]⟩) ∧ W.cell? ⟨B + 1, 0, none⟩ = some (.int .i64 2) ∧ W.cell? ⟨B + 1, 1, none⟩ = some (.float .f64 0) ∧ W.cell? ⟨B + 1, 2, none⟩ = some (.string ⟨#[57]⟩))
    (first | (with_reducible exact S11) | (with_reducible exact S10) | (with_reducible exact S9) | (with_reducible exact S8) | (with_reducible exact S7) | (with_reducible exact S6) | (with_reducible exact S5) | (with_reducible exact S4) | go_keep)
    (first
    | (go_at_call 38; (with_reducible refine (C3.out _).mono ?_); rintro e X4 ⟨rfl, h⟩; have b4 : Below W3.heap.size W3 X4 := ⟨h.os, h.tape, h.output, h.size, h.block⟩; have S4 := HCW.out _ b4; clear h)
    | (go_at_call 25; (with_reducible refine (C4.out _).mono ?_); rintro e X5 ⟨rfl, h⟩; have b5 : Below W3.heap.size W3 X5 := b4.trans ((⟨h.os, h.tape, h.output, h.size, h.block⟩ : Below X4.heap.size X4 X5).mono b4.size); have S5 := HCW.out _ b5; clear h)
    | (go_at_call 25; (with_reducible refine (C5.out _ (HTW.out _ (by first | exact b5 | exact b5.drew | exact below_drewN b5 _))).mono ?_); rintro e X6 ⟨rfl, h⟩; have b6 : Below W3.heap.size W3 X6 := b5.trans ((⟨h.os, h.tape, h.output, h.size, h.block⟩ : Below X5.heap.size X5 X6).mono b5.size); have S6 := HCW.out _ b6; clear h)
    | (go_at_call 38; (with_reducible refine (C6.out _).mono ?_); rintro e X7 ⟨rfl, h⟩; have b7 : Below W3.heap.size W3 X7 := b6.trans ((⟨h.os, h.tape, h.output, h.size, h.block⟩ : Below X6.heap.size X6 X7).mono b6.size); have S7 := HCW.out _ b7; clear h)
    | (go_at_call 29; (with_reducible refine (C7.out _ (HTW.out _ (by first | exact b7 | exact b7.drew | exact below_drewN b7 _))).mono ?_); rintro e X8 ⟨rfl, h⟩; have b8 : Below W3.heap.size W3 X8 := b7.trans ((⟨h.os, h.tape, h.output, h.size, h.block⟩ : Below X7.heap.size X7 X8).mono b7.size); have S8 := HCW.out _ b8; clear h)
    | (go_at_call 27; (with_reducible refine (C8.out _).mono ?_); rintro e X9 ⟨rfl, h⟩; have b9 : Below W3.heap.size W3 X9 := b8.trans ((⟨h.os, h.tape, h.output, h.size, h.block⟩ : Below X8.heap.size X8 X9).mono b8.size); have S9 := HCW.out _ b9; clear h)
    | (go_at_call 31; (with_reducible refine (C9.out _).mono ?_); rintro e X10 ⟨rfl, h⟩; have b10 : Below W3.heap.size W3 X10 := b9.trans ((⟨h.os, h.tape, h.output, h.size, h.block⟩ : Below X9.heap.size X9 X10).mono b9.size); have S10 := HCW.out _ b10; clear h)
    | (go_at_call 33; (with_reducible refine (C10.out _).mono ?_); rintro e X11 ⟨rfl, h⟩; have b11 : Below W3.heap.size W3 X11 := b10.trans ((⟨h.os, h.tape, h.output, h.size, h.block⟩ : Below X10.heap.size X10 X11).mono b10.size); have S11 := HCW.out _ b11; clear h))
  all_goals
    have hBf := HB3.out.trans (b11.mono HB3.out.size)
    go_wp2_with fail
    go_ret
    exact ⟨rfl, by first | exact hBf | exact ⟨hBf.os, hBf.tape, hBf.output, hBf.size, hBf.block⟩⟩
end Go.Proofs.YtmceakbjholjpaaGreatDoor

namespace Go.Proofs.YtmceakbjholjpaaGreatDoor
open Go.RowKit Go.Lib

theorem cmp_facts : ∀ (l m : List UInt8), (Op.bytesLess l m = true ↔ Lib.compareBytes l m = -1) ∧ (Lib.compareBytes l m = 0 ↔ l = m) ∧ (Lib.compareBytes l m = -1 ∨ Lib.compareBytes l m = 0 ∨ Lib.compareBytes l m = 1)
  | [], [] => ⟨by decide, by decide, by decide⟩
  | [], _ :: _ => ⟨⟨fun _ => rfl, fun _ => rfl⟩, ⟨(fun h => by cases h), (fun h => by cases h)⟩, Or.inl rfl⟩
  | _ :: _, [] => ⟨⟨(fun h => by cases h), (fun h => by cases h)⟩, ⟨(fun h => by cases h), (fun h => by cases h)⟩, Or.inr (Or.inr rfl)⟩
  | a :: x, b :: y => by
    obtain ⟨i1, i2, i3⟩ := cmp_facts x y
    have e1 : Op.bytesLess (a :: x) (b :: y) = (decide (a < b) || (a == b && Op.bytesLess x y)) := rfl
    have e2 : Lib.compareBytes (a :: x) (b :: y) = if a < b then -1 else if b < a then 1 else Lib.compareBytes x y := rfl
    rw [e1, e2]
    by_cases h1 : a < b
    · have hne : a ≠ b := fun e => by rw [e] at h1; exact absurd h1 (UInt8.lt_irrefl b)
      rw [if_pos h1, decide_eq_true h1]
      exact ⟨⟨fun _ => rfl, fun _ => rfl⟩, ⟨(fun h => by cases h), (fun h => absurd (List.cons.inj h).1 hne)⟩, Or.inl rfl⟩
    · rw [if_neg h1, decide_eq_false h1, Bool.false_or]
      by_cases h2 : b < a
      · have hne : a ≠ b := fun e => by rw [e] at h2; exact absurd h2 (UInt8.lt_irrefl b)
        rw [if_pos h2, beq_eq_false_iff_ne.2 hne, Bool.false_and]
        exact ⟨⟨(fun h => by cases h), (fun h => by cases h)⟩, ⟨(fun h => by cases h), (fun h => absurd (List.cons.inj h).1 hne)⟩, Or.inr (Or.inr rfl)⟩
      · have he : a = b := UInt8.le_antisymm (UInt8.not_lt.1 h2) (UInt8.not_lt.1 h1)
        rw [if_neg h2, he, beq_self_eq_true, Bool.true_and]
        refine ⟨i1, i2.trans ⟨fun h => by rw [h], fun h => (List.cons.inj h).2⟩, i3⟩
end Go.Proofs.YtmceakbjholjpaaGreatDoor

namespace Go.Proofs.YtmceakbjholjpaaGreatDoor
open Go.RowKit Go.Lib

/-- A number's place among all: NaN stands behind all others. -/
def keyN (x : Nat) : Int := if 9218868437227405312 < mag x then 9223372036854775808 else keyZ x
theorem keyZ_bd (x : Nat) : -9223372036854775808 < keyZ x ∧ keyZ x < 9223372036854775808 := by
  have := mag_lt x
  unfold keyZ
  split <;> omega
theorem cmpN_key (x y : Nat) : cmpN x y = if keyN x < keyN y then -1 else if keyN y < keyN x then 1 else 0 := by
  have bx := keyZ_bd x
  have by' := keyZ_bd y
  unfold cmpN ltB gtB rkB keyN
  rcases Nat.lt_or_ge 9218868437227405312 (mag x) with hx | hx
  · rw [show FloatKind.f64.format.order x y = none from order_nan_l hx, nan_yes hx, if_pos hx]
    rw [if_neg (show ¬ ((none : Option Ordering) == some .lt) = true by decide), if_neg (show ¬ ((none : Option Ordering) == some .gt) = true by decide), if_pos rfl]
    rcases Nat.lt_or_ge 9218868437227405312 (mag y) with hy | hy
    · rw [nan_yes hy, if_pos hy, if_pos rfl, if_neg (by omega), if_neg (by omega)]
      rfl
    · rw [nan_no hy, if_neg (by omega : ¬ 9218868437227405312 < mag y), if_neg (by decide), if_neg (by omega), if_pos (by omega)]
      rfl
  · rw [if_neg (by omega : ¬ 9218868437227405312 < mag x), nan_no hx]
    rcases Nat.lt_or_ge 9218868437227405312 (mag y) with hy | hy
    · rw [show FloatKind.f64.format.order x y = none from order_nan_r hy, nan_yes hy, if_pos hy]
      rw [if_neg (show ¬ ((none : Option Ordering) == some .lt) = true by decide), if_neg (show ¬ ((none : Option Ordering) == some .gt) = true by decide), if_neg (by decide), if_pos rfl, if_pos (by omega)]
      rfl
    · rw [if_neg (by omega : ¬ 9218868437227405312 < mag y), nan_no hy, show FloatKind.f64.format.order x y = some (compare (keyZ x) (keyZ y)) from order_key hx hy]
      rcases Int.lt_trichotomy (keyZ x) (keyZ y) with h | h | h
      · rw [Int.compare_eq_lt.2 h, if_pos (by decide), if_pos h]
      · rw [Int.compare_eq_eq.2 h, if_neg (by decide), if_neg (by decide), if_neg (by decide), if_neg (by omega), if_neg (by omega)]
        rfl
      · rw [Int.compare_eq_gt.2 h, if_neg (by decide), if_pos (by decide), if_neg (by omega), if_pos h]
theorem cb_step (a b : UInt8) (l m : List UInt8) : (a.toNat < b.toNat → Lib.compareBytes (a :: l) (b :: m) = -1) ∧ (b.toNat < a.toNat → Lib.compareBytes (a :: l) (b :: m) = 1) ∧ (a.toNat = b.toNat → Lib.compareBytes (a :: l) (b :: m) = Lib.compareBytes l m) := by
  have e2 : Lib.compareBytes (a :: l) (b :: m) = if a < b then -1 else if b < a then 1 else Lib.compareBytes l m := rfl
  have l1 := UInt8.lt_iff_toNat_lt (a := a) (b := b)
  have l2 := UInt8.lt_iff_toNat_lt (a := b) (b := a)
  rw [e2]
  refine ⟨fun h => if_pos (l1.2 h), fun h => ?_, fun h => ?_⟩
  · rw [if_neg (fun k => by have := l1.1 k; omega), if_pos (l2.2 h)]
  · rw [if_neg (fun k => by have := l1.1 k; omega), if_neg (fun k => by have := l2.1 k; omega)]
theorem cb_swap : ∀ l m : List UInt8, Lib.compareBytes m l = -Lib.compareBytes l m
  | [], [] => rfl
  | [], _ :: _ => rfl
  | _ :: _, [] => rfl
  | a :: l, b :: m => by
    have h1 := cb_step a b l m
    have h2 := cb_step b a m l
    have h3 := cb_swap l m
    omega
theorem cb_trans : ∀ l m n : List UInt8, Lib.compareBytes l m ≤ 0 → Lib.compareBytes m n ≤ 0 → Lib.compareBytes l n ≤ 0 ∧ ((Lib.compareBytes l m = 0 ∧ Lib.compareBytes m n = 0) ↔ Lib.compareBytes l n = 0)
  | [], [], [] => fun _ _ => by decide
  | [], [], _ :: _ => fun _ _ => ⟨by show (-1 : Int) ≤ 0; decide, ⟨fun h => absurd h.2 (by show ¬ (-1 : Int) = 0; decide), fun h => absurd h (by show ¬ (-1 : Int) = 0; decide)⟩⟩
  | [], _ :: _, [] => fun _ h => absurd h (by show ¬ (1 : Int) ≤ 0; decide)
  | [], _ :: _, _ :: _ => fun _ _ => ⟨by show (-1 : Int) ≤ 0; decide, ⟨fun h => absurd h.1 (by show ¬ (-1 : Int) = 0; decide), fun h => absurd h (by show ¬ (-1 : Int) = 0; decide)⟩⟩
  | _ :: _, [], _ => fun h _ => absurd h (by show ¬ (1 : Int) ≤ 0; decide)
  | _ :: _, _ :: _, [] => fun _ h => absurd h (by show ¬ (1 : Int) ≤ 0; decide)
  | a :: l, b :: m, c :: n => by
    have h1 := cb_step a b l m
    have h2 := cb_step b c m n
    have h3 := cb_step a c l n
    have ih := cb_trans l m n
    intro k1 k2
    rcases Nat.lt_trichotomy a.toNat b.toNat with q1 | q1 | q1 <;> rcases Nat.lt_trichotomy b.toNat c.toNat with q2 | q2 | q2
    · have := h1.1 q1; have := h2.1 q2; have := h3.1 (by omega); omega
    · have := h1.1 q1; have := h3.1 (by omega); omega
    · have := h2.2.1 q2; omega
    · have := h2.1 q2; have := h3.1 (by omega); omega
    · rw [h1.2.2 q1] at k1 ⊢
      rw [h2.2.2 q2] at k2 ⊢
      rw [h3.2.2 (by omega)]
      exact ih k1 k2
    · have := h2.2.1 q2; omega
    · have := h1.2.1 q1; omega
    · have := h1.2.1 q1; omega
    · have := h1.2.1 q1; omega
/-- What Compare answers by "%.6g". -/
noncomputable def w6 (k : Int) (n : Nat) (s : ByteArray) : ByteArray := wrT k s ⟨(conv6 n).toArray⟩
noncomputable def cmp6 (ka : Int) (x : Nat) (s : ByteArray) (kb : Int) (y : Nat) (t : ByteArray) : Int :=
  if ka ≠ 2 ∧ kb ≠ 2 then cmpN (numV2 ka x s) (numV2 kb y t) else Lib.compareBytes (w6 ka x s).data.toList (w6 kb y t).data.toList
theorem cmp6_vals (ka : Int) (x : Nat) (s : ByteArray) (kb : Int) (y : Nat) (t : ByteArray) : cmp6 ka x s kb y t = -1 ∨ cmp6 ka x s kb y t = 0 ∨ cmp6 ka x s kb y t = 1 := by
  unfold cmp6
  split
  · rw [cmpN_key]
    split
    · exact Or.inl rfl
    · split
      · exact Or.inr (Or.inr rfl)
      · exact Or.inr (Or.inl rfl)
  · exact (cmp_facts _ _).2.2
theorem cmp6_swap (ka : Int) (x : Nat) (s : ByteArray) (kb : Int) (y : Nat) (t : ByteArray) : cmp6 kb y t ka x s = -cmp6 ka x s kb y t := by
  unfold cmp6
  by_cases h : ka ≠ 2 ∧ kb ≠ 2
  · rw [if_pos h, if_pos ⟨h.2, h.1⟩, cmpN_key, cmpN_key]
    split <;> split <;> (try split) <;> omega
  · rw [if_neg h, if_neg (fun k => h ⟨k.2, k.1⟩)]
    exact cb_swap _ _
theorem cmp6_same (ka : Int) (x : Nat) (s : ByteArray) : cmp6 ka x s ka x s = 0 := by
  have h := cmp6_swap ka x s ka x s
  omega
theorem cmp6_str {ka kb : Int} {x y : Nat} {s t : ByteArray} (h : ¬ (ka ≠ 2 ∧ kb ≠ 2)) : cmp6 ka x s kb y t = Lib.compareBytes (w6 ka x s).data.toList (w6 kb y t).data.toList := if_neg h
theorem cmp6_num {ka kb : Int} {x y : Nat} {s t : ByteArray} (h : ka ≠ 2 ∧ kb ≠ 2) : cmp6 ka x s kb y t = if keyN (numV2 ka x s) < keyN (numV2 kb y t) then -1 else if keyN (numV2 kb y t) < keyN (numV2 ka x s) then 1 else 0 := by
  rw [← cmpN_key]
  exact if_pos h
theorem cmp6_trans {ka kb kc : Int} {x y z : Nat} {s t u : ByteArray} (hk : (ka = 2 ↔ kb = 2) ∧ (kb = 2 ↔ kc = 2)) (h1 : cmp6 ka x s kb y t ≤ 0) (h2 : cmp6 kb y t kc z u ≤ 0) :
    cmp6 ka x s kc z u ≤ 0 ∧ ((cmp6 ka x s kb y t = 0 ∧ cmp6 kb y t kc z u = 0) ↔ cmp6 ka x s kc z u = 0) := by
  by_cases h : ka = 2
  · have hb := hk.1.1 h
    rw [cmp6_str (fun k => k.1 h)] at h1
    rw [cmp6_str (fun k => k.1 hb)] at h2
    rw [cmp6_str (ka := ka) (kb := kb) (fun k => k.1 h), cmp6_str (ka := kb) (kb := kc) (fun k => k.1 hb), cmp6_str (ka := ka) (kb := kc) (fun k => k.1 h)]
    exact cb_trans _ _ _ h1 h2
  · have hb : kb ≠ 2 := fun k => h (hk.1.2 k)
    have hc : kc ≠ 2 := fun k => hb (hk.2.2 k)
    rw [cmp6_num ⟨h, hb⟩] at h1
    rw [cmp6_num ⟨hb, hc⟩] at h2
    rw [cmp6_num (ka := ka) (kb := kb) ⟨h, hb⟩, cmp6_num (ka := kb) (kb := kc) ⟨hb, hc⟩, cmp6_num (ka := ka) (kb := kc) ⟨h, hc⟩]
    generalize keyN (numV2 ka x s) = A at *
    generalize keyN (numV2 kb y t) = B at *
    generalize keyN (numV2 kc z u) = C at *
    clear hk h hb hc
    by_cases q1 : A < B <;> by_cases q2 : B < A <;> by_cases q3 : B < C <;> by_cases q4 : C < B <;> by_cases q5 : A < C <;> by_cases q6 : C < A
    all_goals first
    | (exfalso; omega)
    | (simp only [q1, q2, q3, q4, q5, q6, if_true, if_false] at h1 h2 ⊢; omega)
    | (simp [q1, q2, q3, q4, q5, q6] at h1 h2 ⊢)
/-- Compare by "%.6g". -/
theorem cCompare_6 (ka kb : Int) (x y : Nat) (s t : ByteArray) (w : World) (hx : x < 18446744073709551616) (hy : y < 18446744073709551616) (hs : s.size ≤ 4194304) (ht : t.size ≤ 4194304) (hT : PowTab w) :
    Calls Tryz.prog 25 #[.agg #[.int .i64 ka, .float .f64 x, .string s], .agg #[.int .i64 kb, .float .f64 y, .string t], .string p6g] w fun e w' => e = .returned (.int .i64 (cmp6 ka x s kb y t)) ∧ Below w.heap.size w w' := by
  unfold cmp6
  by_cases h : ka ≠ 2 ∧ kb ≠ 2
  · rw [if_pos h]
    exact cCompare_num ka kb x y s t p6g w h.1 h.2 hs ht
  · rw [if_neg h]
    unfold w6
    exact cCompare_str ka kb x y s t p6g ⟨(conv6 x).toArray⟩ ⟨(conv6 y).toArray⟩ w (by omega) (fun _ W hW => conv_6g x W hx hW) (fun _ W hW => conv_6g y W hy hW) hT
end Go.Proofs.YtmceakbjholjpaaGreatDoor

namespace Go.Proofs.YtmceakbjholjpaaGreatDoor
open Go.RowKit Go.Lib

set_option maxRecDepth 100000 in
set_option maxHeartbeats 4000000 in
theorem cmade_any (k : Int) (n : Nat) (s : ByteArray) (w : World) (h0 : -9223372036854775808 ≤ k) (h1 : k ≤ 9223372036854775807) : Calls Tryz.prog 24 #[.agg #[.int .i64 k, .int .u64 (n : Int), .string s]] w fun e w' => e = .returned (.agg #[.int .i64 k, .float .f64 n, .string s]) ∧ Below w.heap.size w w' := by
  have hfr := run_f64from n
  have fA := (Five.new w #[.int .i64 k, .int .u64 (n : Int), .string s] 49).alloc (.cells #[.int .i64 0, .float .f64 0, .string ⟨#[]⟩] 52)
  have fB := Five.new (w.alloc (.cells #[.int .i64 k, .int .u64 (n : Int), .string s] 49)) #[.int .i64 0, .float .f64 0, .string ⟨#[]⟩] 52
  rw [World.size_alloc] at fB
  have hB0 := ((Below.refl w.heap.size w).alloc (Nat.le_refl _) (.cells #[.int .i64 k, .int .u64 (n : Int), .string s] 49)).alloc (by simp) (.cells #[.int .i64 0, .float .f64 0, .string ⟨#[]⟩] 52)
  obtain ⟨B, hB⟩ : ∃ B, w.heap.size = B := ⟨_, rfl⟩
  obtain ⟨W2, hW2⟩ : ∃ W2, (w.alloc (.cells #[.int .i64 k, .int .u64 (n : Int), .string s] 49)).alloc (.cells #[.int .i64 0, .float .f64 0, .string ⟨#[]⟩] 52) = W2 := ⟨_, rfl⟩
  rw [hW2] at fA fB hB0
  rw [hB] at fA fB hB0 ⊢
  have HB := Lib.hid hB
  have HW2 := Lib.hid hW2
  have FA := Lib.hid fA
  have FB := Lib.hid fB
  have HB0 := Lib.hid hB0
  obtain ⟨a0, a1, a2, -⟩ := FA.out.three
  obtain ⟨b0, b1, b2, f0, f1, f2⟩ := FB.out.three
  have hwr : IntKind.i64.wrap k = k := by rw [IntKind.wrap_i64]; omega
  have hst := run_store_float
  clear hB hW2 fA fB hB0
  go_enter Tryz.func24, Tryz.ntmps24
  go_wp2_with fail
  rw [HW2.out, HB.out]
  go_region_held3 (fun W => W.cell? ⟨B, 0, none⟩ = some (.int .i64 k) ∧ W.cell? ⟨B, 1, none⟩ = some (.int .u64 (n : Int)) ∧ W.cell? ⟨B, 2, none⟩ = some (.string s)) (go_keep) (fail)
  all_goals
    go_wp2_with fail
    clear a0 a1 a2 b0 b1 b2 f0 f1 f2
    have z := ((FB.out.set (j := 0) (u := .int .i64 k)).set (j := 1) (u := .float .f64 n)).set (j := 2) (u := .string s)
    have hz := (((HB0.out.setCell (p := ⟨B + 1, 0, none⟩) (Nat.le_succ _) (.int .i64 k)).setCell (p := ⟨B + 1, 1, none⟩) (Nat.le_succ _) (.float .f64 n)).setCell (p := ⟨B + 1, 2, none⟩) (Nat.le_succ _) (.string s)).drew
    obtain ⟨q0, q1, q2, -⟩ := z.three
    exact bodyPost_ret (v := .agg #[.int .i64 k, .float .f64 n, .string s]) (by simp [results, Tryz.results24, go_sem, q0, q1, q2]) rfl ⟨rfl, hz⟩
end Go.Proofs.YtmceakbjholjpaaGreatDoor

namespace Go.Proofs.YtmceakbjholjpaaGreatDoor
open Go.RowKit Go.Lib

/-- A region that draws its order, by what holds at each state: one goal for each operation, not for each order. -/
theorem wpAnyH_inv {P : Program} {md : Region.Mode} {ops : Array Oper} {Q : Exit → Act → World → Prop} {S : World → Prop} (Inv : Nat → Array Bool → Act → World → Prop) (m : Nat)
    (step : ∀ n L a w, Inv (n + 1) L a w → Region.ready md ops L ≠ [] ∧ ∀ i ∈ Region.ready md ops L, wpOp P ops Q i (fun a' w' => S w' ∧ Inv n (L.setIfInBounds i true) a' w') a w)
    (fin : ∀ L a w, Inv 0 L a w → wpAnyH P md ops Q S m L a w) : ∀ n L a w, Inv n L a w → wpAnyH P md ops Q S (m + n) L a w
  | 0, L, a, w, h => fin L a w h
  | n + 1, L, a, w, h => by
    obtain ⟨h1, h2⟩ := step n L a w h
    exact ⟨fun h0 => absurd h0 h1, fun i hi => wpOp_mono (fun a' w' h' => ⟨h'.1, wpAnyH_inv Inv m step fin n _ _ _ h'.2⟩) (h2 i hi)⟩
/-- Three variables, of which some are made. -/
def zCell : Obj := .cells #[.int .i64 0, .float .f64 0, .string ⟨#[]⟩] 52
structure Zs3 (W0 W : World) (o7 o8 o9 : Option Nat) : Prop where
  below : Below W0.heap.size W0 W
  c7 : ∀ g, o7 = some g → Five W g #[.int .i64 0, .float .f64 0, .string ⟨#[]⟩] 52 ∧ W0.heap.size ≤ g
  c8 : ∀ g, o8 = some g → Five W g #[.int .i64 0, .float .f64 0, .string ⟨#[]⟩] 52 ∧ W0.heap.size ≤ g
  c9 : ∀ g, o9 = some g → Five W g #[.int .i64 0, .float .f64 0, .string ⟨#[]⟩] 52 ∧ W0.heap.size ≤ g
  n78 : ∀ g h, o7 = some g → o8 = some h → g ≠ h
  n79 : ∀ g h, o7 = some g → o9 = some h → g ≠ h
  n89 : ∀ g h, o8 = some g → o9 = some h → g ≠ h
theorem Zs3.call {W0 W X : World} {o7 o8 o9 : Option Nat} (h : Zs3 W0 W o7 o8 o9) (b : Below W.heap.size W X) : Zs3 W0 X o7 o8 o9 :=
  ⟨h.below.trans (b.mono h.below.size), fun g e => ⟨(h.c7 g e).1.below b, (h.c7 g e).2⟩, fun g e => ⟨(h.c8 g e).1.below b, (h.c8 g e).2⟩, fun g e => ⟨(h.c9 g e).1.below b, (h.c9 g e).2⟩, h.n78, h.n79, h.n89⟩
theorem Zs3.new7 {W0 W : World} {o8 o9 : Option Nat} (h : Zs3 W0 W none o8 o9) : Zs3 W0 (W.alloc zCell) (some W.heap.size) o8 o9 :=
  ⟨h.below.alloc h.below.size _, fun g e => by obtain rfl := Option.some.inj e; exact ⟨Five.new _ _ _, h.below.size⟩, fun g e => ⟨(h.c8 g e).1.alloc _, (h.c8 g e).2⟩, fun g e => ⟨(h.c9 g e).1.alloc _, (h.c9 g e).2⟩,
    fun g k e e2 => by obtain rfl := Option.some.inj e; exact Nat.ne_of_gt (h.c8 k e2).1.lt, fun g k e e2 => by obtain rfl := Option.some.inj e; exact Nat.ne_of_gt (h.c9 k e2).1.lt, h.n89⟩
theorem Zs3.new8 {W0 W : World} {o7 o9 : Option Nat} (h : Zs3 W0 W o7 none o9) : Zs3 W0 (W.alloc zCell) o7 (some W.heap.size) o9 :=
  ⟨h.below.alloc h.below.size _, fun g e => ⟨(h.c7 g e).1.alloc _, (h.c7 g e).2⟩, fun g e => by obtain rfl := Option.some.inj e; exact ⟨Five.new _ _ _, h.below.size⟩, fun g e => ⟨(h.c9 g e).1.alloc _, (h.c9 g e).2⟩,
    fun g k e e2 => by obtain rfl := Option.some.inj e2; exact Nat.ne_of_lt (h.c7 g e).1.lt, h.n79, fun g k e e2 => by obtain rfl := Option.some.inj e; exact Nat.ne_of_gt (h.c9 k e2).1.lt⟩
theorem Zs3.new9 {W0 W : World} {o7 o8 : Option Nat} (h : Zs3 W0 W o7 o8 none) : Zs3 W0 (W.alloc zCell) o7 o8 (some W.heap.size) :=
  ⟨h.below.alloc h.below.size _, fun g e => ⟨(h.c7 g e).1.alloc _, (h.c7 g e).2⟩, fun g e => ⟨(h.c8 g e).1.alloc _, (h.c8 g e).2⟩, fun g e => by obtain rfl := Option.some.inj e; exact ⟨Five.new _ _ _, h.below.size⟩,
    h.n78, fun g k e e2 => by obtain rfl := Option.some.inj e2; exact Nat.ne_of_lt (h.c7 g e).1.lt, fun g k e e2 => by obtain rfl := Option.some.inj e2; exact Nat.ne_of_lt (h.c8 g e).1.lt⟩
def sl (o : Option Nat) : Value := match o with
  | some g => .pointer (some ⟨g, 0, none⟩)
  | none => undef
def atC (k c : Nat) (v : Value) : Value := if k ≤ c then v else undef
def cnt3 (c : Nat) (o7 o8 o9 : Option Nat) : Nat := (3 - c) + (if o7.isSome then 0 else 1) + (if o8.isSome then 0 else 1) + (if o9.isSome then 0 else 1)
def Lf (c : Nat) (o7 o8 o9 : Option Nat) : Array Bool := #[true, decide (1 ≤ c), true, decide (2 ≤ c), true, decide (3 ≤ c), o7.isSome, o8.isSome, o9.isSome, false, false, false]
def ordOps : Array Oper := #[{ dst := some 28, op := Op.load 49 (Operand.tmp 3), type := 49, pos := "law.go:68", after := #[], guard := none }, { dst := some 29, op := Op.call { callee := Callee.value (Operand.func 24), args := #[Operand.tmp 28], argTypes := #[49] }, type := 52, pos := "law.go:68", after := #[{ on := 0, ground := Ground.data }], guard := none }, { dst := some 30, op := Op.load 49 (Operand.tmp 4), type := 49, pos := "law.go:68", after := #[], guard := none }, { dst := some 31, op := Op.call { callee := Callee.value (Operand.func 24), args := #[Operand.tmp 30], argTypes := #[49] }, type := 52, pos := "law.go:68", after := #[{ on := 2, ground := Ground.data }, { on := 1, ground := Ground.chain }], guard := none }, { dst := some 32, op := Op.load 49 (Operand.tmp 5), type := 49, pos := "law.go:68", after := #[], guard := none }, { dst := some 33, op := Op.call { callee := Callee.value (Operand.func 24), args := #[Operand.tmp 32], argTypes := #[49] }, type := 52, pos := "law.go:68", after := #[{ on := 4, ground := Ground.data }, { on := 3, ground := Ground.chain }], guard := none }, { dst := some 7, op := Op.alloc 52, type := 0, pos := "law.go:68", after := #[], guard := none }, { dst := some 8, op := Op.alloc 52, type := 0, pos := "law.go:68", after := #[], guard := none }, { dst := some 9, op := Op.alloc 52, type := 0, pos := "law.go:68", after := #[], guard := none }, { dst := none, op := Op.store 52 (Operand.tmp 7) (Operand.tmp 29), type := 0, pos := "law.go:68", after := #[{ on := 6, ground := Ground.data }, { on := 1, ground := Ground.data }, { on := 5, ground := Ground.chain }, { on := 0, ground := Ground.phase }, { on := 1, ground := Ground.phase }, { on := 2, ground := Ground.textOnly Departure.lateStores }, { on := 3, ground := Ground.textOnly Departure.lateStoresUnsure }, { on := 4, ground := Ground.textOnly Departure.lateStores }, { on := 5, ground := Ground.textOnly Departure.lateStoresUnsure }, { on := 6, ground := Ground.phase }, { on := 7, ground := Ground.phase }, { on := 8, ground := Ground.phase }], guard := none }, { dst := none, op := Op.store 52 (Operand.tmp 8) (Operand.tmp 31), type := 0, pos := "law.go:68", after := #[{ on := 7, ground := Ground.data }, { on := 3, ground := Ground.data }, { on := 9, ground := Ground.chain }, { on := 0, ground := Ground.phase }, { on := 1, ground := Ground.phase }, { on := 2, ground := Ground.phase }, { on := 3, ground := Ground.phase }, { on := 4, ground := Ground.textOnly Departure.lateStores }, { on := 5, ground := Ground.textOnly Departure.lateStoresUnsure }, { on := 6, ground := Ground.phase }, { on := 7, ground := Ground.phase }, { on := 8, ground := Ground.phase }, { on := 9, ground := Ground.phase }], guard := none }, { dst := none, op := Op.store 52 (Operand.tmp 9) (Operand.tmp 33), type := 0, pos := "law.go:68", after := #[{ on := 8, ground := Ground.data }, { on := 5, ground := Ground.data }, { on := 10, ground := Ground.chain }, { on := 0, ground := Ground.phase }, { on := 1, ground := Ground.phase }, { on := 2, ground := Ground.phase }, { on := 3, ground := Ground.phase }, { on := 4, ground := Ground.phase }, { on := 5, ground := Ground.phase }, { on := 6, ground := Ground.phase }, { on := 7, ground := Ground.phase }, { on := 8, ground := Ground.phase }, { on := 9, ground := Ground.phase }, { on := 10, ground := Ground.phase }], guard := none }]
def ordFr (ka kb kc : Int) (x y z : Nat) (s t u : ByteArray) (B : Nat) (c : Nat) (o7 o8 o9 : Option Nat) : Act := { tmps := #[.agg #[.int .i64 ka, .int .u64 (x : Int), .string s], .agg #[.int .i64 kb, .int .u64 (y : Int), .string t], .agg #[.int .i64 kc, .int .u64 (z : Int), .string u], .pointer (some ⟨B, 0, none⟩), .pointer (some ⟨B + 1, 0, none⟩), .pointer (some ⟨B + 1 + 1, 0, none⟩), .bool false, sl o7, sl o8, sl o9, undef, undef, undef, undef, .bool true, .bool false, .pointer (some ⟨B, 2, none⟩), .string s, .int .i64 (s.size : Int), .pointer (some ⟨B + 1, 2, none⟩), .string t, .int .i64 (t.size : Int), .int .i64 ((s.size : Int) + (t.size : Int)), .pointer (some ⟨B + 1 + 1, 2, none⟩), .string u, .int .i64 (u.size : Int), .int .i64 ((s.size : Int) + (t.size : Int) + (u.size : Int)), .bool false, .agg #[.int .i64 ka, .int .u64 (x : Int), .string s], atC 1 c (.agg #[.int .i64 ka, .float .f64 x, .string s]), .agg #[.int .i64 kb, .int .u64 (y : Int), .string t], atC 2 c (.agg #[.int .i64 kb, .float .f64 y, .string t]), .agg #[.int .i64 kc, .int .u64 (z : Int), .string u], atC 3 c (.agg #[.int .i64 kc, .float .f64 z, .string u]), undef, undef, undef, undef, undef, undef, undef, undef, undef, undef, undef, undef, undef, undef, undef, undef, undef, undef, undef, undef, undef, undef, undef, undef, undef, undef, undef, undef, undef, undef, undef, undef, undef, undef, undef, undef, undef, undef, undef, undef, undef, undef, undef, undef, undef, undef, undef, undef, undef, undef, undef, undef, undef, undef, undef, undef, undef, undef, undef, undef, undef, undef, undef], defers := [] }
def OrdInv (ka kb kc : Int) (x y z : Nat) (s t u : ByteArray) (B : Nat) (W0 : World) (n : Nat) (L : Array Bool) (a : Act) (W : World) : Prop := ∃ c o7 o8 o9, c ≤ 3 ∧ n = cnt3 c o7 o8 o9 ∧ L = Lf c o7 o8 o9 ∧ a = ordFr ka kb kc x y z s t u B c o7 o8 o9 ∧ Zs3 W0 W o7 o8 o9
set_option maxRecDepth 100000 in
set_option maxHeartbeats 4000000 in
theorem ord_call1 {Q : Exit → Act → World → Prop} (ka kb kc : Int) (x y z : Nat) (s t u : ByteArray) (B : Nat) (W0 W : World) (n : Nat) (o7 o8 o9 : Option Nat) (hn : n = cnt3 1 o7 o8 o9) (h : Zs3 W0 W o7 o8 o9)
    (hc : ∀ W, Calls Tryz.prog 24 #[.agg #[.int .i64 ka, .int .u64 (x : Int), .string s]] W fun e w' => e = .returned (.agg #[.int .i64 ka, .float .f64 x, .string s]) ∧ Below W.heap.size W w') :
    wpOp Tryz.prog ordOps Q 1 (fun a' w' => Below W0.heap.size W0 w' ∧ OrdInv ka kb kc x y z s t u B W0 n ((Lf 0 o7 o8 o9).setIfInBounds 1 true) a' w') (ordFr ka kb kc x y z s t u B 0 o7 o8 o9) W := by
  refine wpOp_step (o := ({ dst := some 29, op := Op.call { callee := Callee.value (Operand.func 24), args := #[Operand.tmp 28], argTypes := #[49] }, type := 52, pos := "law.go:68", after := #[{ on := 0, ground := Ground.data }], guard := none } : Oper)) rfl (fun K hK => ?_)
  rw [if_pos (by rfl)]
  have hrun : (execOp (ordFr ka kb kc x y z s t u B 0 o7 o8 o9).eval ({ dst := some 29, op := Op.call { callee := Callee.value (Operand.func 24), args := #[Operand.tmp 28], argTypes := #[49] }, type := 52, pos := "law.go:68", after := #[{ on := 0, ground := Ground.data }], guard := none } : Oper)).run Tryz.prog W = .ok (.enter 24 #[.agg #[.int .i64 ka, .int .u64 (x : Int), .string s]]) W := by
    unfold ordFr
    go_simp
  unfold Oper.wp
  rw [hrun, Oper.upon_enter]
  refine (hc W).mono ?_
  rintro e w' ⟨rfl, hb⟩
  have h2 := h.call hb
  exact hK _ _ ⟨h2.below, 1, o7, o8, o9, by omega, hn, rfl, rfl, h2⟩
set_option maxRecDepth 100000 in
set_option maxHeartbeats 4000000 in
theorem ord_call2 {Q : Exit → Act → World → Prop} (ka kb kc : Int) (x y z : Nat) (s t u : ByteArray) (B : Nat) (W0 W : World) (n : Nat) (o7 o8 o9 : Option Nat) (hn : n = cnt3 2 o7 o8 o9) (h : Zs3 W0 W o7 o8 o9)
    (hc : ∀ W, Calls Tryz.prog 24 #[.agg #[.int .i64 kb, .int .u64 (y : Int), .string t]] W fun e w' => e = .returned (.agg #[.int .i64 kb, .float .f64 y, .string t]) ∧ Below W.heap.size W w') :
    wpOp Tryz.prog ordOps Q 3 (fun a' w' => Below W0.heap.size W0 w' ∧ OrdInv ka kb kc x y z s t u B W0 n ((Lf 1 o7 o8 o9).setIfInBounds 3 true) a' w') (ordFr ka kb kc x y z s t u B 1 o7 o8 o9) W := by
  refine wpOp_step (o := ({ dst := some 31, op := Op.call { callee := Callee.value (Operand.func 24), args := #[Operand.tmp 30], argTypes := #[49] }, type := 52, pos := "law.go:68", after := #[{ on := 2, ground := Ground.data }, { on := 1, ground := Ground.chain }], guard := none } : Oper)) rfl (fun K hK => ?_)
  rw [if_pos (by rfl)]
  have hrun : (execOp (ordFr ka kb kc x y z s t u B 1 o7 o8 o9).eval ({ dst := some 31, op := Op.call { callee := Callee.value (Operand.func 24), args := #[Operand.tmp 30], argTypes := #[49] }, type := 52, pos := "law.go:68", after := #[{ on := 2, ground := Ground.data }, { on := 1, ground := Ground.chain }], guard := none } : Oper)).run Tryz.prog W = .ok (.enter 24 #[.agg #[.int .i64 kb, .int .u64 (y : Int), .string t]]) W := by
    unfold ordFr
    go_simp
  unfold Oper.wp
  rw [hrun, Oper.upon_enter]
  refine (hc W).mono ?_
  rintro e w' ⟨rfl, hb⟩
  have h2 := h.call hb
  exact hK _ _ ⟨h2.below, 2, o7, o8, o9, by omega, hn, rfl, rfl, h2⟩
set_option maxRecDepth 100000 in
set_option maxHeartbeats 4000000 in
theorem ord_call3 {Q : Exit → Act → World → Prop} (ka kb kc : Int) (x y z : Nat) (s t u : ByteArray) (B : Nat) (W0 W : World) (n : Nat) (o7 o8 o9 : Option Nat) (hn : n = cnt3 3 o7 o8 o9) (h : Zs3 W0 W o7 o8 o9)
    (hc : ∀ W, Calls Tryz.prog 24 #[.agg #[.int .i64 kc, .int .u64 (z : Int), .string u]] W fun e w' => e = .returned (.agg #[.int .i64 kc, .float .f64 z, .string u]) ∧ Below W.heap.size W w') :
    wpOp Tryz.prog ordOps Q 5 (fun a' w' => Below W0.heap.size W0 w' ∧ OrdInv ka kb kc x y z s t u B W0 n ((Lf 2 o7 o8 o9).setIfInBounds 5 true) a' w') (ordFr ka kb kc x y z s t u B 2 o7 o8 o9) W := by
  refine wpOp_step (o := ({ dst := some 33, op := Op.call { callee := Callee.value (Operand.func 24), args := #[Operand.tmp 32], argTypes := #[49] }, type := 52, pos := "law.go:68", after := #[{ on := 4, ground := Ground.data }, { on := 3, ground := Ground.chain }], guard := none } : Oper)) rfl (fun K hK => ?_)
  rw [if_pos (by rfl)]
  have hrun : (execOp (ordFr ka kb kc x y z s t u B 2 o7 o8 o9).eval ({ dst := some 33, op := Op.call { callee := Callee.value (Operand.func 24), args := #[Operand.tmp 32], argTypes := #[49] }, type := 52, pos := "law.go:68", after := #[{ on := 4, ground := Ground.data }, { on := 3, ground := Ground.chain }], guard := none } : Oper)).run Tryz.prog W = .ok (.enter 24 #[.agg #[.int .i64 kc, .int .u64 (z : Int), .string u]]) W := by
    unfold ordFr
    go_simp
  unfold Oper.wp
  rw [hrun, Oper.upon_enter]
  refine (hc W).mono ?_
  rintro e w' ⟨rfl, hb⟩
  have h2 := h.call hb
  exact hK _ _ ⟨h2.below, 3, o7, o8, o9, by omega, hn, rfl, rfl, h2⟩
set_option maxRecDepth 100000 in
set_option maxHeartbeats 4000000 in
theorem ord_new7 {Q : Exit → Act → World → Prop} (ka kb kc : Int) (x y z : Nat) (s t u : ByteArray) (B : Nat) (W0 W : World) (n c : Nat) (o8 o9 : Option Nat) (hc : c ≤ 3) (hn : n = cnt3 c (some W.heap.size) o8 o9) (h : Zs3 W0 W none o8 o9) :
    wpOp Tryz.prog ordOps Q 6 (fun a' w' => Below W0.heap.size W0 w' ∧ OrdInv ka kb kc x y z s t u B W0 n ((Lf c none o8 o9).setIfInBounds 6 true) a' w') (ordFr ka kb kc x y z s t u B c none o8 o9) W := by
  refine wpOp_step (o := ({ dst := some 7, op := Op.alloc 52, type := 0, pos := "law.go:68", after := #[], guard := none } : Oper)) rfl (fun K hK => ?_)
  rw [if_pos (by rfl)]
  have hrun : (execOp (ordFr ka kb kc x y z s t u B c none o8 o9).eval ({ dst := some 7, op := Op.alloc 52, type := 0, pos := "law.go:68", after := #[], guard := none } : Oper)).run Tryz.prog W = .ok (.value (.pointer (some ⟨W.heap.size, 0, none⟩))) (W.alloc zCell) := by
    unfold ordFr zCell
    go_simp
  unfold Oper.wp
  rw [hrun, Oper.upon_value]
  have h2 := h.new7
  exact hK _ _ ⟨h2.below, c, (some W.heap.size), o8, o9, hc, hn, rfl, rfl, h2⟩
set_option maxRecDepth 100000 in
set_option maxHeartbeats 4000000 in
theorem ord_new8 {Q : Exit → Act → World → Prop} (ka kb kc : Int) (x y z : Nat) (s t u : ByteArray) (B : Nat) (W0 W : World) (n c : Nat) (o7 o9 : Option Nat) (hc : c ≤ 3) (hn : n = cnt3 c o7 (some W.heap.size) o9) (h : Zs3 W0 W o7 none o9) :
    wpOp Tryz.prog ordOps Q 7 (fun a' w' => Below W0.heap.size W0 w' ∧ OrdInv ka kb kc x y z s t u B W0 n ((Lf c o7 none o9).setIfInBounds 7 true) a' w') (ordFr ka kb kc x y z s t u B c o7 none o9) W := by
  refine wpOp_step (o := ({ dst := some 8, op := Op.alloc 52, type := 0, pos := "law.go:68", after := #[], guard := none } : Oper)) rfl (fun K hK => ?_)
  rw [if_pos (by rfl)]
  have hrun : (execOp (ordFr ka kb kc x y z s t u B c o7 none o9).eval ({ dst := some 8, op := Op.alloc 52, type := 0, pos := "law.go:68", after := #[], guard := none } : Oper)).run Tryz.prog W = .ok (.value (.pointer (some ⟨W.heap.size, 0, none⟩))) (W.alloc zCell) := by
    unfold ordFr zCell
    go_simp
  unfold Oper.wp
  rw [hrun, Oper.upon_value]
  have h2 := h.new8
  exact hK _ _ ⟨h2.below, c, o7, (some W.heap.size), o9, hc, hn, rfl, rfl, h2⟩
set_option maxRecDepth 100000 in
set_option maxHeartbeats 4000000 in
theorem ord_new9 {Q : Exit → Act → World → Prop} (ka kb kc : Int) (x y z : Nat) (s t u : ByteArray) (B : Nat) (W0 W : World) (n c : Nat) (o7 o8 : Option Nat) (hc : c ≤ 3) (hn : n = cnt3 c o7 o8 (some W.heap.size)) (h : Zs3 W0 W o7 o8 none) :
    wpOp Tryz.prog ordOps Q 8 (fun a' w' => Below W0.heap.size W0 w' ∧ OrdInv ka kb kc x y z s t u B W0 n ((Lf c o7 o8 none).setIfInBounds 8 true) a' w') (ordFr ka kb kc x y z s t u B c o7 o8 none) W := by
  refine wpOp_step (o := ({ dst := some 9, op := Op.alloc 52, type := 0, pos := "law.go:68", after := #[], guard := none } : Oper)) rfl (fun K hK => ?_)
  rw [if_pos (by rfl)]
  have hrun : (execOp (ordFr ka kb kc x y z s t u B c o7 o8 none).eval ({ dst := some 9, op := Op.alloc 52, type := 0, pos := "law.go:68", after := #[], guard := none } : Oper)).run Tryz.prog W = .ok (.value (.pointer (some ⟨W.heap.size, 0, none⟩))) (W.alloc zCell) := by
    unfold ordFr zCell
    go_simp
  unfold Oper.wp
  rw [hrun, Oper.upon_value]
  have h2 := h.new9
  exact hK _ _ ⟨h2.below, c, o7, o8, (some W.heap.size), hc, hn, rfl, rfl, h2⟩
set_option maxRecDepth 100000 in
set_option maxHeartbeats 4000000 in
theorem ord_all {Q : Exit → Act → World → Prop} (ka kb kc : Int) (x y z : Nat) (s t u : ByteArray) (B : Nat) (W0 W : World)
    (ca : ∀ W, Calls Tryz.prog 24 #[.agg #[.int .i64 ka, .int .u64 (x : Int), .string s]] W fun e w' => e = .returned (.agg #[.int .i64 ka, .float .f64 x, .string s]) ∧ Below W.heap.size W w')
    (cb : ∀ W, Calls Tryz.prog 24 #[.agg #[.int .i64 kb, .int .u64 (y : Int), .string t]] W fun e w' => e = .returned (.agg #[.int .i64 kb, .float .f64 y, .string t]) ∧ Below W.heap.size W w')
    (cc : ∀ W, Calls Tryz.prog 24 #[.agg #[.int .i64 kc, .int .u64 (z : Int), .string u]] W fun e w' => e = .returned (.agg #[.int .i64 kc, .float .f64 z, .string u]) ∧ Below W.heap.size W w')
    (fin : ∀ W g7 g8 g9, Zs3 W0 W (some g7) (some g8) (some g9) → wpAnyH Tryz.prog .any ordOps Q (fun w' => Below W0.heap.size W0 w') 3 (Lf 3 (some g7) (some g8) (some g9)) (ordFr ka kb kc x y z s t u B 3 (some g7) (some g8) (some g9)) W)
    (h : Zs3 W0 W none none none) : wpAnyH Tryz.prog .any ordOps Q (fun w' => Below W0.heap.size W0 w') 9 (Lf 0 none none none) (ordFr ka kb kc x y z s t u B 0 none none none) W := by
  refine wpAnyH_inv (OrdInv ka kb kc x y z s t u B W0) 3 ?_ ?_ 6 _ _ _ ⟨0, none, none, none, by omega, rfl, rfl, rfl, h⟩
  · rintro n L a w ⟨c, o7, o8, o9, hc, hn, rfl, rfl, hz⟩
    have hcase : c = 0 ∨ c = 1 ∨ c = 2 ∨ c = 3 := by omega
    rcases hcase with rfl | rfl | rfl | rfl <;> rcases o7 with _ | g7 <;> rcases o8 with _ | g8 <;> rcases o9 with _ | g9
    · have hr : Region.ready .any ordOps (Lf 0 none none none) = [1, 6, 7, 8] := by kernel_rfl
      rw [hr]
      refine ⟨by simp, fun i hi => ?_⟩
      simp only [List.mem_cons, List.not_mem_nil, or_false] at hi
      rcases hi with rfl | rfl | rfl | rfl
      · exact ord_call1 ka kb kc x y z s t u B W0 w n _ _ _ (by unfold cnt3 at hn ⊢; simp at hn ⊢; omega) hz ca
      · exact ord_new7 ka kb kc x y z s t u B W0 w n _ _ _ (by omega) (by unfold cnt3 at hn ⊢; simp at hn ⊢; omega) hz
      · exact ord_new8 ka kb kc x y z s t u B W0 w n _ _ _ (by omega) (by unfold cnt3 at hn ⊢; simp at hn ⊢; omega) hz
      · exact ord_new9 ka kb kc x y z s t u B W0 w n _ _ _ (by omega) (by unfold cnt3 at hn ⊢; simp at hn ⊢; omega) hz
    · have hr : Region.ready .any ordOps (Lf 0 none none (some g9)) = [1, 6, 7] := by kernel_rfl
      rw [hr]
      refine ⟨by simp, fun i hi => ?_⟩
      simp only [List.mem_cons, List.not_mem_nil, or_false] at hi
      rcases hi with rfl | rfl | rfl
      · exact ord_call1 ka kb kc x y z s t u B W0 w n _ _ _ (by unfold cnt3 at hn ⊢; simp at hn ⊢; omega) hz ca
      · exact ord_new7 ka kb kc x y z s t u B W0 w n _ _ _ (by omega) (by unfold cnt3 at hn ⊢; simp at hn ⊢; omega) hz
      · exact ord_new8 ka kb kc x y z s t u B W0 w n _ _ _ (by omega) (by unfold cnt3 at hn ⊢; simp at hn ⊢; omega) hz
    · have hr : Region.ready .any ordOps (Lf 0 none (some g8) none) = [1, 6, 8] := by kernel_rfl
      rw [hr]
      refine ⟨by simp, fun i hi => ?_⟩
      simp only [List.mem_cons, List.not_mem_nil, or_false] at hi
      rcases hi with rfl | rfl | rfl
      · exact ord_call1 ka kb kc x y z s t u B W0 w n _ _ _ (by unfold cnt3 at hn ⊢; simp at hn ⊢; omega) hz ca
      · exact ord_new7 ka kb kc x y z s t u B W0 w n _ _ _ (by omega) (by unfold cnt3 at hn ⊢; simp at hn ⊢; omega) hz
      · exact ord_new9 ka kb kc x y z s t u B W0 w n _ _ _ (by omega) (by unfold cnt3 at hn ⊢; simp at hn ⊢; omega) hz
    · have hr : Region.ready .any ordOps (Lf 0 none (some g8) (some g9)) = [1, 6] := by kernel_rfl
      rw [hr]
      refine ⟨by simp, fun i hi => ?_⟩
      simp only [List.mem_cons, List.not_mem_nil, or_false] at hi
      rcases hi with rfl | rfl
      · exact ord_call1 ka kb kc x y z s t u B W0 w n _ _ _ (by unfold cnt3 at hn ⊢; simp at hn ⊢; omega) hz ca
      · exact ord_new7 ka kb kc x y z s t u B W0 w n _ _ _ (by omega) (by unfold cnt3 at hn ⊢; simp at hn ⊢; omega) hz
    · have hr : Region.ready .any ordOps (Lf 0 (some g7) none none) = [1, 7, 8] := by kernel_rfl
      rw [hr]
      refine ⟨by simp, fun i hi => ?_⟩
      simp only [List.mem_cons, List.not_mem_nil, or_false] at hi
      rcases hi with rfl | rfl | rfl
      · exact ord_call1 ka kb kc x y z s t u B W0 w n _ _ _ (by unfold cnt3 at hn ⊢; simp at hn ⊢; omega) hz ca
      · exact ord_new8 ka kb kc x y z s t u B W0 w n _ _ _ (by omega) (by unfold cnt3 at hn ⊢; simp at hn ⊢; omega) hz
      · exact ord_new9 ka kb kc x y z s t u B W0 w n _ _ _ (by omega) (by unfold cnt3 at hn ⊢; simp at hn ⊢; omega) hz
    · have hr : Region.ready .any ordOps (Lf 0 (some g7) none (some g9)) = [1, 7] := by kernel_rfl
      rw [hr]
      refine ⟨by simp, fun i hi => ?_⟩
      simp only [List.mem_cons, List.not_mem_nil, or_false] at hi
      rcases hi with rfl | rfl
      · exact ord_call1 ka kb kc x y z s t u B W0 w n _ _ _ (by unfold cnt3 at hn ⊢; simp at hn ⊢; omega) hz ca
      · exact ord_new8 ka kb kc x y z s t u B W0 w n _ _ _ (by omega) (by unfold cnt3 at hn ⊢; simp at hn ⊢; omega) hz
    · have hr : Region.ready .any ordOps (Lf 0 (some g7) (some g8) none) = [1, 8] := by kernel_rfl
      rw [hr]
      refine ⟨by simp, fun i hi => ?_⟩
      simp only [List.mem_cons, List.not_mem_nil, or_false] at hi
      rcases hi with rfl | rfl
      · exact ord_call1 ka kb kc x y z s t u B W0 w n _ _ _ (by unfold cnt3 at hn ⊢; simp at hn ⊢; omega) hz ca
      · exact ord_new9 ka kb kc x y z s t u B W0 w n _ _ _ (by omega) (by unfold cnt3 at hn ⊢; simp at hn ⊢; omega) hz
    · have hr : Region.ready .any ordOps (Lf 0 (some g7) (some g8) (some g9)) = [1] := by kernel_rfl
      rw [hr]
      refine ⟨by simp, fun i hi => ?_⟩
      simp only [List.mem_cons, List.not_mem_nil, or_false] at hi
      subst hi
      · exact ord_call1 ka kb kc x y z s t u B W0 w n _ _ _ (by unfold cnt3 at hn ⊢; simp at hn ⊢; omega) hz ca
    · have hr : Region.ready .any ordOps (Lf 1 none none none) = [3, 6, 7, 8] := by kernel_rfl
      rw [hr]
      refine ⟨by simp, fun i hi => ?_⟩
      simp only [List.mem_cons, List.not_mem_nil, or_false] at hi
      rcases hi with rfl | rfl | rfl | rfl
      · exact ord_call2 ka kb kc x y z s t u B W0 w n _ _ _ (by unfold cnt3 at hn ⊢; simp at hn ⊢; omega) hz cb
      · exact ord_new7 ka kb kc x y z s t u B W0 w n _ _ _ (by omega) (by unfold cnt3 at hn ⊢; simp at hn ⊢; omega) hz
      · exact ord_new8 ka kb kc x y z s t u B W0 w n _ _ _ (by omega) (by unfold cnt3 at hn ⊢; simp at hn ⊢; omega) hz
      · exact ord_new9 ka kb kc x y z s t u B W0 w n _ _ _ (by omega) (by unfold cnt3 at hn ⊢; simp at hn ⊢; omega) hz
    · have hr : Region.ready .any ordOps (Lf 1 none none (some g9)) = [3, 6, 7] := by kernel_rfl
      rw [hr]
      refine ⟨by simp, fun i hi => ?_⟩
      simp only [List.mem_cons, List.not_mem_nil, or_false] at hi
      rcases hi with rfl | rfl | rfl
      · exact ord_call2 ka kb kc x y z s t u B W0 w n _ _ _ (by unfold cnt3 at hn ⊢; simp at hn ⊢; omega) hz cb
      · exact ord_new7 ka kb kc x y z s t u B W0 w n _ _ _ (by omega) (by unfold cnt3 at hn ⊢; simp at hn ⊢; omega) hz
      · exact ord_new8 ka kb kc x y z s t u B W0 w n _ _ _ (by omega) (by unfold cnt3 at hn ⊢; simp at hn ⊢; omega) hz
    · have hr : Region.ready .any ordOps (Lf 1 none (some g8) none) = [3, 6, 8] := by kernel_rfl
      rw [hr]
      refine ⟨by simp, fun i hi => ?_⟩
      simp only [List.mem_cons, List.not_mem_nil, or_false] at hi
      rcases hi with rfl | rfl | rfl
      · exact ord_call2 ka kb kc x y z s t u B W0 w n _ _ _ (by unfold cnt3 at hn ⊢; simp at hn ⊢; omega) hz cb
      · exact ord_new7 ka kb kc x y z s t u B W0 w n _ _ _ (by omega) (by unfold cnt3 at hn ⊢; simp at hn ⊢; omega) hz
      · exact ord_new9 ka kb kc x y z s t u B W0 w n _ _ _ (by omega) (by unfold cnt3 at hn ⊢; simp at hn ⊢; omega) hz
    · have hr : Region.ready .any ordOps (Lf 1 none (some g8) (some g9)) = [3, 6] := by kernel_rfl
      rw [hr]
      refine ⟨by simp, fun i hi => ?_⟩
      simp only [List.mem_cons, List.not_mem_nil, or_false] at hi
      rcases hi with rfl | rfl
      · exact ord_call2 ka kb kc x y z s t u B W0 w n _ _ _ (by unfold cnt3 at hn ⊢; simp at hn ⊢; omega) hz cb
      · exact ord_new7 ka kb kc x y z s t u B W0 w n _ _ _ (by omega) (by unfold cnt3 at hn ⊢; simp at hn ⊢; omega) hz
    · have hr : Region.ready .any ordOps (Lf 1 (some g7) none none) = [3, 7, 8] := by kernel_rfl
      rw [hr]
      refine ⟨by simp, fun i hi => ?_⟩
      simp only [List.mem_cons, List.not_mem_nil, or_false] at hi
      rcases hi with rfl | rfl | rfl
      · exact ord_call2 ka kb kc x y z s t u B W0 w n _ _ _ (by unfold cnt3 at hn ⊢; simp at hn ⊢; omega) hz cb
      · exact ord_new8 ka kb kc x y z s t u B W0 w n _ _ _ (by omega) (by unfold cnt3 at hn ⊢; simp at hn ⊢; omega) hz
      · exact ord_new9 ka kb kc x y z s t u B W0 w n _ _ _ (by omega) (by unfold cnt3 at hn ⊢; simp at hn ⊢; omega) hz
    · have hr : Region.ready .any ordOps (Lf 1 (some g7) none (some g9)) = [3, 7] := by kernel_rfl
      rw [hr]
      refine ⟨by simp, fun i hi => ?_⟩
      simp only [List.mem_cons, List.not_mem_nil, or_false] at hi
      rcases hi with rfl | rfl
      · exact ord_call2 ka kb kc x y z s t u B W0 w n _ _ _ (by unfold cnt3 at hn ⊢; simp at hn ⊢; omega) hz cb
      · exact ord_new8 ka kb kc x y z s t u B W0 w n _ _ _ (by omega) (by unfold cnt3 at hn ⊢; simp at hn ⊢; omega) hz
    · have hr : Region.ready .any ordOps (Lf 1 (some g7) (some g8) none) = [3, 8] := by kernel_rfl
      rw [hr]
      refine ⟨by simp, fun i hi => ?_⟩
      simp only [List.mem_cons, List.not_mem_nil, or_false] at hi
      rcases hi with rfl | rfl
      · exact ord_call2 ka kb kc x y z s t u B W0 w n _ _ _ (by unfold cnt3 at hn ⊢; simp at hn ⊢; omega) hz cb
      · exact ord_new9 ka kb kc x y z s t u B W0 w n _ _ _ (by omega) (by unfold cnt3 at hn ⊢; simp at hn ⊢; omega) hz
    · have hr : Region.ready .any ordOps (Lf 1 (some g7) (some g8) (some g9)) = [3] := by kernel_rfl
      rw [hr]
      refine ⟨by simp, fun i hi => ?_⟩
      simp only [List.mem_cons, List.not_mem_nil, or_false] at hi
      subst hi
      · exact ord_call2 ka kb kc x y z s t u B W0 w n _ _ _ (by unfold cnt3 at hn ⊢; simp at hn ⊢; omega) hz cb
    · have hr : Region.ready .any ordOps (Lf 2 none none none) = [5, 6, 7, 8] := by kernel_rfl
      rw [hr]
      refine ⟨by simp, fun i hi => ?_⟩
      simp only [List.mem_cons, List.not_mem_nil, or_false] at hi
      rcases hi with rfl | rfl | rfl | rfl
      · exact ord_call3 ka kb kc x y z s t u B W0 w n _ _ _ (by unfold cnt3 at hn ⊢; simp at hn ⊢; omega) hz cc
      · exact ord_new7 ka kb kc x y z s t u B W0 w n _ _ _ (by omega) (by unfold cnt3 at hn ⊢; simp at hn ⊢; omega) hz
      · exact ord_new8 ka kb kc x y z s t u B W0 w n _ _ _ (by omega) (by unfold cnt3 at hn ⊢; simp at hn ⊢; omega) hz
      · exact ord_new9 ka kb kc x y z s t u B W0 w n _ _ _ (by omega) (by unfold cnt3 at hn ⊢; simp at hn ⊢; omega) hz
    · have hr : Region.ready .any ordOps (Lf 2 none none (some g9)) = [5, 6, 7] := by kernel_rfl
      rw [hr]
      refine ⟨by simp, fun i hi => ?_⟩
      simp only [List.mem_cons, List.not_mem_nil, or_false] at hi
      rcases hi with rfl | rfl | rfl
      · exact ord_call3 ka kb kc x y z s t u B W0 w n _ _ _ (by unfold cnt3 at hn ⊢; simp at hn ⊢; omega) hz cc
      · exact ord_new7 ka kb kc x y z s t u B W0 w n _ _ _ (by omega) (by unfold cnt3 at hn ⊢; simp at hn ⊢; omega) hz
      · exact ord_new8 ka kb kc x y z s t u B W0 w n _ _ _ (by omega) (by unfold cnt3 at hn ⊢; simp at hn ⊢; omega) hz
    · have hr : Region.ready .any ordOps (Lf 2 none (some g8) none) = [5, 6, 8] := by kernel_rfl
      rw [hr]
      refine ⟨by simp, fun i hi => ?_⟩
      simp only [List.mem_cons, List.not_mem_nil, or_false] at hi
      rcases hi with rfl | rfl | rfl
      · exact ord_call3 ka kb kc x y z s t u B W0 w n _ _ _ (by unfold cnt3 at hn ⊢; simp at hn ⊢; omega) hz cc
      · exact ord_new7 ka kb kc x y z s t u B W0 w n _ _ _ (by omega) (by unfold cnt3 at hn ⊢; simp at hn ⊢; omega) hz
      · exact ord_new9 ka kb kc x y z s t u B W0 w n _ _ _ (by omega) (by unfold cnt3 at hn ⊢; simp at hn ⊢; omega) hz
    · have hr : Region.ready .any ordOps (Lf 2 none (some g8) (some g9)) = [5, 6] := by kernel_rfl
      rw [hr]
      refine ⟨by simp, fun i hi => ?_⟩
      simp only [List.mem_cons, List.not_mem_nil, or_false] at hi
      rcases hi with rfl | rfl
      · exact ord_call3 ka kb kc x y z s t u B W0 w n _ _ _ (by unfold cnt3 at hn ⊢; simp at hn ⊢; omega) hz cc
      · exact ord_new7 ka kb kc x y z s t u B W0 w n _ _ _ (by omega) (by unfold cnt3 at hn ⊢; simp at hn ⊢; omega) hz
    · have hr : Region.ready .any ordOps (Lf 2 (some g7) none none) = [5, 7, 8] := by kernel_rfl
      rw [hr]
      refine ⟨by simp, fun i hi => ?_⟩
      simp only [List.mem_cons, List.not_mem_nil, or_false] at hi
      rcases hi with rfl | rfl | rfl
      · exact ord_call3 ka kb kc x y z s t u B W0 w n _ _ _ (by unfold cnt3 at hn ⊢; simp at hn ⊢; omega) hz cc
      · exact ord_new8 ka kb kc x y z s t u B W0 w n _ _ _ (by omega) (by unfold cnt3 at hn ⊢; simp at hn ⊢; omega) hz
      · exact ord_new9 ka kb kc x y z s t u B W0 w n _ _ _ (by omega) (by unfold cnt3 at hn ⊢; simp at hn ⊢; omega) hz
    · have hr : Region.ready .any ordOps (Lf 2 (some g7) none (some g9)) = [5, 7] := by kernel_rfl
      rw [hr]
      refine ⟨by simp, fun i hi => ?_⟩
      simp only [List.mem_cons, List.not_mem_nil, or_false] at hi
      rcases hi with rfl | rfl
      · exact ord_call3 ka kb kc x y z s t u B W0 w n _ _ _ (by unfold cnt3 at hn ⊢; simp at hn ⊢; omega) hz cc
      · exact ord_new8 ka kb kc x y z s t u B W0 w n _ _ _ (by omega) (by unfold cnt3 at hn ⊢; simp at hn ⊢; omega) hz
    · have hr : Region.ready .any ordOps (Lf 2 (some g7) (some g8) none) = [5, 8] := by kernel_rfl
      rw [hr]
      refine ⟨by simp, fun i hi => ?_⟩
      simp only [List.mem_cons, List.not_mem_nil, or_false] at hi
      rcases hi with rfl | rfl
      · exact ord_call3 ka kb kc x y z s t u B W0 w n _ _ _ (by unfold cnt3 at hn ⊢; simp at hn ⊢; omega) hz cc
      · exact ord_new9 ka kb kc x y z s t u B W0 w n _ _ _ (by omega) (by unfold cnt3 at hn ⊢; simp at hn ⊢; omega) hz
    · have hr : Region.ready .any ordOps (Lf 2 (some g7) (some g8) (some g9)) = [5] := by kernel_rfl
      rw [hr]
      refine ⟨by simp, fun i hi => ?_⟩
      simp only [List.mem_cons, List.not_mem_nil, or_false] at hi
      subst hi
      · exact ord_call3 ka kb kc x y z s t u B W0 w n _ _ _ (by unfold cnt3 at hn ⊢; simp at hn ⊢; omega) hz cc
    · have hr : Region.ready .any ordOps (Lf 3 none none none) = [6, 7, 8] := by kernel_rfl
      rw [hr]
      refine ⟨by simp, fun i hi => ?_⟩
      simp only [List.mem_cons, List.not_mem_nil, or_false] at hi
      rcases hi with rfl | rfl | rfl
      · exact ord_new7 ka kb kc x y z s t u B W0 w n _ _ _ (by omega) (by unfold cnt3 at hn ⊢; simp at hn ⊢; omega) hz
      · exact ord_new8 ka kb kc x y z s t u B W0 w n _ _ _ (by omega) (by unfold cnt3 at hn ⊢; simp at hn ⊢; omega) hz
      · exact ord_new9 ka kb kc x y z s t u B W0 w n _ _ _ (by omega) (by unfold cnt3 at hn ⊢; simp at hn ⊢; omega) hz
    · have hr : Region.ready .any ordOps (Lf 3 none none (some g9)) = [6, 7] := by kernel_rfl
      rw [hr]
      refine ⟨by simp, fun i hi => ?_⟩
      simp only [List.mem_cons, List.not_mem_nil, or_false] at hi
      rcases hi with rfl | rfl
      · exact ord_new7 ka kb kc x y z s t u B W0 w n _ _ _ (by omega) (by unfold cnt3 at hn ⊢; simp at hn ⊢; omega) hz
      · exact ord_new8 ka kb kc x y z s t u B W0 w n _ _ _ (by omega) (by unfold cnt3 at hn ⊢; simp at hn ⊢; omega) hz
    · have hr : Region.ready .any ordOps (Lf 3 none (some g8) none) = [6, 8] := by kernel_rfl
      rw [hr]
      refine ⟨by simp, fun i hi => ?_⟩
      simp only [List.mem_cons, List.not_mem_nil, or_false] at hi
      rcases hi with rfl | rfl
      · exact ord_new7 ka kb kc x y z s t u B W0 w n _ _ _ (by omega) (by unfold cnt3 at hn ⊢; simp at hn ⊢; omega) hz
      · exact ord_new9 ka kb kc x y z s t u B W0 w n _ _ _ (by omega) (by unfold cnt3 at hn ⊢; simp at hn ⊢; omega) hz
    · have hr : Region.ready .any ordOps (Lf 3 none (some g8) (some g9)) = [6] := by kernel_rfl
      rw [hr]
      refine ⟨by simp, fun i hi => ?_⟩
      simp only [List.mem_cons, List.not_mem_nil, or_false] at hi
      subst hi
      · exact ord_new7 ka kb kc x y z s t u B W0 w n _ _ _ (by omega) (by unfold cnt3 at hn ⊢; simp at hn ⊢; omega) hz
    · have hr : Region.ready .any ordOps (Lf 3 (some g7) none none) = [7, 8] := by kernel_rfl
      rw [hr]
      refine ⟨by simp, fun i hi => ?_⟩
      simp only [List.mem_cons, List.not_mem_nil, or_false] at hi
      rcases hi with rfl | rfl
      · exact ord_new8 ka kb kc x y z s t u B W0 w n _ _ _ (by omega) (by unfold cnt3 at hn ⊢; simp at hn ⊢; omega) hz
      · exact ord_new9 ka kb kc x y z s t u B W0 w n _ _ _ (by omega) (by unfold cnt3 at hn ⊢; simp at hn ⊢; omega) hz
    · have hr : Region.ready .any ordOps (Lf 3 (some g7) none (some g9)) = [7] := by kernel_rfl
      rw [hr]
      refine ⟨by simp, fun i hi => ?_⟩
      simp only [List.mem_cons, List.not_mem_nil, or_false] at hi
      subst hi
      · exact ord_new8 ka kb kc x y z s t u B W0 w n _ _ _ (by omega) (by unfold cnt3 at hn ⊢; simp at hn ⊢; omega) hz
    · have hr : Region.ready .any ordOps (Lf 3 (some g7) (some g8) none) = [8] := by kernel_rfl
      rw [hr]
      refine ⟨by simp, fun i hi => ?_⟩
      simp only [List.mem_cons, List.not_mem_nil, or_false] at hi
      subst hi
      · exact ord_new9 ka kb kc x y z s t u B W0 w n _ _ _ (by omega) (by unfold cnt3 at hn ⊢; simp at hn ⊢; omega) hz
    · exact absurd hn (by unfold cnt3; simp)
  · rintro L a w ⟨c, o7, o8, o9, hc, hn, rfl, rfl, hz⟩
    have hcase : c = 3 := by unfold cnt3 at hn; omega
    subst hcase
    rcases o7 with _ | g7 <;> rcases o8 with _ | g8 <;> rcases o9 with _ | g9
    · exact absurd hn (by unfold cnt3; simp)
    · exact absurd hn (by unfold cnt3; simp)
    · exact absurd hn (by unfold cnt3; simp)
    · exact absurd hn (by unfold cnt3; simp)
    · exact absurd hn (by unfold cnt3; simp)
    · exact absurd hn (by unfold cnt3; simp)
    · exact absurd hn (by unfold cnt3; simp)
    · exact fin w g7 g8 g9 hz
end Go.Proofs.YtmceakbjholjpaaGreatDoor

namespace Go.Proofs.YtmceakbjholjpaaGreatDoor
open Go.RowKit Go.Lib

set_option maxRecDepth 100000 in
set_option maxHeartbeats 64000000 in
theorem cellOrders_core (p q r : Int) (v1 v2 v3 : Bool) (ka kb kc : Int) (x y z : Nat) (s t u : ByteArray) (w : World) (hT : PowTab w) (hs : s.size + t.size + u.size ≤ 3000) (hx : x < 18446744073709551616) (hy : y < 18446744073709551616) (hz' : z < 18446744073709551616)
    (hp : cmp6 ka x s kb y t = p) (hq : cmp6 kb y t kc z u = q) (hr : cmp6 ka x s kc z u = r) (h1 : (ka == 2) = v1) (h2 : (kb == 2) = v2) (h3 : (kc == 2) = v3)
    (k0 : -9223372036854775808 ≤ ka) (k1 : ka ≤ 9223372036854775807) (k2 : -9223372036854775808 ≤ kb) (k3 : kb ≤ 9223372036854775807) (k4 : -9223372036854775808 ≤ kc) (k5 : kc ≤ 9223372036854775807) :
    Calls Tryz.prog 7 #[.agg #[.int .i64 ka, .int .u64 (x : Int), .string s], .agg #[.int .i64 kb, .int .u64 (y : Int), .string t], .agg #[.int .i64 kc, .int .u64 (z : Int), .string u]] w fun e w' => e = .returned (.bool true) ∧ Below w.heap.size w w' := by
  have CA := Lib.hid (fun W => cmade_any ka x s W k0 k1)
  have CB := Lib.hid (fun W => cmade_any kb y t W k2 k3)
  have CC := Lib.hid (fun W => cmade_any kc z u W k4 k5)
  have C1 := Lib.hid (show ∀ W, PowTab W → Calls Tryz.prog 25 #[.agg #[.int .i64 ka, .float .f64 x, .string s], .agg #[.int .i64 kb, .float .f64 y, .string t], .string ⟨#[37, 46, 54, 103]⟩] W fun e w' => e = .returned (.int .i64 p) ∧ Below W.heap.size W w' from fun W hW => by
    have k := cCompare_6 ka kb x y s t W hx hy (by omega) (by omega) hW
    rw [hp] at k
    exact k)
  have C2 := Lib.hid (show ∀ W, PowTab W → Calls Tryz.prog 25 #[.agg #[.int .i64 kb, .float .f64 y, .string t], .agg #[.int .i64 kc, .float .f64 z, .string u], .string ⟨#[37, 46, 54, 103]⟩] W fun e w' => e = .returned (.int .i64 q) ∧ Below W.heap.size W w' from fun W hW => by
    have k := cCompare_6 kb kc y z t u W hy hz' (by omega) (by omega) hW
    rw [hq] at k
    exact k)
  have C3 := Lib.hid (show ∀ W, PowTab W → Calls Tryz.prog 25 #[.agg #[.int .i64 ka, .float .f64 x, .string s], .agg #[.int .i64 kc, .float .f64 z, .string u], .string ⟨#[37, 46, 54, 103]⟩] W fun e w' => e = .returned (.int .i64 r) ∧ Below W.heap.size W w' from fun W hW => by
    have k := cCompare_6 ka kc x z s u W hx hz' (by omega) (by omega) hW
    rw [hr] at k
    exact k)
  have C4 := Lib.hid (show ∀ W, PowTab W → Calls Tryz.prog 25 #[.agg #[.int .i64 kb, .float .f64 y, .string t], .agg #[.int .i64 ka, .float .f64 x, .string s], .string ⟨#[37, 46, 54, 103]⟩] W fun e w' => e = .returned (.int .i64 (-p)) ∧ Below W.heap.size W w' from fun W hW => by
    have k := cCompare_6 kb ka y x t s W hy hx (by omega) (by omega) hW
    rw [cmp6_swap, hp] at k
    exact k)
  have C5 := Lib.hid (show ∀ W, PowTab W → Calls Tryz.prog 25 #[.agg #[.int .i64 ka, .float .f64 x, .string s], .agg #[.int .i64 ka, .float .f64 x, .string s], .string ⟨#[37, 46, 54, 103]⟩] W fun e w' => e = .returned (.int .i64 0) ∧ Below W.heap.size W w' from fun W hW => by
    have k := cCompare_6 ka ka x x s s W hx hx (by omega) (by omega) hW
    rw [cmp6_same] at k
    exact k)
  have hpv := cmp6_vals ka x s kb y t
  rw [hp] at hpv
  have hwr : IntKind.i64.wrap (-p) = -p := by rw [IntKind.wrap_i64]; omega
  have hwr2 : wrap64 (-p) = -p := by unfold wrap64; omega
  have H1 := Lib.hid h1
  have H2 := Lib.hid h2
  have H3 := Lib.hid h3
  have HP := Lib.hid hpv
  have HQ := Lib.hid (hq ▸ cmp6_vals kb y t kc z u)
  have HR := Lib.hid (hr ▸ cmp6_vals ka x s kc z u)
  have HL := Lib.hid (show v1 = v2 → v2 = v3 → p ≤ 0 → q ≤ 0 → r ≤ 0 ∧ ((p = 0 ∧ q = 0) ↔ r = 0) from fun e1 e2 k1 k2 => by
    subst hp hq hr
    refine cmp6_trans ⟨?_, ?_⟩ k1 k2
    · rw [← h1, ← h2] at e1
      exact ⟨fun k => beq_iff_eq.1 (e1 ▸ beq_iff_eq.2 k), fun k => beq_iff_eq.1 (e1.symm ▸ beq_iff_eq.2 k)⟩
    · rw [← h2, ← h3] at e2
      exact ⟨fun k => beq_iff_eq.1 (e2 ▸ beq_iff_eq.2 k), fun k => beq_iff_eq.1 (e2.symm ▸ beq_iff_eq.2 k)⟩)
  clear hp hq hr h1 h2 h3 hpv hx hy hz'
  have hz : decide (3000 < (s.size : Int) + (t.size : Int) + (u.size : Int)) = false := decide_eq_false (by omega)
  have ga : (s.size : Int) ≤ 3000 := by omega
  have gb : (t.size : Int) ≤ 3000 := by omega
  have gc : (u.size : Int) ≤ 3000 := by omega
  have fA := ((Five.new w #[.int .i64 ka, .int .u64 (x : Int), .string s] 49).alloc (.cells #[.int .i64 kb, .int .u64 (y : Int), .string t] 49)).alloc (.cells #[.int .i64 kc, .int .u64 (z : Int), .string u] 49)
  have fB := (Five.new (w.alloc (.cells #[.int .i64 ka, .int .u64 (x : Int), .string s] 49)) #[.int .i64 kb, .int .u64 (y : Int), .string t] 49).alloc (.cells #[.int .i64 kc, .int .u64 (z : Int), .string u] 49)
  have fC := Five.new ((w.alloc (.cells #[.int .i64 ka, .int .u64 (x : Int), .string s] 49)).alloc (.cells #[.int .i64 kb, .int .u64 (y : Int), .string t] 49)) #[.int .i64 kc, .int .u64 (z : Int), .string u] 49
  rw [World.size_alloc] at fB
  rw [World.size_alloc, World.size_alloc] at fC
  have hB0 := (((Below.refl w.heap.size w).alloc (Nat.le_refl _) (.cells #[.int .i64 ka, .int .u64 (x : Int), .string s] 49)).alloc (by simp) (.cells #[.int .i64 kb, .int .u64 (y : Int), .string t] 49)).alloc (by simp; omega) (.cells #[.int .i64 kc, .int .u64 (z : Int), .string u] 49)
  obtain ⟨W1, hW1⟩ : ∃ W1, ((w.alloc (.cells #[.int .i64 ka, .int .u64 (x : Int), .string s] 49)).alloc (.cells #[.int .i64 kb, .int .u64 (y : Int), .string t] 49)).alloc (.cells #[.int .i64 kc, .int .u64 (z : Int), .string u] 49) = W1 := ⟨_, rfl⟩
  obtain ⟨B, hB⟩ : ∃ B, w.heap.size = B := ⟨_, rfl⟩
  rw [hW1] at fA fB fC hB0
  rw [hB] at fA fB fC hB0 ⊢
  have HW1 := Lib.hid hW1
  have HB := Lib.hid hB
  have HZ := Lib.hid (fun (W : World) (h : Below B w W) => (show B ≤ W.heap.size from hB ▸ h.size))
  have HB0 := Lib.hid hB0
  have HT := Lib.hid (show ∀ W, Below B w W → PowTab W from fun W h => Lib.tabBelow_of_tabIs hT W (hB ▸ h))
  have CF := Lib.hid (cfixed_any W1 (HT.out _ hB0))
  have FA := Lib.hid fA
  have FB := Lib.hid fB
  have FC := Lib.hid fC
  clear hW1 hB hB0 fA fB fC hT k0 k1 k2 k3 k4 k5
  go_enter Tryz.func7, Tryz.ntmps7
  go_wp2_with fail
  rw [HW1.out, HB.out]
  refine CF.out.mono ?_
  rintro e W2 ⟨rfl, h2⟩
  have HB2 := Lib.hid (HB0.out.trans (h2.mono (HZ.out _ HB0.out)))
  have HCA := Lib.hid (fun (W : World) (h : Below W2.heap.size W2 W) => (show W.cell? ⟨B, 0, none⟩ = some (.int .i64 ka) ∧ W.cell? ⟨B, 1, none⟩ = some (.int .u64 (x : Int)) ∧ W.cell? ⟨B, 2, none⟩ = some (.string s) ∧ W.cell? ⟨B + 1, 0, none⟩ = some (.int .i64 kb) ∧ W.cell? ⟨B + 1, 1, none⟩ = some (.int .u64 (y : Int)) ∧ W.cell? ⟨B + 1, 2, none⟩ = some (.string t) ∧ W.cell? ⟨B + 1 + 1, 0, none⟩ = some (.int .i64 kc) ∧ W.cell? ⟨B + 1 + 1, 1, none⟩ = some (.int .u64 (z : Int)) ∧ W.cell? ⟨B + 1 + 1, 2, none⟩ = some (.string u) from ⟨((FA.out.below h2).below h).cell 0, ((FA.out.below h2).below h).cell 1, ((FA.out.below h2).below h).cell 2, ((FB.out.below h2).below h).cell 0, ((FB.out.below h2).below h).cell 1, ((FB.out.below h2).below h).cell 2, ((FC.out.below h2).below h).cell 0, ((FC.out.below h2).below h).cell 1, ((FC.out.below h2).below h).cell 2⟩))
  clear h2
  obtain ⟨a0, a1, a2, a3, a4, a5, a6, a7, a8⟩ := HCA.out W2 (Below.refl _ _)
  go_wp2_with (first | omega | simp only)
  clear a0 a1 a2 a3 a4 a5 a6 a7 a8
  have hR := Below.refl W2.heap.size W2
  refine wp_region_noPanic ?_
  refine wp_region_held_drew (S := fun W => Below W2.heap.size W2 W) (by kernel_rfl) hR.drew (fun hHeld => ?_)
  refine wpAnyH_take (i := 0) (oi := ({ dst := some 28, op := Op.load 49 (Operand.tmp 3), type := 49, pos := "law.go:68", after := #[], guard := none } : Oper)) (v := ?_) rfl (by kernel_rfl) (by kernel_rfl) (by kernel_rfl) (fun _ _ _ h => h) (Or.inl ⟨by rfl, ?_⟩) (by assumption) ?_
  rotate_left
  · intro w' hSw
    obtain ⟨d0, d1, d2, d3, d4, d5, d6, d7, d8⟩ := HCA.out w' hSw
    go_simp
    try with_reducible rfl
  try simp only [Act.put, List.setIfInBounds_toArray, List.set_cons_zero, List.set_cons_succ]
  refine wpAnyH_take (i := 2) (oi := ({ dst := some 30, op := Op.load 49 (Operand.tmp 4), type := 49, pos := "law.go:68", after := #[], guard := none } : Oper)) (v := ?_) rfl (by kernel_rfl) (by kernel_rfl) (by kernel_rfl) (fun _ _ _ h => h) (Or.inl ⟨by rfl, ?_⟩) (by assumption) ?_
  rotate_left
  · intro w' hSw
    obtain ⟨d0, d1, d2, d3, d4, d5, d6, d7, d8⟩ := HCA.out w' hSw
    go_simp
    try with_reducible rfl
  try simp only [Act.put, List.setIfInBounds_toArray, List.set_cons_zero, List.set_cons_succ]
  refine wpAnyH_take (i := 4) (oi := ({ dst := some 32, op := Op.load 49 (Operand.tmp 5), type := 49, pos := "law.go:68", after := #[], guard := none } : Oper)) (v := ?_) rfl (by kernel_rfl) (by kernel_rfl) (by kernel_rfl) (fun _ _ _ h => h) (Or.inl ⟨by rfl, ?_⟩) (by assumption) ?_
  rotate_left
  · intro w' hSw
    obtain ⟨d0, d1, d2, d3, d4, d5, d6, d7, d8⟩ := HCA.out w' hSw
    go_simp
    try with_reducible rfl
  try simp only [Act.put, List.setIfInBounds_toArray, List.set_cons_zero, List.set_cons_succ]
  refine ord_all ka kb kc x y z s t u B W2 _ CA.out CB.out CC.out ?_ ⟨hR.drew, (fun g e => by cases e), (fun g e => by cases e), (fun g e => by cases e), (fun g h e => by cases e), (fun g h e => by cases e), (fun g h e => by cases e)⟩
  intro W3 g7 g8 g9 hz3
  have FA3 := Lib.hid (hz3.c7 g7 rfl).1
  have FB3 := Lib.hid (hz3.c8 g8 rfl).1
  have FC3 := Lib.hid (hz3.c9 g9 rfl).1
  have L7 := (hz3.c7 g7 rfl).2
  have L8 := (hz3.c8 g8 rfl).2
  have L9 := (hz3.c9 g9 rfl).2
  have n78 := hz3.n78 g7 g8 rfl rfl
  have n79 := hz3.n79 g7 g9 rfl rfl
  have n89 := hz3.n89 g8 g9 rfl rfl
  have b3 := hz3.below
  clear hz3 hHeld hR
  have hst := run_store_float
  change wpAnyH _ _ #[{ dst := some 28, op := Op.load 49 (Operand.tmp 3), type := 49, pos := "law.go:68", after := #[], guard := none }, { dst := some 29, op := Op.call { callee := Callee.value (Operand.func 24), args := #[Operand.tmp 28], argTypes := #[49] }, type := 52, pos := "law.go:68", after := #[{ on := 0, ground := Ground.data }], guard := none }, { dst := some 30, op := Op.load 49 (Operand.tmp 4), type := 49, pos := "law.go:68", after := #[], guard := none }, { dst := some 31, op := Op.call { callee := Callee.value (Operand.func 24), args := #[Operand.tmp 30], argTypes := #[49] }, type := 52, pos := "law.go:68", after := #[{ on := 2, ground := Ground.data }, { on := 1, ground := Ground.chain }], guard := none }, { dst := some 32, op := Op.load 49 (Operand.tmp 5), type := 49, pos := "law.go:68", after := #[], guard := none }, { dst := some 33, op := Op.call { callee := Callee.value (Operand.func 24), args := #[Operand.tmp 32], argTypes := #[49] }, type := 52, pos := "law.go:68", after := #[{ on := 4, ground := Ground.data }, { on := 3, ground := Ground.chain }], guard := none }, { dst := some 7, op := Op.alloc 52, type := 0, pos := "law.go:68", after := #[], guard := none }, { dst := some 8, op := Op.alloc 52, type := 0, pos := "law.go:68", after := #[], guard := none }, { dst := some 9, op := Op.alloc 52, type := 0, pos := "law.go:68", after := #[], guard := none }, { dst := none, op := Op.store 52 (Operand.tmp 7) (Operand.tmp 29), type := 0, pos := "law.go:68", after := #[{ on := 6, ground := Ground.data }, { on := 1, ground := Ground.data }, { on := 5, ground := Ground.chain }, { on := 0, ground := Ground.phase }, { on := 1, ground := Ground.phase }, { on := 2, ground := Ground.textOnly Departure.lateStores }, { on := 3, ground := Ground.textOnly Departure.lateStoresUnsure }, { on := 4, ground := Ground.textOnly Departure.lateStores }, { on := 5, ground := Ground.textOnly Departure.lateStoresUnsure }, { on := 6, ground := Ground.phase }, { on := 7, ground := Ground.phase }, { on := 8, ground := Ground.phase }], guard := none }, { dst := none, op := Op.store 52 (Operand.tmp 8) (Operand.tmp 31), type := 0, pos := "law.go:68", after := #[{ on := 7, ground := Ground.data }, { on := 3, ground := Ground.data }, { on := 9, ground := Ground.chain }, { on := 0, ground := Ground.phase }, { on := 1, ground := Ground.phase }, { on := 2, ground := Ground.phase }, { on := 3, ground := Ground.phase }, { on := 4, ground := Ground.textOnly Departure.lateStores }, { on := 5, ground := Ground.textOnly Departure.lateStoresUnsure }, { on := 6, ground := Ground.phase }, { on := 7, ground := Ground.phase }, { on := 8, ground := Ground.phase }, { on := 9, ground := Ground.phase }], guard := none }, { dst := none, op := Op.store 52 (Operand.tmp 9) (Operand.tmp 33), type := 0, pos := "law.go:68", after := #[{ on := 8, ground := Ground.data }, { on := 5, ground := Ground.data }, { on := 10, ground := Ground.chain }, { on := 0, ground := Ground.phase }, { on := 1, ground := Ground.phase }, { on := 2, ground := Ground.phase }, { on := 3, ground := Ground.phase }, { on := 4, ground := Ground.phase }, { on := 5, ground := Ground.phase }, { on := 6, ground := Ground.phase }, { on := 7, ground := Ground.phase }, { on := 8, ground := Ground.phase }, { on := 9, ground := Ground.phase }, { on := 10, ground := Ground.phase }], guard := none }] _ _ 3 #[true, true, true, true, true, true, true, true, true, false, false, false] { tmps := #[.agg #[.int .i64 ka, .int .u64 (x : Int), .string s], .agg #[.int .i64 kb, .int .u64 (y : Int), .string t], .agg #[.int .i64 kc, .int .u64 (z : Int), .string u], .pointer (some ⟨B, 0, none⟩), .pointer (some ⟨B + 1, 0, none⟩), .pointer (some ⟨B + 1 + 1, 0, none⟩), .bool false, .pointer (some ⟨g7, 0, none⟩), .pointer (some ⟨g8, 0, none⟩), .pointer (some ⟨g9, 0, none⟩), undef, undef, undef, undef, .bool true, .bool false, .pointer (some ⟨B, 2, none⟩), .string s, .int .i64 (s.size : Int), .pointer (some ⟨B + 1, 2, none⟩), .string t, .int .i64 (t.size : Int), .int .i64 ((s.size : Int) + (t.size : Int)), .pointer (some ⟨B + 1 + 1, 2, none⟩), .string u, .int .i64 (u.size : Int), .int .i64 ((s.size : Int) + (t.size : Int) + (u.size : Int)), .bool false, .agg #[.int .i64 ka, .int .u64 (x : Int), .string s], .agg #[.int .i64 ka, .float .f64 x, .string s], .agg #[.int .i64 kb, .int .u64 (y : Int), .string t], .agg #[.int .i64 kb, .float .f64 y, .string t], .agg #[.int .i64 kc, .int .u64 (z : Int), .string u], .agg #[.int .i64 kc, .float .f64 z, .string u], undef, undef, undef, undef, undef, undef, undef, undef, undef, undef, undef, undef, undef, undef, undef, undef, undef, undef, undef, undef, undef, undef, undef, undef, undef, undef, undef, undef, undef, undef, undef, undef, undef, undef, undef, undef, undef, undef, undef, undef, undef, undef, undef, undef, undef, undef, undef, undef, undef, undef, undef, undef, undef, undef, undef, undef, undef, undef, undef, undef, undef, undef, undef], defers := [] } W3
  obtain ⟨q0, q1, q2, r0, r1, r2⟩ := FA3.out.three
  have FA4 := Lib.hid (show Five (((W3.setCell ⟨g7, 0, none⟩ (.int .i64 ka)).setCell ⟨g7, 1, none⟩ (.float .f64 x)).setCell ⟨g7, 2, none⟩ (.string s)) g7 #[.int .i64 ka, .float .f64 x, .string s] 52 from ((FA3.out.set (j := 0) (u := .int .i64 ka)).set (j := 1) (u := .float .f64 x)).set (j := 2) (u := .string s))
  have FB4 := Lib.hid (((FB3.out.other (j := 0) (u := .int .i64 ka) (Ne.symm n78)).other (j := 1) (u := .float .f64 x) (Ne.symm n78)).other (j := 2) (u := .string s) (Ne.symm n78))
  have FC4 := Lib.hid (((FC3.out.other (j := 0) (u := .int .i64 ka) (Ne.symm n79)).other (j := 1) (u := .float .f64 x) (Ne.symm n79)).other (j := 2) (u := .string s) (Ne.symm n79))
  have b4 := ((b3.setCell (p := ⟨g7, 0, none⟩) L7 (.int .i64 ka)).setCell (p := ⟨g7, 1, none⟩) L7 (.float .f64 x)).setCell (p := ⟨g7, 2, none⟩) L7 (.string s)
  refine wpAnyH_ready (rs := [9]) (by kernel_rfl) (by simp) ?_
  refine AllReadyH.cons (o := ({ dst := none, op := Op.store 52 (Operand.tmp 7) (Operand.tmp 29), type := 0, pos := "law.go:68", after := #[{ on := 6, ground := Ground.data }, { on := 1, ground := Ground.data }, { on := 5, ground := Ground.chain }, { on := 0, ground := Ground.phase }, { on := 1, ground := Ground.phase }, { on := 2, ground := Ground.textOnly Departure.lateStores }, { on := 3, ground := Ground.textOnly Departure.lateStoresUnsure }, { on := 4, ground := Ground.textOnly Departure.lateStores }, { on := 5, ground := Ground.textOnly Departure.lateStoresUnsure }, { on := 6, ground := Ground.phase }, { on := 7, ground := Ground.phase }, { on := 8, ground := Ground.phase }], guard := none } : Oper)) rfl (fun K hK => ?_) AllReadyH.nil
  go_simp
  refine hK.out _ _ b4 (fun hHeld => ?_)
  clear hK K hHeld q0 q1 q2 r0 r1 r2
  try simp only [List.setIfInBounds_toArray, List.set_cons_zero, List.set_cons_succ]
  obtain ⟨W4, hW⟩ : ∃ W4, ((W3.setCell ⟨g7, 0, none⟩ (.int .i64 ka)).setCell ⟨g7, 1, none⟩ (.float .f64 x)).setCell ⟨g7, 2, none⟩ (.string s) = W4 := ⟨_, rfl⟩
  rw [hW] at FA4 FB4 FC4 b4 ⊢
  clear hW FA3 FB3 FC3 b3
  obtain ⟨q0, q1, q2, r0, r1, r2⟩ := FB4.out.three
  have FA5 := Lib.hid (((FA4.out.other (j := 0) (u := .int .i64 kb) n78).other (j := 1) (u := .float .f64 y) n78).other (j := 2) (u := .string t) n78)
  have FB5 := Lib.hid (show Five (((W4.setCell ⟨g8, 0, none⟩ (.int .i64 kb)).setCell ⟨g8, 1, none⟩ (.float .f64 y)).setCell ⟨g8, 2, none⟩ (.string t)) g8 #[.int .i64 kb, .float .f64 y, .string t] 52 from ((FB4.out.set (j := 0) (u := .int .i64 kb)).set (j := 1) (u := .float .f64 y)).set (j := 2) (u := .string t))
  have FC5 := Lib.hid (((FC4.out.other (j := 0) (u := .int .i64 kb) (Ne.symm n89)).other (j := 1) (u := .float .f64 y) (Ne.symm n89)).other (j := 2) (u := .string t) (Ne.symm n89))
  have b5 := ((b4.setCell (p := ⟨g8, 0, none⟩) L8 (.int .i64 kb)).setCell (p := ⟨g8, 1, none⟩) L8 (.float .f64 y)).setCell (p := ⟨g8, 2, none⟩) L8 (.string t)
  refine wpAnyH_ready (rs := [10]) (by kernel_rfl) (by simp) ?_
  refine AllReadyH.cons (o := ({ dst := none, op := Op.store 52 (Operand.tmp 8) (Operand.tmp 31), type := 0, pos := "law.go:68", after := #[{ on := 7, ground := Ground.data }, { on := 3, ground := Ground.data }, { on := 9, ground := Ground.chain }, { on := 0, ground := Ground.phase }, { on := 1, ground := Ground.phase }, { on := 2, ground := Ground.phase }, { on := 3, ground := Ground.phase }, { on := 4, ground := Ground.textOnly Departure.lateStores }, { on := 5, ground := Ground.textOnly Departure.lateStoresUnsure }, { on := 6, ground := Ground.phase }, { on := 7, ground := Ground.phase }, { on := 8, ground := Ground.phase }, { on := 9, ground := Ground.phase }], guard := none } : Oper)) rfl (fun K hK => ?_) AllReadyH.nil
  go_simp
  refine hK.out _ _ b5 (fun hHeld => ?_)
  clear hK K hHeld q0 q1 q2 r0 r1 r2
  try simp only [List.setIfInBounds_toArray, List.set_cons_zero, List.set_cons_succ]
  obtain ⟨W5, hW⟩ : ∃ W5, ((W4.setCell ⟨g8, 0, none⟩ (.int .i64 kb)).setCell ⟨g8, 1, none⟩ (.float .f64 y)).setCell ⟨g8, 2, none⟩ (.string t) = W5 := ⟨_, rfl⟩
  rw [hW] at FA5 FB5 FC5 b5 ⊢
  clear hW FA4 FB4 FC4 b4
  obtain ⟨q0, q1, q2, r0, r1, r2⟩ := FC5.out.three
  have FA6 := Lib.hid (((FA5.out.other (j := 0) (u := .int .i64 kc) n79).other (j := 1) (u := .float .f64 z) n79).other (j := 2) (u := .string u) n79)
  have FB6 := Lib.hid (((FB5.out.other (j := 0) (u := .int .i64 kc) n89).other (j := 1) (u := .float .f64 z) n89).other (j := 2) (u := .string u) n89)
  have FC6 := Lib.hid (show Five (((W5.setCell ⟨g9, 0, none⟩ (.int .i64 kc)).setCell ⟨g9, 1, none⟩ (.float .f64 z)).setCell ⟨g9, 2, none⟩ (.string u)) g9 #[.int .i64 kc, .float .f64 z, .string u] 52 from ((FC5.out.set (j := 0) (u := .int .i64 kc)).set (j := 1) (u := .float .f64 z)).set (j := 2) (u := .string u))
  have b6 := ((b5.setCell (p := ⟨g9, 0, none⟩) L9 (.int .i64 kc)).setCell (p := ⟨g9, 1, none⟩) L9 (.float .f64 z)).setCell (p := ⟨g9, 2, none⟩) L9 (.string u)
  refine wpAnyH_ready (rs := [11]) (by kernel_rfl) (by simp) ?_
  refine AllReadyH.cons (o := ({ dst := none, op := Op.store 52 (Operand.tmp 9) (Operand.tmp 33), type := 0, pos := "law.go:68", after := #[{ on := 8, ground := Ground.data }, { on := 5, ground := Ground.data }, { on := 10, ground := Ground.chain }, { on := 0, ground := Ground.phase }, { on := 1, ground := Ground.phase }, { on := 2, ground := Ground.phase }, { on := 3, ground := Ground.phase }, { on := 4, ground := Ground.phase }, { on := 5, ground := Ground.phase }, { on := 6, ground := Ground.phase }, { on := 7, ground := Ground.phase }, { on := 8, ground := Ground.phase }, { on := 9, ground := Ground.phase }, { on := 10, ground := Ground.phase }], guard := none } : Oper)) rfl (fun K hK => ?_) AllReadyH.nil
  go_simp
  refine hK.out _ _ b6 (fun hHeld => ?_)
  clear hK K hHeld q0 q1 q2 r0 r1 r2
  try simp only [List.setIfInBounds_toArray, List.set_cons_zero, List.set_cons_succ]
  obtain ⟨W6, hW⟩ : ∃ W6, ((W5.setCell ⟨g9, 0, none⟩ (.int .i64 kc)).setCell ⟨g9, 1, none⟩ (.float .f64 z)).setCell ⟨g9, 2, none⟩ (.string u) = W6 := ⟨_, rfl⟩
  rw [hW] at FA6 FB6 FC6 b6 ⊢
  clear hW FA5 FB5 FC5 b5
  refine wpAnyH_done (by kernel_rfl) ?_ _
  refine NoPanic.normal ?_
  clear hst L7 L8 L9 n78 n79 n89
  have HB6 := Lib.hid (HB2.out.trans (b6.mono (HZ.out _ HB2.out)))
  have HCW := Lib.hid (fun (W : World) (h : Below W6.heap.size W6 W) => (show W.cell? ⟨g7, 0, none⟩ = some (.int .i64 ka) ∧ W.cell? ⟨g7, 1, none⟩ = some (.float .f64 x) ∧ W.cell? ⟨g7, 2, none⟩ = some (.string s) ∧ W.cell? ⟨g8, 0, none⟩ = some (.int .i64 kb) ∧ W.cell? ⟨g8, 1, none⟩ = some (.float .f64 y) ∧ W.cell? ⟨g8, 2, none⟩ = some (.string t) ∧ W.cell? ⟨g9, 0, none⟩ = some (.int .i64 kc) ∧ W.cell? ⟨g9, 1, none⟩ = some (.float .f64 z) ∧ W.cell? ⟨g9, 2, none⟩ = some (.string u) from ⟨(FA6.out.below h).cell 0, (FA6.out.below h).cell 1, (FA6.out.below h).cell 2, (FB6.out.below h).cell 0, (FB6.out.below h).cell 1, (FB6.out.below h).cell 2, (FC6.out.below h).cell 0, (FC6.out.below h).cell 1, (FC6.out.below h).cell 2⟩))
  clear FA6 FB6 FC6 b6
  have HTW := Lib.hid (fun (W : World) (h : Below W6.heap.size W6 W) => HT.out W (HB6.out.trans (h.mono (HZ.out _ HB6.out))))
  have hR := Below.refl W6.heap.size W6
  obtain ⟨a0, a1, a2, a3, a4, a5, a6, a7, a8⟩ := HCW.out W6 hR
  go_wp2_with fail
  go_region_held3 (fun W => W.cell? ⟨g7, 0, none⟩ = some (.int .i64 ka) ∧ W.cell? ⟨g7, 1, none⟩ = some (.float .f64 x) ∧ W.cell? ⟨g7, 2, none⟩ = some (.string s) ∧ W.cell? ⟨g8, 0, none⟩ = some (.int .i64 kb) ∧ W.cell? ⟨g8, 1, none⟩ = some (.float .f64 y) ∧ W.cell? ⟨g8, 2, none⟩ = some (.string t) ∧ W.cell? ⟨g9, 0, none⟩ = some (.int .i64 kc) ∧ W.cell? ⟨g9, 1, none⟩ = some (.float .f64 z) ∧ W.cell? ⟨g9, 2, none⟩ = some (.string u))
    (first | (with_reducible exact S9) | (with_reducible exact S8) | (with_reducible exact S7) | go_keep)
    (first
    | (go_at_call 25; (with_reducible refine (C1.out _ (HTW.out _ (by first | exact hR | exact hR.drew | exact below_drewN hR _))).mono ?_); rintro e X7 ⟨rfl, h⟩; have b7 : Below W6.heap.size W6 X7 := ⟨h.os, h.tape, h.output, h.size, h.block⟩; have S7 := HCW.out _ b7; clear h)
    | (go_at_call 25; (with_reducible refine (C2.out _ (HTW.out _ (by first | exact b7 | exact b7.drew | exact below_drewN b7 _))).mono ?_); rintro e X8 ⟨rfl, h⟩; have b8 : Below W6.heap.size W6 X8 := b7.trans ((⟨h.os, h.tape, h.output, h.size, h.block⟩ : Below X7.heap.size X7 X8).mono b7.size); have S8 := HCW.out _ b8; clear h)
    | (go_at_call 25; (with_reducible refine (C3.out _ (HTW.out _ (by first | exact b8 | exact b8.drew | exact below_drewN b8 _))).mono ?_); rintro e X9 ⟨rfl, h⟩; have b9 : Below W6.heap.size W6 X9 := b8.trans ((⟨h.os, h.tape, h.output, h.size, h.block⟩ : Below X8.heap.size X8 X9).mono b8.size); have S9 := HCW.out _ b9; clear h))
  all_goals
    clear a0 a1 a2 a3 a4 a5 a6 a7 a8
    obtain ⟨a0, a1, a2, a3, a4, a5, a6, a7, a8⟩ := HCW.out _ b9
    go_wp2_with fail
    refine (C4.out _ (HTW.out _ b9)).mono ?_
    rintro e X10 ⟨rfl, h⟩
    have b10 := b9.trans (h.mono b9.size)
    clear h a0 a1 a2 a3 a4 a5 a6 a7 a8
    obtain ⟨a0, a1, a2, a3, a4, a5, a6, a7, a8⟩ := HCW.out _ b10
    go_wp2_with fail
    refine (C5.out _ (HTW.out _ b10)).mono ?_
    rintro e X11 ⟨rfl, h⟩
    have b11 := b10.trans (h.mono b10.size)
    clear h a0 a1 a2 a3 a4 a5 a6 a7 a8
    obtain ⟨a0, a1, a2, a3, a4, a5, a6, a7, a8⟩ := HCW.out _ b11
    have hBf := HB6.out.trans (b11.mono (HZ.out _ HB6.out))
    clear C1 C2 C3 C4 C5 CA CB CC FA FB FC CF HCA HCW HTW b7 b8 b9 b10 hwr hwr2
    have e1 := H1.out
    have e2 := H2.out
    have e3 := H3.out
    cases v1 <;> cases v2 <;> cases v3
    all_goals try
      go_wp2_with fail
      go_ret
      exact ⟨rfl, hBf⟩
    all_goals
      have HL2 := Lib.hid (HL.out rfl rfl)
      clear HL
      rcases HP.out with rfl | rfl | rfl
      · rcases HQ.out with rfl | rfl | rfl
        · obtain rfl : r = -1 := by have := HR.out; have := HL2.out (by decide) (by decide); omega
          go_wp2_with fail
          go_ret
          exact ⟨rfl, hBf⟩
        · obtain rfl : r = -1 := by have := HR.out; have := HL2.out (by decide) (by decide); omega
          go_wp2_with fail
          go_ret
          exact ⟨rfl, hBf⟩
        · go_wp2_with fail
          go_ret
          exact ⟨rfl, hBf⟩
      · rcases HQ.out with rfl | rfl | rfl
        · obtain rfl : r = -1 := by have := HR.out; have := HL2.out (by decide) (by decide); omega
          go_wp2_with fail
          go_ret
          exact ⟨rfl, hBf⟩
        · obtain rfl : r = 0 := by have := HR.out; have := HL2.out (by decide) (by decide); omega
          go_wp2_with fail
          go_ret
          exact ⟨rfl, hBf⟩
        · go_wp2_with fail
          go_ret
          exact ⟨rfl, hBf⟩
      · go_wp2_with fail
        go_ret
        exact ⟨rfl, hBf⟩
set_option maxRecDepth 100000 in
set_option maxHeartbeats 8000000 in
theorem cellOrders_far (ka kb kc : Int) (x y z : Nat) (s t u : ByteArray) (w : World) (hT : PowTab w) (hs : 3000 < s.size + t.size + u.size) (rs : s.size ≤ 140737488351232) (rt : t.size ≤ 140737488351232) (ru : u.size ≤ 140737488351232) :
    Calls Tryz.prog 7 #[.agg #[.int .i64 ka, .int .u64 (x : Int), .string s], .agg #[.int .i64 kb, .int .u64 (y : Int), .string t], .agg #[.int .i64 kc, .int .u64 (z : Int), .string u]] w fun e w' => e = .returned (.bool true) ∧ Below w.heap.size w w' := by
  have hz : decide (3000 < (s.size : Int) + (t.size : Int) + (u.size : Int)) = true := decide_eq_true (by omega)
  have ga : (s.size : Int) ≤ 140737488351232 := by omega
  have gb : (t.size : Int) ≤ 140737488351232 := by omega
  have gc : (u.size : Int) ≤ 140737488351232 := by omega
  have fA := ((Five.new w #[.int .i64 ka, .int .u64 (x : Int), .string s] 49).alloc (.cells #[.int .i64 kb, .int .u64 (y : Int), .string t] 49)).alloc (.cells #[.int .i64 kc, .int .u64 (z : Int), .string u] 49)
  have fB := (Five.new (w.alloc (.cells #[.int .i64 ka, .int .u64 (x : Int), .string s] 49)) #[.int .i64 kb, .int .u64 (y : Int), .string t] 49).alloc (.cells #[.int .i64 kc, .int .u64 (z : Int), .string u] 49)
  have fC := Five.new ((w.alloc (.cells #[.int .i64 ka, .int .u64 (x : Int), .string s] 49)).alloc (.cells #[.int .i64 kb, .int .u64 (y : Int), .string t] 49)) #[.int .i64 kc, .int .u64 (z : Int), .string u] 49
  rw [World.size_alloc] at fB
  rw [World.size_alloc, World.size_alloc] at fC
  have hB0 := (((Below.refl w.heap.size w).alloc (Nat.le_refl _) (.cells #[.int .i64 ka, .int .u64 (x : Int), .string s] 49)).alloc (by simp) (.cells #[.int .i64 kb, .int .u64 (y : Int), .string t] 49)).alloc (by simp; omega) (.cells #[.int .i64 kc, .int .u64 (z : Int), .string u] 49)
  obtain ⟨W1, hW1⟩ : ∃ W1, ((w.alloc (.cells #[.int .i64 ka, .int .u64 (x : Int), .string s] 49)).alloc (.cells #[.int .i64 kb, .int .u64 (y : Int), .string t] 49)).alloc (.cells #[.int .i64 kc, .int .u64 (z : Int), .string u] 49) = W1 := ⟨_, rfl⟩
  obtain ⟨B, hB⟩ : ∃ B, w.heap.size = B := ⟨_, rfl⟩
  rw [hW1] at fA fB fC hB0
  rw [hB] at fA fB fC hB0 ⊢
  have HW1 := Lib.hid hW1
  have HB := Lib.hid hB
  have HZ := Lib.hid (fun (W : World) (h : Below B w W) => (show B ≤ W.heap.size from hB ▸ h.size))
  have HB0 := Lib.hid hB0
  have HT := Lib.hid (show ∀ W, Below B w W → PowTab W from fun W h => Lib.tabBelow_of_tabIs hT W (hB ▸ h))
  have CF := Lib.hid (cfixed_any W1 (HT.out _ hB0))
  have FA := Lib.hid fA
  have FB := Lib.hid fB
  have FC := Lib.hid fC
  clear hW1 hB hB0 fA fB fC hT rs rt ru hs
  go_enter Tryz.func7, Tryz.ntmps7
  go_wp2_with fail
  rw [HW1.out, HB.out]
  refine CF.out.mono ?_
  rintro e W2 ⟨rfl, h2⟩
  have HB2 := Lib.hid (HB0.out.trans (h2.mono (HZ.out _ HB0.out)))
  have HCA := Lib.hid (fun (W : World) (h : Below W2.heap.size W2 W) => (show W.cell? ⟨B, 0, none⟩ = some (.int .i64 ka) ∧ W.cell? ⟨B, 1, none⟩ = some (.int .u64 (x : Int)) ∧ W.cell? ⟨B, 2, none⟩ = some (.string s) ∧ W.cell? ⟨B + 1, 0, none⟩ = some (.int .i64 kb) ∧ W.cell? ⟨B + 1, 1, none⟩ = some (.int .u64 (y : Int)) ∧ W.cell? ⟨B + 1, 2, none⟩ = some (.string t) ∧ W.cell? ⟨B + 1 + 1, 0, none⟩ = some (.int .i64 kc) ∧ W.cell? ⟨B + 1 + 1, 1, none⟩ = some (.int .u64 (z : Int)) ∧ W.cell? ⟨B + 1 + 1, 2, none⟩ = some (.string u) from ⟨((FA.out.below h2).below h).cell 0, ((FA.out.below h2).below h).cell 1, ((FA.out.below h2).below h).cell 2, ((FB.out.below h2).below h).cell 0, ((FB.out.below h2).below h).cell 1, ((FB.out.below h2).below h).cell 2, ((FC.out.below h2).below h).cell 0, ((FC.out.below h2).below h).cell 1, ((FC.out.below h2).below h).cell 2⟩))
  clear h2
  obtain ⟨a0, a1, a2, a3, a4, a5, a6, a7, a8⟩ := HCA.out W2 (Below.refl _ _)
  go_wp2_with (first | omega | simp only)
  clear a0 a1 a2 a3 a4 a5 a6 a7 a8
  have hBf := HB2.out
  go_ret
  exact ⟨rfl, hBf⟩
theorem cellOrders_any (ka kb kc n1 n2 n3 : Int) (s t u : ByteArray) (w : World) (hT : PowTab w) (rs : s.size ≤ 140737488351232) (rt : t.size ≤ 140737488351232) (ru : u.size ≤ 140737488351232)
    (k0 : -9223372036854775808 ≤ ka) (k1 : ka ≤ 9223372036854775807) (k2 : -9223372036854775808 ≤ kb) (k3 : kb ≤ 9223372036854775807) (k4 : -9223372036854775808 ≤ kc) (k5 : kc ≤ 9223372036854775807)
    (m0 : 0 ≤ n1) (m1 : n1 ≤ 18446744073709551615) (m2 : 0 ≤ n2) (m3 : n2 ≤ 18446744073709551615) (m4 : 0 ≤ n3) (m5 : n3 ≤ 18446744073709551615) :
    Calls Tryz.prog 7 #[.agg #[.int .i64 ka, .int .u64 n1, .string s], .agg #[.int .i64 kb, .int .u64 n2, .string t], .agg #[.int .i64 kc, .int .u64 n3, .string u]] w fun e w' => e = .returned (.bool true) ∧ Below w.heap.size w w' := by
  obtain ⟨x, rfl⟩ : ∃ x : Nat, n1 = (x : Int) := ⟨n1.toNat, by omega⟩
  obtain ⟨y, rfl⟩ : ∃ y : Nat, n2 = (y : Int) := ⟨n2.toNat, by omega⟩
  obtain ⟨z, rfl⟩ : ∃ z : Nat, n3 = (z : Int) := ⟨n3.toNat, by omega⟩
  rcases Nat.lt_or_ge 3000 (s.size + t.size + u.size) with h | h
  · exact cellOrders_far ka kb kc x y z s t u w hT h rs rt ru
  · exact cellOrders_core _ _ _ _ _ _ ka kb kc x y z s t u w hT h (by omega) (by omega) (by omega) rfl rfl rfl rfl rfl rfl k0 k1 k2 k3 k4 k5
end Go.Proofs.YtmceakbjholjpaaGreatDoor
