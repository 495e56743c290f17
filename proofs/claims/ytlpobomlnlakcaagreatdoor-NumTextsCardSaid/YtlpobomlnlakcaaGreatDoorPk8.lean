/- Several texts in one (The walk of the law NumPowers; Plain: numerals of digits in texts; whole numbers as floats are the nearest. No walk here; Plain: rounding hangs on the ratio alone; texts of digits cut and padded. No walk here; The walk of the law NumBack; The walk of the law NumBack, floats that are no whole numbers; Plain: a natural as a float is the nearest one; digits ahead of any text. No walk here; The walk of the law NumSigns; The definition of layer 2: trim, Small, Add; The definition of layer 2: Times, Cmp; The definition of layer 2: Times). -/
import Derived.Test.YtlpobomlnlakcaaGreatDoorPk7
namespace Go.Proofs.YtlpobomlnlakcaaGreatDoor
open Go.RowKit Go.Lib

theorem cn_eq {z r : Nat} (h : cn z = r) (hr : mag r ≤ 9218868437227405312) : z = r := by
  unfold cn at h
  split at h
  · rw [← h] at hr
    exact absurd hr (by decide)
  · exact h
theorem pow_is (x y r : Nat) (w : World) (hx : x < 18446744073709551616) (hy : y < 18446744073709551616) (h : wholeB y 4845873199050653696 = true) (hr : powR x y = r) (hm : mag r ≤ 9218868437227405312) :
    Calls Tryz.prog 20 #[.float .f64 x, .float .f64 y] w fun e w' => e = .returned (.tuple #[.float .f64 r, .bool true]) ∧ Below w.heap.size w w' := by
  refine (pow_yes x y w hx hy h).mono ?_
  rintro e w' ⟨z, rfl, hz, -, hB⟩
  rw [hr] at hz
  rw [cn_eq hz hm]
  exact ⟨rfl, hB⟩
def e53 : Nat := 4845873199050653696
/-- What is asked of one base and one power. -/
def pwB (X : Int) (N : Nat) : Bool :=
  decide (floatOfInt .f64 X < 18446744073709551616) && (decide (floatOfInt .f64 (N : Int) < 18446744073709551616) && (decide (floatOfInt .f64 (-(N : Int)) < 18446744073709551616) && (wholeB (floatOfInt .f64 (N : Int)) e53 && (wholeB (floatOfInt .f64 (-(N : Int))) e53 &&
  (powR (floatOfInt .f64 X) (floatOfInt .f64 (N : Int)) == floatOfInt .f64 (X ^ N) && (decide (mag (floatOfInt .f64 (X ^ N)) < 9218868437227405312) &&
  ((match floatBits .add .f64 (floatOfInt .f64 (N : Int)) 4602678819172646912 with | some h => !wholeB h e53 && decide (h < 18446744073709551616) | none => false) &&
  (decide (mag (powR 4611686018427387904 (floatOfInt .f64 (-(N : Int)))) < 9218868437227405312) && (decide (mag (powR 4611686018427387904 (floatOfInt .f64 (N : Int))) < 9218868437227405312) &&
  (floatBits .mul .f64 (powR 4611686018427387904 (floatOfInt .f64 (-(N : Int)))) (powR 4611686018427387904 (floatOfInt .f64 (N : Int))) == some 4607182418800017408))))))))))
theorem pw_all : ((List.range 19).all fun i => (List.range 16).all fun j => pwB ((i : Int) - 9) j) = true := by decide +kernel
theorem pw_bd : ((List.range 19).all fun i => (List.range 17).all fun j => decide (-2000000000000000 ≤ ((i : Int) - 9) ^ j) && decide (((i : Int) - 9) ^ j ≤ 2000000000000000)) = true := by decide +kernel
theorem pw_one {X : Int} {N : Nat} (h1 : -9 ≤ X) (h2 : X ≤ 9) (h3 : N ≤ 15) : pwB X N = true := by
  have h := List.all_eq_true.1 pw_all (X + 9).toNat (List.mem_range.2 (by omega))
  have h := List.all_eq_true.1 h N (List.mem_range.2 (by omega))
  rw [show (((X + 9).toNat : Nat) : Int) - 9 = X by omega] at h
  exact h
theorem pw_le {X : Int} {N : Nat} (h1 : -9 ≤ X) (h2 : X ≤ 9) (h3 : N ≤ 16) : -2000000000000000 ≤ X ^ N ∧ X ^ N ≤ 2000000000000000 := by
  have h := List.all_eq_true.1 pw_bd (X + 9).toNat (List.mem_range.2 (by omega))
  have h := List.all_eq_true.1 h N (List.mem_range.2 (by omega))
  rw [show (((X + 9).toNat : Nat) : Int) - 9 = X by omega, Bool.and_eq_true] at h
  exact ⟨of_decide_eq_true h.1, of_decide_eq_true h.2⟩
theorem ord_self' {z : Nat} (h : mag z < 9218868437227405312) : (FloatKind.f64.format.order z z == some .eq) = true := by
  have h1 := nan_no (b := z) (by omega)
  unfold nanB at h1
  rw [bne_eq_false_iff_eq] at h1
  rw [beq_iff_eq]
  exact h1
set_option maxRecDepth 100000 in
set_option maxHeartbeats 4000000 in
theorem numPowers_core (x n X : Int) (N : Nat) (w : World) (hX : x.tmod 10 = X) (hN : min (max n 0) 15 = (N : Int)) (hT : PowTab w) :
    Calls Tryz.prog 7 #[.int .i64 x, .int .i64 n] w fun e w' => e = .returned (.bool true) ∧ Below w.heap.size w w' := by
  have CF := Lib.hid (nfixed_any w hT)
  have hx1 : -9 ≤ X ∧ X ≤ 9 := by
    have h1 : X.natAbs < 10 := by rw [← hX, Int.natAbs_tmod]; exact Nat.mod_lt _ (by decide)
    omega
  obtain ⟨x1, x2⟩ := hx1
  have hN15 : N ≤ 15 := by omega
  have hpw := pw_one x1 x2 hN15
  unfold pwB at hpw
  simp only [Bool.and_eq_true] at hpw
  obtain ⟨p1, p2, p3, p4, p5, p6, p7, p8, p9, p10, p11⟩ := hpw
  have p1 := of_decide_eq_true p1
  have p2 := of_decide_eq_true p2
  have p3 := of_decide_eq_true p3
  have p6 := eq_of_beq p6
  have p7 := of_decide_eq_true p7
  have p9 := of_decide_eq_true p9
  have p10 := of_decide_eq_true p10
  have p11 := eq_of_beq p11
  obtain ⟨H, hH, h81, h82⟩ : ∃ H, floatBits .add .f64 (floatOfInt .f64 (N : Int)) 4602678819172646912 = some H ∧ wholeB H e53 = false ∧ H < 18446744073709551616 := by
    cases h : floatBits .add .f64 (floatOfInt .f64 (N : Int)) 4602678819172646912 with
    | none => rw [h] at p8; cases p8
    | some H =>
      rw [h] at p8
      simp only [Bool.and_eq_true, Bool.not_eq_true'] at p8
      exact ⟨H, rfl, p8.1, of_decide_eq_true p8.2⟩
  have hfX : floatOfInt .f64 X = floatOfInt .f64 X := rfl
  obtain ⟨FX, hFX⟩ : ∃ F, floatOfInt .f64 X = F := ⟨_, rfl⟩
  obtain ⟨FN, hFN⟩ : ∃ F, floatOfInt .f64 (N : Int) = F := ⟨_, rfl⟩
  obtain ⟨FM, hFM⟩ : ∃ F, floatOfInt .f64 (-(N : Int)) = F := ⟨_, rfl⟩
  obtain ⟨P, hP⟩ : ∃ P, X ^ N = P := ⟨_, rfl⟩
  have hPb := pw_le x1 x2 (show N ≤ 16 by omega)
  rw [hP] at p6 p7 hPb
  obtain ⟨FP, hFP⟩ : ∃ F, floatOfInt .f64 P = F := ⟨_, rfl⟩
  rw [hFX] at p1 p6
  rw [hFN] at p2 p4 p6 p10 p11 hH
  rw [hFM] at p3 p5 p9 p11
  rw [hFP] at p6 p7
  obtain ⟨RW, hRW⟩ : ∃ R, powR 4611686018427387904 FM = R := ⟨_, rfl⟩
  obtain ⟨RV, hRV⟩ : ∃ R, powR 4611686018427387904 FN = R := ⟨_, rfl⟩
  rw [hRW] at p9 p11
  rw [hRV] at p10 p11
  have C1 := Lib.hid (fun W => pow_is FX FN FP W p1 p2 p4 p6 (by omega))
  have C2 := Lib.hid (fun W => pow_no FX H W h82 h81)
  have C3 := Lib.hid (fun W => pow_is 4611686018427387904 FM RW W (by omega) p3 p5 hRW (by omega))
  have C4 := Lib.hid (fun W => pow_is 4611686018427387904 FN RV W (by omega) p2 p4 hRV (by omega))
  have hadd : ∀ T W, (binOp .add T (.float .f64 FN) (.float .f64 4602678819172646912)).run Tryz.prog W = .ok (.float .f64 H) W := fun T W => run_float_arith W .add T .f64 _ _ _ hH
  have hmul : ∀ T W, (binOp .mul T (.float .f64 RW) (.float .f64 RV)).run Tryz.prog W = .ok (.float .f64 4607182418800017408) W := fun T W => run_float_arith W .mul T .f64 _ _ _ p11
  have e1 := ord_self' (z := FP) p7
  have e2 : (FloatKind.f64.format.order 0 0 == some .eq) = true := by decide
  have e3 : (FloatKind.f64.format.order 4607182418800017408 4607182418800017408 == some .eq) = true := by decide +kernel
  have HP := Lib.hid hP
  have HFP := Lib.hid hFP
  have HPW := Lib.hid (fun (j : Nat) (h : j ≤ 16) => pw_le x1 x2 h)
  obtain ⟨P1, P2⟩ := hPb
  clear p1 p2 p3 p4 p5 p6 p7 p8 p9 p10 p11 hH h81 h82 hRW hRV hP hFP hT hfX
  go_enter Tryz.func7, Tryz.ntmps7
  go_wp2_with fail
  refine CF.out.mono ?_
  rintro e w0 ⟨rfl, hB⟩
  go_wp2_with fail
  go_loop [5, 6] (fun wv iv => ∃ j : Nat, j ≤ N ∧ iv = .int .i64 (j : Int) ∧ wv = .int .i64 (X ^ j)) (fun _ iv => N - (RowKit.intOf iv).toNat)
  case atStart => exact ⟨0, by omega, rfl, by rw [Int.pow_zero]⟩
  case round =>
    obtain ⟨j, hj, rfl, rfl⟩ := hrel
    by_cases hlt : j < N
    · have b1 := HPW.out j (by omega)
      have b2 := HPW.out (j + 1) (by omega)
      have hs : X ^ j * X = X ^ (j + 1) := (Int.pow_succ X j).symm
      obtain ⟨Q, hQ⟩ : ∃ Q, X ^ j = Q := ⟨_, rfl⟩
      obtain ⟨Q2, hQ2⟩ : ∃ Q, X ^ (j + 1) = Q := ⟨_, rfl⟩
      rw [hQ, hQ2] at hs
      rw [hQ] at b1
      rw [hQ2] at b2
      obtain ⟨b11, b12⟩ := b1
      obtain ⟨b21, b22⟩ := b2
      have HQ2 := Lib.hid hQ2
      rw [hQ]
      clear hQ hQ2
      go_wp2_with fail
      go_round
      case rel => exact ⟨j + 1, by omega, by go_num, by rw [HQ2.out]⟩
      case measure => simp [RowKit.intOf]; omega
    · obtain rfl : j = N := by omega
      rw [HP.out]
      have hFP := HFP.out
      go_wp2_with fail
      refine (C1.out _).mono ?_
      rintro e w1 ⟨rfl, hn⟩
      have hB := hB.trans (hn.mono hB.size)
      clear hn
      go_wp2_with fail
      refine (C2.out _).mono ?_
      rintro e w' ⟨rfl, rfl⟩
      go_wp2_with fail
      refine (C3.out _).mono ?_
      rintro e w2 ⟨rfl, hn⟩
      have hB := hB.trans (hn.mono hB.size)
      clear hn
      go_wp2_with fail
      refine (C4.out _).mono ?_
      rintro e w3 ⟨rfl, hn⟩
      have hB := hB.trans (hn.mono hB.size)
      clear hn
      go_wp2_with fail
      go_ret
      exact ⟨rfl, hB⟩
theorem numPowers_any (x n : Int) (w : World) (hT : PowTab w) :
    Calls Tryz.prog 7 #[.int .i64 x, .int .i64 n] w fun e w' => e = .returned (.bool true) ∧ Below w.heap.size w w' := by
  obtain ⟨N, hN⟩ : ∃ N : Nat, min (max n 0) 15 = (N : Int) := ⟨(min (max n 0) 15).toNat, by omega⟩
  exact numPowers_core x n _ N w rfl hN hT
end Go.Proofs.YtlpobomlnlakcaaGreatDoor

namespace Go.Proofs.YtlpobomlnlakcaaGreatDoor
open Go.RowKit Go.Lib

theorem isD_of {c : UInt8} (h : 48 ≤ c.toNat ∧ c.toNat ≤ 57) : isD c = true := isD_iff.2 h
theorem take_app {D tail : List UInt8} (hD : Dec D) (ht : ∀ c t, tail = c :: t → isD c = false) : (D ++ tail).takeWhile isD = D ∧ (D ++ tail).dropWhile isD = tail := by
  induction D with
  | nil =>
    cases tail with
    | nil => exact ⟨rfl, rfl⟩
    | cons c t =>
      have h := ht c t rfl
      rw [List.nil_append, List.takeWhile_cons, List.dropWhile_cons, h]
      exact ⟨rfl, rfl⟩
  | cons d D ih =>
    have h := isD_of (hD d (List.mem_cons_self))
    have hi := ih (fun c hc => hD c (List.mem_cons_of_mem _ hc))
    rw [List.cons_append, List.takeWhile_cons, List.dropWhile_cons, h]
    exact ⟨by rw [if_pos rfl, hi.1], by rw [if_pos rfl, hi.2]⟩
def Calm (tail : List UInt8) : Prop := ∀ c t, tail = c :: t → isD c = false ∧ c ≠ 46 ∧ c ≠ 101 ∧ c ≠ 69
theorem expL_calm {tail : List UInt8} (h : Calm tail) : expL tail = (0, tail) := by
  cases tail with
  | nil => rfl
  | cons c t =>
    obtain ⟨-, -, h1, h2⟩ := h c t rfl
    show (if c = 101 ∨ c = 69 then _ else _) = _
    rw [if_neg]
    rintro (h | h)
    · exact h1 h
    · exact h2 h
theorem numL_whole {D tail : List UInt8} (hD : Dec D) (hne : D ≠ []) (ht : Calm tail) : numL (D ++ tail) = (D, [], 0, (D.length : Int)) := by
  obtain ⟨h1, h2⟩ := take_app hD (fun c t e => (ht c t e).1)
  have hP : numP (D ++ tail) = (D, [], tail) := by
    rw [numP_none, h1, h2]
    rw [h2]
    intro h
    cases tail with
    | nil => cases h
    | cons c t => exact (ht c t rfl).2.1 (Option.some.inj h)
  rw [numL_yes (by rw [hP]; exact fun h => hne h.1), hP]
  show (D, [], (expL tail).1, ((D ++ tail).length : Int) - ((expL tail).2.length : Int)) = _
  rw [expL_calm ht, List.length_append]
  refine Prod.ext rfl (Prod.ext rfl (Prod.ext rfl ?_))
  show ((D.length + tail.length : Nat) : Int) - (tail.length : Int) = (D.length : Int)
  omega
theorem sgnL_digit {c : UInt8} {t : List UInt8} (h : isD c = true) : sgnL (c :: t) = (false, c :: t) := by
  have h1 := isD_iff.1 h
  have e1 : c ≠ 45 := by rintro rfl; exact absurd h1.1 (by decide)
  have e2 : c ≠ 43 := by rintro rfl; exact absurd h1.1 (by decide)
  unfold sgnL
  split
  · rename_i h; exact absurd (List.cons.inj h).1 e1
  · rename_i h; exact absurd (List.cons.inj h).1 e2
  · rfl
theorem noBlanks_keep {c : UInt8} {t : List UInt8} (h : ([32, 9, 10] : List UInt8).contains c = false) : noBlanks (c :: t) = c :: t := by
  unfold noBlanks
  rw [List.dropWhile_cons, h]
  rfl
theorem noBlanks_step {c : UInt8} {t : List UInt8} (h : ([32, 9, 10] : List UInt8).contains c = true) : noBlanks (c :: t) = noBlanks t := by
  unfold noBlanks
  rw [List.dropWhile_cons, h]
  rfl
theorem noBlanks_rep {c : UInt8} (h : ([32, 9, 10] : List UInt8).contains c = true) (k : Nat) (l : List UInt8) : noBlanks (List.replicate k c ++ l) = noBlanks l := by
  induction k with
  | zero => rfl
  | succ k ih => rw [List.replicate_succ, List.cons_append, noBlanks_step h, ih]
theorem digit_blank {c : UInt8} (h : isD c = true) : ([32, 9, 10] : List UInt8).contains c = false := by
  have h1 := isD_iff.1 h
  rw [List.contains_eq_mem, decide_eq_false_iff_not]
  intro hm
  rcases List.mem_cons.1 hm with rfl | hm
  · exact absurd h1.1 (by decide)
  · rcases List.mem_cons.1 hm with rfl | hm
    · exact absurd h1.1 (by decide)
    · rw [List.mem_singleton.1 hm] at h1
      exact absurd h1.1 (by decide)
theorem sigL_of {l m r : List UInt8} {b : Bool} (h1 : noBlanks l = m) (h2 : sgnL m = (b, r)) (hz : (numL r).2.2.2 ≠ 0) :
    sigL l = (b, (numL r).1, (numL r).2.1, (numL r).2.2.1, (numL r).2.2.2 + ((l.length : Int) - (r.length : Int))) := by
  have hr : sigR l = r := by unfold sigR; rw [h1, h2]
  unfold sigL
  rw [hr, h1, h2, if_neg hz]
/-- The digits of a whole number with blanks around and a sign ahead. -/
theorem sig_whole {K : Nat} {b : Bool} {D tail : List UInt8} (hD : Dec D) (hne : D ≠ []) (ht : Calm tail) :
    sigL (List.replicate K 32 ++ ((if b = true then [45] else []) ++ (D ++ tail))) = (b, D, [], 0, ((K + (if b = true then 1 else 0) + D.length : Nat) : Int)) := by
  obtain ⟨c, t, hc⟩ : ∃ c t, D = c :: t := by
    cases D with
    | nil => exact absurd rfl hne
    | cons c t => exact ⟨c, t, rfl⟩
  have hdig : isD c = true := isD_of (hD c (by rw [hc]; exact List.mem_cons_self))
  have hN := numL_whole hD hne ht
  have hz : (numL (D ++ tail)).2.2.2 ≠ 0 := by
    rw [hN]
    show (D.length : Int) ≠ 0
    rw [hc]
    simp
    omega
  cases b with
  | true =>
    have e := sigL_of (l := List.replicate K 32 ++ (45 :: (D ++ tail))) (m := 45 :: (D ++ tail)) (r := D ++ tail) (b := true) (by rw [noBlanks_rep (by decide), noBlanks_keep (by decide)]) rfl hz
    rw [hN] at e
    refine e.trans ?_
    refine Prod.ext rfl (Prod.ext rfl (Prod.ext rfl (Prod.ext rfl ?_)))
    show (D.length : Int) + (((List.replicate K (32 : UInt8) ++ (45 :: (D ++ tail))).length : Int) - ((D ++ tail).length : Int)) = ((K + 1 + D.length : Nat) : Int)
    simp only [List.length_append, List.length_replicate, List.length_cons]
    omega
  | false =>
    have e := sigL_of (l := List.replicate K 32 ++ (D ++ tail)) (m := D ++ tail) (r := D ++ tail) (b := false) (by rw [noBlanks_rep (by decide), hc, List.cons_append, noBlanks_keep (digit_blank hdig)]) (by rw [hc, List.cons_append, sgnL_digit hdig]) hz
    rw [hN] at e
    refine e.trans ?_
    refine Prod.ext rfl (Prod.ext rfl (Prod.ext rfl (Prod.ext rfl ?_)))
    show (D.length : Int) + (((List.replicate K (32 : UInt8) ++ (D ++ tail)).length : Int) - ((D ++ tail).length : Int)) = ((K + 0 + D.length : Nat) : Int)
    simp only [List.length_append, List.length_replicate]
    omega
theorem looks_whole {K : Nat} {b : Bool} {D tail : List UInt8} (hD : Dec D) (hne : D ≠ []) (ht : Calm tail) :
    looksL (List.replicate K 32 ++ ((if b = true then [45] else []) ++ (D ++ tail))) = (noBlanks tail).isEmpty := by
  unfold looksL
  rw [sig_whole hD hne ht]
  show (decide (0 < ((K + (if b = true then 1 else 0) + D.length : Nat) : Int)) && _) = _
  have hp : 0 < D.length := List.length_pos_iff.2 hne
  rw [decide_eq_true (by omega), Bool.true_and]
  show (noBlanks (List.drop (((K + (if b = true then 1 else 0) + D.length : Nat) : Int)).toNat _)).isEmpty = _
  rw [Int.toNat_natCast]
  congr 2
  rw [← List.append_assoc, ← List.append_assoc]
  refine List.drop_left' ?_
  cases b <;> simp only [List.length_append, List.length_replicate] <;> simp
theorem calm_blank (K : Nat) (X : List UInt8) (h : Calm X) : Calm (List.replicate K 10 ++ X) := by
  cases K with
  | zero => exact h
  | succ K =>
    intro c t e
    rw [List.replicate_succ, List.cons_append] at e
    rw [← (List.cons.inj e).1]
    decide
theorem calm_nil : Calm [] := fun c t e => by cases e
theorem calm_x : Calm [120] := fun c t e => by
  rw [← (List.cons.inj e).1]
  decide
end Go.Proofs.YtlpobomlnlakcaaGreatDoor

namespace Go.Proofs.YtlpobomlnlakcaaGreatDoor
open Go.RowKit Go.Lib

theorem rnd_ratio {A B A' B' : Nat} (hB : 0 < B) (hB' : 0 < B') (h : A * B' = A' * B) : rnd A B = rnd A' B' :=
  Nat.le_antisymm (rnd_mono hB hB' (by omega)) (rnd_mono hB' hB (by omega))
/-- Texts of digits of one length and one number are one text. -/
theorem pv_inj : ∀ {l m : List UInt8}, Dec l → Dec m → l.length = m.length → pv l = pv m → l = m
  | [], [], _, _, _, _ => rfl
  | c :: l, d :: m, hl, hm, hlen, hv => by
    have h1 := hl c (List.mem_cons_self ..)
    have h2 := hm d (List.mem_cons_self ..)
    have hl' : Dec l := fun x hx => hl x (List.mem_cons_of_mem _ hx)
    have hm' : Dec m := fun x hx => hm x (List.mem_cons_of_mem _ hx)
    have hlen' : l.length = m.length := by simpa using hlen
    rw [pv_cons, pv_cons, hlen'] at hv
    have b1 := pv_lt hl'
    have b2 := pv_lt hm'
    rw [hlen'] at b1
    have e := Nat.pow_pos (n := m.length) (show 0 < 10 by omega)
    have hcd : c.toNat - 48 = d.toNat - 48 := by
      have q1 : ((c.toNat - 48) * 10 ^ m.length + pv l) / 10 ^ m.length = c.toNat - 48 := by
        rw [Nat.mul_comm, Nat.mul_add_div e, Nat.div_eq_of_lt b1, Nat.add_zero]
      have q2 : ((d.toNat - 48) * 10 ^ m.length + pv m) / 10 ^ m.length = d.toNat - 48 := by
        rw [Nat.mul_comm, Nat.mul_add_div e, Nat.div_eq_of_lt b2, Nat.add_zero]
      rw [← q1, ← q2, hv]
    have : c = d := UInt8.toNat_inj.1 (by omega)
    subst this
    rw [pv_inj hl' hm' hlen' (by omega)]
theorem pv_split (l : List UInt8) (k : Nat) : pv l = pv (l.take k) * 10 ^ (l.drop k).length + pv (l.drop k) := by
  rw [← pv_append, List.take_append_drop]
theorem decs_pos_len (n : Nat) : 1 ≤ (decs n).length := by rw [← ahead_step, List.length_append]; simp
/-- A text without noughts ahead, but for the last digit, is its number's. -/
theorem decs_strip {l : List UInt8} {i : Nat} (hd : Dec l) (hi : i < l.length) (h0 : ∀ j, j < i → l[j]? = some 48) (h1 : i + 1 = l.length ∨ l[i] ≠ 48) : l.drop i = decs (pv l) := by
  have hv : pv l = pv (l.drop i) := by
    have ht : l.take i = List.replicate i 48 := by
      refine List.eq_replicate_iff.2 ⟨by rw [List.length_take]; omega, fun b hb => ?_⟩
      obtain ⟨j, hj, e⟩ := List.getElem_of_mem hb
      rw [List.length_take] at hj
      rw [List.getElem_take] at e
      have := h0 j (by omega)
      rw [List.getElem?_eq_getElem (by omega)] at this
      rw [← e]
      exact Option.some.inj this
    rw [pv_split l i, ht, pv_zeros, Nat.zero_mul, Nat.zero_add]
  rw [hv]
  have hdd := dec_drop hd i
  have hlen : (l.drop i).length = l.length - i := List.length_drop
  refine pv_inj hdd (dec_decs _) ?_ (pv_decs _).symm
  have hlt := pv_lt hdd
  have h2 : (decs (pv (l.drop i))).length ≤ (l.drop i).length := (decs_le (by omega)).2 hlt
  rcases h1 with h1 | h1
  · have := decs_pos_len (pv (l.drop i)); omega
  · rcases Nat.lt_or_ge (decs (pv (l.drop i))).length (l.drop i).length with h3 | h3
    · exfalso
      have hpos := decs_pos_len (pv (l.drop i))
      have h4 := (decs_le (n := pv (l.drop i)) (k := (l.drop i).length - 1) (by omega)).1 (by omega)
      have he : l.drop i = l[i] :: l.drop (i + 1) := List.drop_eq_getElem_cons hi
      rw [he, pv_cons, List.length_cons, Nat.add_sub_cancel] at h4
      have hb := hd l[i] (List.getElem_mem hi)
      have : 1 ≤ l[i].toNat - 48 := by
        rcases Nat.eq_zero_or_pos (l[i].toNat - 48) with h5 | h5
        · exact absurd (UInt8.toNat_inj.1 (show l[i].toNat = (48 : UInt8).toNat by show _ = 48; omega)) h1
        · exact h5
      have h6 : 1 * 10 ^ (l.drop (i + 1)).length ≤ (l[i].toNat - 48) * 10 ^ (l.drop (i + 1)).length := Nat.mul_le_mul_right _ this
      omega
    · omega
/-- The text that Fixed writes, out of any digits that are long enough. -/
theorem fix_strip {l : List UInt8} {i k p : Nat} (hd : Dec l) (hk : l.length = k + p) (hi : i < k) (h0 : ∀ j, j < i → l[j]? = some 48) (h1 : i + 1 = k ∨ l[i]? ≠ some 48) :
    fixT (decs (pv l)) p = if p = 0 then (l.take k).drop i else (l.take k).drop i ++ 46 :: l.drop k := by
  have hlt : (l.take k).length = k := by rw [List.length_take]; omega
  have hs : (l.take k).drop i = decs (pv (l.take k)) := by
    refine decs_strip (dec_take hd k) (by omega) (fun j hj => by rw [List.getElem?_take_of_lt (by omega)]; exact h0 j hj) ?_
    rcases h1 with h1 | h1
    · exact Or.inl (by omega)
    · refine Or.inr (fun e => h1 ?_)
      rw [List.getElem_take] at e
      rw [List.getElem?_eq_getElem (by omega), e]
  by_cases hp : p = 0
  · subst hp
    rw [if_pos rfl, fixT, if_pos rfl, hs, List.take_of_length_le (by omega)]
  · rw [if_neg hp, fixT, if_neg hp, hs]
    have hsp := pv_split l k
    have hdl : (l.drop k).length = p := by rw [List.length_drop]; omega
    rw [hdl] at hsp
    have hb := pv_lt (dec_drop hd k)
    rw [hdl] at hb
    have e10 := Nat.pow_pos (n := p) (show 0 < 10 by omega)
    have key : padT (decs (pv l)) p = decs (pv (l.take k)) ++ l.drop k := by
      have hdp : Dec (padT (decs (pv l)) p) := dec_append.2 ⟨dec_noughts _, dec_decs _⟩
      have hdr : Dec (decs (pv (l.take k)) ++ l.drop k) := dec_append.2 ⟨dec_decs _, dec_drop hd k⟩
      refine pv_inj hdp hdr ?_ ?_
      · rw [padT, List.length_append, List.length_replicate, List.length_append, hdl]
        have a1 := decs_pos_len (pv (l.take k))
        generalize hw : pv (l.take k) = wv at *
        obtain ⟨L, hL⟩ : ∃ L, (decs wv).length = L := ⟨_, rfl⟩
        rw [hL] at a1 ⊢
        rcases Nat.eq_zero_or_pos wv with h0 | h0
        · subst h0
          have : L = 1 := by rw [← hL]; rfl
          have h2 : (decs (pv l)).length ≤ p := (decs_le (by omega)).2 (by omega)
          omega
        · -- exact length
          have u1 := (decs_le (n := wv) (k := L) a1).1 (by omega)
          have u2 : (decs (pv l)).length ≤ L + p := (decs_le (by omega)).2 (by
            rw [hsp, Nat.pow_add]
            have : (wv + 1) * 10 ^ p ≤ 10 ^ L * 10 ^ p := Nat.mul_le_mul_right _ (by omega)
            rw [Nat.add_mul] at this
            omega)
          have u3 : L + p ≤ (decs (pv l)).length := by
            rcases Nat.lt_or_ge (decs (pv l)).length (L + p) with h3 | h3
            · exfalso
              have h4 := (decs_le (n := pv l) (k := L + p - 1) (by omega)).1 (by omega)
              rcases Nat.eq_zero_or_pos (L - 1) with h5 | h5
              · rw [show L + p - 1 = p by omega, hsp] at h4
                have : 1 * 10 ^ p ≤ wv * 10 ^ p := Nat.mul_le_mul_right _ h0
                omega
              · have h6 : ¬ wv < 10 ^ (L - 1) := fun h => by
                  have := (decs_le (n := wv) (k := L - 1) h5).2 h
                  omega
                rw [show L + p - 1 = (L - 1) + p by omega, Nat.pow_add, hsp] at h4
                have : 10 ^ (L - 1) * 10 ^ p ≤ wv * 10 ^ p := Nat.mul_le_mul_right _ (by omega)
                omega
            · exact h3
          omega
      · rw [padT, pv_noughts, pv_decs, pv_append, pv_decs, hdl]
        exact hsp
    rw [key, List.length_append, hdl, Nat.add_sub_cancel, List.take_left', List.drop_left'] <;> rfl
end Go.Proofs.YtlpobomlnlakcaaGreatDoor

namespace Go.Proofs.YtlpobomlnlakcaaGreatDoor
open Go.RowKit Go.Lib

theorem ba_app (a b : ByteArray) : (a ++ b).data.toList = a.data.toList ++ b.data.toList := by rw [ByteArray.data_append, Array.toList_append]
theorem eq_self {z : Nat} (h : mag z ≤ 9218868437227405312) : (FloatKind.f64.format.order z z == some .eq) = true := by
  have h1 := nan_no (b := z) h
  unfold nanB at h1
  rw [bne_eq_false_iff_eq] at h1
  rw [beq_iff_eq]
  exact h1
theorem eq_self_ne {z : Nat} (h : mag z ≤ 9218868437227405312) : (FloatKind.f64.format.order z z != some .eq) = false := nan_no (b := z) h
def sgB (b : Bool) : List UInt8 := if b = true then [45] else []
def BackRel (K : Nat) (S : List UInt8) (tv iv : Value) : Prop := ∃ (j : Nat) (Q : ByteArray), j ≤ K ∧ iv = .int .i64 (j : Int) ∧ tv = .string Q ∧ Q.data.toList = List.replicate j 32 ++ (S ++ List.replicate j 10)
set_option maxRecDepth 100000 in
set_option maxHeartbeats 4000000 in
theorem numBack_yes (a K : Nat) (bl : Int) (w : World) (ha : a < 18446744073709551616) (hK : min (max bl 0) 20 = (K : Int)) (h : wholeB a 4846369599423283200 = true) (hT : PowTab w) :
    Calls Tryz.prog 5 #[.int .u64 (a : Int), .int .i64 bl] w fun e w' => e = .returned (.bool true) ∧ Below w.heap.size w w' := by
  have CF := Lib.hid (nfixed_any w hT)
  have HT := Lib.hid (Lib.tabBelow_of_tabIs hT)
  have hlt : mag a < 4846369599423283200 := by
    unfold wholeB at h
    exact of_decide_eq_true (Bool.and_eq_true_iff.1 h).1
  have hwh : isWh (mag a) = true := by
    unfold wholeB at h
    exact (Bool.and_eq_true_iff.1 h).2
  have hq := whQ_lt hlt e16_V
  have hV := whQ_V hwh
  have hsm := sgn_mag a ha
  obtain ⟨b, hb⟩ : ∃ b, decide (whZ a < 0) = b := ⟨_, rfl⟩
  have hS : wholeT a = sgB b ++ decs (whQ (mag a)) := by
    unfold wholeT Lib.itoa
    by_cases hz : whZ a < 0
    · rw [if_pos hz, decD]
      rw [decide_eq_true hz] at hb
      subst hb
      have : (whZ a).natAbs = whQ (mag a) := by
        unfold whZ at hz ⊢
        split at hz
        · omega
        · rename_i h0; rw [if_neg h0]; omega
      rw [this]
      rfl
    · rw [if_neg hz, decD]
      rw [decide_eq_false hz] at hb
      subst hb
      have : (whZ a).toNat = whQ (mag a) := by
        unfold whZ at hz ⊢
        split
        · omega
        · rename_i h0; rw [if_neg h0] at hz; omega
      rw [this]
      rfl
  have hab : (FloatKind.f64.format.order (turned b (mag a)) a == some .eq) = true := by
    have hz : whQ (mag a) = 0 → mag a = 0 := fun h0 => by
      rw [h0, Nat.zero_mul] at hV
      exact V_inj (hV.trans (show 0 = V 0 by decide))
    rcases (by unfold sgn; omega : sgn a = 0 ∨ sgn a = 9223372036854775808) with h0 | h0
    · have : b = false := by
        rw [← hb, decide_eq_false_iff_not]
        unfold whZ
        rw [if_pos h0]
        omega
      subst this
      show (FloatKind.f64.format.order (mag a) a == some .eq) = true
      rw [show mag a = a by omega]
      exact eq_self (by omega)
    · by_cases hq0 : whQ (mag a) = 0
      · have : b = false := by
          rw [← hb, decide_eq_false_iff_not]
          unfold whZ
          rw [if_neg (by omega), hq0]
          decide
        subst this
        show (FloatKind.f64.format.order (mag a) a == some .eq) = true
        have hm := hz hq0
        rw [hm, show a = 9223372036854775808 by omega]
        decide
      · have : b = true := by
          rw [← hb, decide_eq_true_iff]
          unfold whZ
          rw [if_neg (by omega)]
          omega
        subst this
        show (FloatKind.f64.format.order (Op.negFloat .f64 (mag a)) a == some .eq) = true
        rw [neg_pos (by omega), show 9223372036854775808 + mag a = a by omega]
        exact eq_self (by omega)
  have hself := eq_self (z := a) (by omega)
  have cT := fun W => numTrunc_fin a W ha (by omega)
  rw [(trunc_wh (by omega)).2 hwh, hsm] at cT
  have cW := fun W hW => whole_yes a W ha h hW
  rw [hS] at cW
  obtain ⟨D, hD⟩ : ∃ D, decs (whQ (mag a)) = D := ⟨_, rfl⟩
  have hDd : Dec D := by rw [← hD]; exact dec_decs _
  have hDn : D ≠ [] := by
    have h1 := decs_pos_len (whQ (mag a))
    rw [hD] at h1
    exact List.length_pos_iff.1 h1
  have hDp : pv D = whQ (mag a) := by rw [← hD, pv_decs]
  have hDl : D.length ≤ 16 := by rw [← hD]; exact (decs_le (by omega)).2 (by omega)
  rw [hD] at cW
  obtain ⟨SB, hSB⟩ : ∃ SB : ByteArray, (⟨(sgB b ++ D).toArray⟩ : ByteArray) = SB := ⟨_, rfl⟩
  have hSl : SB.data.toList = sgB b ++ D := by rw [← hSB]
  rw [hSB] at cW
  have hsb : (sgB b).length ≤ 1 := by cases b <;> simp [sgB]
  obtain ⟨M, hM⟩ : ∃ M, mag a = M := ⟨_, rfl⟩
  rw [hM] at hlt hV hab hDp
  rw [hM] at hq
  have hV' : V M = pv (D ++ []) * S1074 := by rw [List.append_nil, hDp]; exact hV
  have cP := fun (Q : ByteArray) (hQ : Q.data.toList = List.replicate K 32 ++ ((sgB b ++ D) ++ List.replicate K 10)) (W : World) => prefix_V Q W (by rw [← ba_len, hQ]; simp; omega) b D [] 0 ((K + (if b = true then 1 else 0) + D.length : Nat) : Int)
    (by rw [hQ, List.append_assoc]; exact sig_whole hDd hDn (by have := calm_blank K [] calm_nil; rwa [List.append_nil] at this)) rfl M (by omega) hV'
  have cL := fun (Q : ByteArray) (hQ : Q.data.toList = List.replicate K 32 ++ ((sgB b ++ D) ++ List.replicate K 10)) (W : World) => looks_any Q W (by rw [← ba_len, hQ]; simp; omega)
  have cLt : ∀ (Q : ByteArray), Q.data.toList = List.replicate K 32 ++ ((sgB b ++ D) ++ List.replicate K 10) → ∀ W : World, Calls Tryz.prog 15 #[.string Q] W fun e w' => e = .returned (.bool true) ∧ Below W.heap.size W w' := fun Q hQ W => by
    have hc := cL Q hQ W
    have hl := looks_whole (K := K) (b := b) hDd hDn (by have := calm_blank K [] calm_nil; rwa [List.append_nil] at this)
    change looksL (List.replicate K 32 ++ (sgB b ++ (D ++ List.replicate K 10))) = _ at hl
    rw [← List.append_assoc (sgB b), ← hQ] at hl
    rw [hl] at hc
    have h0 : noBlanks (List.replicate K 10) = [] := by
      have := noBlanks_rep (c := 10) (by decide) K []
      rw [List.append_nil] at this
      exact this
    rw [h0] at hc
    exact hc
  have cLx : ∀ (Q : ByteArray), Q.data.toList = List.replicate K 32 ++ ((sgB b ++ D) ++ List.replicate K 10) → ∀ W : World, Calls Tryz.prog 15 #[.string (Q ++ ⟨#[120]⟩)] W fun e w' => e = .returned (.bool false) ∧ Below W.heap.size W w' := fun Q hQ W => by
    have hQx : (Q ++ ⟨#[120]⟩ : ByteArray).data.toList = List.replicate K 32 ++ (sgB b ++ (D ++ (List.replicate K 10 ++ [120]))) := by
      rw [ba_app, hQ]
      simp
    have hc := looks_any (Q ++ ⟨#[120]⟩) W (by rw [← ba_len, hQx]; simp; omega)
    have hl := looks_whole (K := K) (b := b) hDd hDn (calm_blank K [120] calm_x)
    change looksL (List.replicate K 32 ++ (sgB b ++ (D ++ (List.replicate K 10 ++ [120])))) = _ at hl
    rw [hQx, hl, noBlanks_rep (by decide)] at hc
    exact hc
  obtain ⟨Y, hY⟩ : ∃ Y, turned b M = Y := ⟨_, rfl⟩
  rw [hY] at cP hab
  obtain ⟨z, hz⟩ : ∃ z : Nat, K + (if b = true then 1 else 0) + D.length = z := ⟨_, rfl⟩
  rw [hz] at cP
  have hDl0 : 0 < D.length := List.length_pos_iff.2 hDn
  have hsbl : (sgB b).length = if b = true then 1 else 0 := by cases b <;> rfl
  have HQS := Lib.hid (fun (Q : ByteArray) (hQ : Q.data.toList = List.replicate K 32 ++ ((sgB b ++ D) ++ List.replicate K 10)) => show (0 : Int) < (z : Int) ∧ (z : Int) ≤ (Q.size : Int) ∧ Q.size ≤ 100 by
    rw [← ba_len, hQ]
    simp only [List.length_append, List.length_replicate, hsbl]
    refine ⟨by omega, by omega, ?_⟩
    cases b <;> simp <;> omega)
  have CP := Lib.hid cP
  have CT := Lib.hid cT
  have CW := Lib.hid cW
  have CLt := Lib.hid cLt
  have CLx := Lib.hid cLx
  have HSL := Lib.hid hSl
  have hSs : SB.size ≤ 17 := by rw [← ba_len, hSl, List.length_append]; omega
  have hfr := fun W => run_f64from a W
  have hK20 : K ≤ 20 := by omega
  have HK := Lib.hid hK
  clear hK hT h hlt hwh hq hV hsm hb hS cT cW hD hDd hDn hDp hDl hSB hSl hsb hM hV' cP cL cLt cLx hY hz hDl0 hsbl
  go_enter Tryz.func5, Tryz.ntmps5
  go_wp2_with fail
  refine CF.out.mono ?_
  rintro e w0 ⟨rfl, hB⟩
  go_wp2_with fail
  refine (CW.out _ (HT.out _ hB)).mono ?_
  rintro e w1 ⟨rfl, hn⟩
  have hB := hB.trans (hn.mono hB.size)
  clear hn
  go_wp2_with fail
  go_loop [8, 9] (BackRel K (sgB b ++ D)) (fun _ iv => K - (RowKit.intOf iv).toNat)
  case atStart => exact ⟨0, SB, by omega, rfl, rfl, by rw [HSL.out]; simp⟩
  case round =>
    obtain ⟨j, Q, hj, rfl, rfl, hQ⟩ := hrel
    have HQ := Lib.hid hQ
    have hQs : Q.size ≤ 100 := by
      have hl := congrArg List.length (HSL.out)
      rw [ba_len] at hl
      rw [← ba_len, hQ]
      simp only [List.length_append, List.length_replicate] at hl ⊢
      omega
    clear hQ
    by_cases hlt : j < K
    · have t1 : (j : Int) < bl := by have := HK.out; omega
      have t2 : (j : Int) < 20 := by omega
      go_wp2_with fail
      go_round
      case rel => exact ⟨j + 1, _, by omega, by go_num, rfl, by
        rw [ba_app, ba_app, HQ.out, List.replicate_succ, List.replicate_succ']
        simp⟩
      case measure => simp [RowKit.intOf]; omega
    · obtain rfl : j = K := by omega
      obtain ⟨hz1, hz2, -⟩ := HQS.out Q HQ.out
      have CP2 := Lib.hid (CP.out Q HQ.out)
      have CL2 := Lib.hid (CLt.out Q HQ.out)
      have CX2 := Lib.hid (CLx.out Q HQ.out)
      have htest : ¬ (j : Int) < bl ∨ ((j : Int) < bl ∧ ¬ (j : Int) < 20) := by have := HK.out; omega
      rcases htest with t1 | ⟨t1, t2⟩
      all_goals
        go_wp2_with fail
        refine (CP2.out _).mono ?_
        rintro e w2 ⟨rfl, hn⟩
        have hB := hB.trans (hn.mono hB.size)
        clear hn
        go_wp2_with fail
        refine (CL2.out _).mono ?_
        rintro e w3 ⟨rfl, hn⟩
        have hB := hB.trans (hn.mono hB.size)
        clear hn
        go_wp2_with fail
        refine (CX2.out _).mono ?_
        rintro e w4 ⟨rfl, hn⟩
        have hB := hB.trans (hn.mono hB.size)
        clear hn
        go_wp2_with fail
        refine (CT.out _).mono ?_
        rintro e w' ⟨rfl, rfl⟩
        go_wp2_with fail
        go_ret
        exact ⟨rfl, hB⟩
end Go.Proofs.YtlpobomlnlakcaaGreatDoor

namespace Go.Proofs.YtlpobomlnlakcaaGreatDoor
open Go.RowKit Go.Lib

theorem order_big {a : Nat} (ha : a < 18446744073709551616) (hm : mag a ≤ 9218868437227405312) (hs : sgn a = 0) (h : 4846369599423283200 ≤ mag a) :
    FloatKind.f64.format.order a 4846369599423283200 = some .gt ∨ FloatKind.f64.format.order a 4846369599423283200 = some .eq := by
  have hsm := sgn_mag a ha
  have e : a = mag a := by omega
  have ho : FloatKind.f64.format.order a 4846369599423283200 = some (compare (a : Int) ((4846369599423283200 : Nat) : Int)) := order_le (by omega) (by omega)
  rw [ho]
  rcases (by omega : 4846369599423283200 < a ∨ a = 4846369599423283200) with h1 | h1
  · left; rw [Int.compare_eq_gt.2 (by omega)]
  · right; rw [Int.compare_eq_eq.2 (by omega)]
theorem order_fin_pos {a B : Nat} (ha : a < 18446744073709551616) (hm : mag a < 9218868437227405312) (hB0 : 0 < B) (hB : B < 9218868437227405312) (h : mag a < B) : FloatKind.f64.format.order a B = some .lt := by
  have hsm := sgn_mag a ha
  show Ieee.double.order a B = some .lt
  rcases (by unfold sgn; omega : sgn a = 0 ∨ sgn a = 9223372036854775808) with h0 | h0
  · rw [show a = mag a by omega, order_V hm hB, Int.compare_eq_lt.2 (by omega)]
  · unfold Ieee.Format.order
    rw [read_fin hm, read_fin (b := B) (by rw [mag_no hB]; exact hB), mag_no hB, sign_no hB, show (a / 9223372036854775808 % 2 == 1) = true by rw [beq_iff_eq]; unfold sgn at h0; omega]
    show some (compare (Ieee.signed true (manF (mag a)) _) (Ieee.signed false (manF B) _)) = _
    have hp : 0 < manF B := by unfold manF; split <;> omega
    have h1 : Ieee.signed true (manF (mag a)) (expF (mag a) - min (expF (mag a)) (expF B)).toNat ≤ 0 := by
      show -((manF (mag a) <<< _ : Nat) : Int) ≤ 0
      exact Int.neg_nonpos_of_nonneg (Int.natCast_nonneg _)
    have h2 : 0 < Ieee.signed false (manF B) (expF B - min (expF (mag a)) (expF B)).toNat := by
      show (0 : Int) < ((manF B <<< _ : Nat) : Int)
      rw [Nat.shiftLeft_eq]
      have := Nat.mul_pos hp (Nat.pow_pos (n := (expF B - min (expF (mag a)) (expF B)).toNat) (show 0 < 2 by omega))
      omega
    exact congrArg some (Int.compare_eq_lt.2 (by omega))
theorem order_fin_neg {a B : Nat} (ha : a < 18446744073709551616) (hm : mag a < 9218868437227405312) (hB0 : 0 < B) (hB : B < 9218868437227405312) (h : mag a < B) : FloatKind.f64.format.order a (9223372036854775808 + B) = some .gt := by
  have hsm := sgn_mag a ha
  have hmB : mag (9223372036854775808 + B) = B := by unfold mag; omega
  show Ieee.double.order a (9223372036854775808 + B) = some .gt
  rcases (by unfold sgn; omega : sgn a = 0 ∨ sgn a = 9223372036854775808) with h0 | h0
  · unfold Ieee.Format.order
    rw [read_fin hm, read_fin (b := 9223372036854775808 + B) (by rw [hmB]; exact hB), hmB, show ((9223372036854775808 + B) / 9223372036854775808 % 2 == 1) = true by rw [beq_iff_eq]; omega, show (a / 9223372036854775808 % 2 == 1) = false by rw [beq_eq_false_iff_ne]; unfold sgn at h0; omega]
    show some (compare (Ieee.signed false (manF (mag a)) _) (Ieee.signed true (manF B) _)) = _
    have hp : 0 < manF B := by unfold manF; split <;> omega
    have h1 : 0 ≤ Ieee.signed false (manF (mag a)) (expF (mag a) - min (expF (mag a)) (expF B)).toNat := by
      show (0 : Int) ≤ ((manF (mag a) <<< _ : Nat) : Int)
      exact Int.natCast_nonneg _
    have h2 : Ieee.signed true (manF B) (expF B - min (expF (mag a)) (expF B)).toNat < 0 := by
      show -((manF B <<< _ : Nat) : Int) < 0
      rw [Nat.shiftLeft_eq]
      have := Nat.mul_pos hp (Nat.pow_pos (n := (expF B - min (expF (mag a)) (expF B)).toNat) (show 0 < 2 by omega))
      omega
    exact congrArg some (Int.compare_eq_gt.2 (by omega))
  · obtain ⟨m, hmm⟩ : ∃ m, mag a = m := ⟨_, rfl⟩
    rw [hmm] at hm h hsm
    rw [show a = 9223372036854775808 + m by omega, order_neg hm hB, Int.compare_eq_gt.2 (by omega)]
/-- Below minus ten to the sixteenth. -/
theorem order_small {a : Nat} (ha : a < 18446744073709551616) (hm : mag a ≤ 9218868437227405312) (hs : ¬ sgn a = 0) (h : 4846369599423283200 ≤ mag a) :
    FloatKind.f64.format.order a 4846369599423283200 = some .lt ∧ (FloatKind.f64.format.order a 14069741636278059008 = some .lt ∨ FloatKind.f64.format.order a 14069741636278059008 = some .eq) := by
  have hsm := sgn_mag a ha
  have h0 : sgn a = 9223372036854775808 := by unfold sgn at hs ⊢; omega
  have e : a = 9223372036854775808 + mag a := by omega
  obtain ⟨m, hmm⟩ : ∃ m, mag a = m := ⟨_, rfl⟩
  rw [hmm] at hm h e
  rcases (by omega : m < 9218868437227405312 ∨ m = 9218868437227405312) with h1 | h1
  · have ho : FloatKind.f64.format.order a 14069741636278059008 = some (compare ((4846369599423283200 : Nat) : Int) (m : Int)) := by
      rw [e, show (14069741636278059008 : Nat) = 9223372036854775808 + 4846369599423283200 by omega]
      exact order_neg h1 (by omega)
    refine ⟨?_, ?_⟩
    · show Ieee.double.order a 4846369599423283200 = some .lt
      unfold Ieee.Format.order
      rw [e, read_fin (b := 9223372036854775808 + m) (by unfold mag; omega), show Ieee.double.read 4846369599423283200 = .number false 5000000000000000 1 by decide, show ((9223372036854775808 + m) / 9223372036854775808 % 2 == 1) = true by rw [beq_iff_eq]; omega]
      have hmm2 : mag (9223372036854775808 + m) = m := by unfold mag; omega
      rw [hmm2]
      show some (compare (Ieee.signed true (manF m) _) (Ieee.signed false 5000000000000000 _)) = _
      have h3 : Ieee.signed true (manF m) (expF m - min (expF m) 1).toNat ≤ 0 := by
        show -((manF m <<< _ : Nat) : Int) ≤ 0
        exact Int.neg_nonpos_of_nonneg (Int.natCast_nonneg _)
      have h4 : 0 < Ieee.signed false 5000000000000000 (1 - min (expF m) 1).toNat := by
        show (0 : Int) < ((5000000000000000 <<< _ : Nat) : Int)
        rw [Nat.shiftLeft_eq]
        have := Nat.mul_pos (show 0 < 5000000000000000 by omega) (Nat.pow_pos (n := (1 - min (expF m) 1).toNat) (show 0 < 2 by omega))
        omega
      exact congrArg some (Int.compare_eq_lt.2 (by omega))
    · rw [ho]
      rcases (by omega : 4846369599423283200 < m ∨ m = 4846369599423283200) with h2 | h2
      · left; rw [Int.compare_eq_lt.2 (by omega)]
      · right; rw [Int.compare_eq_eq.2 (by omega)]
  · rw [e, h1]
    exact ⟨by decide, Or.inl (by decide)⟩
set_option maxRecDepth 100000 in
set_option maxHeartbeats 4000000 in
theorem numBack_no (a : Nat) (bl : Int) (w : World) (ha : a < 18446744073709551616) (h : wholeB a 4846369599423283200 = false) (hT : PowTab w) :
    Calls Tryz.prog 5 #[.int .u64 (a : Int), .int .i64 bl] w fun e w' => e = .returned (.bool true) ∧ Below w.heap.size w w' := by
  have CF := Lib.hid (nfixed_any w hT)
  have CW := Lib.hid (fun W => whole_no a W ha h)
  have hfr := fun W => run_f64from a W
  by_cases hnan : 9218868437227405312 < mag a
  · have t1 : (FloatKind.f64.format.order a a != some .eq) = true := nan_yes hnan
    clear hnan h hT
    go_enter Tryz.func5, Tryz.ntmps5
    go_wp2_with fail
    refine CF.out.mono ?_
    rintro e w0 ⟨rfl, hB⟩
    go_wp2_with fail
    refine (CW.out _).mono ?_
    rintro e w' ⟨rfl, rfl⟩
    go_wp2_with fail
    go_ret
    exact ⟨rfl, hB⟩
  · have t1 : (FloatKind.f64.format.order a a != some .eq) = false := eq_self_ne (by omega)
    by_cases hbig : 4846369599423283200 ≤ mag a
    · by_cases hs : sgn a = 0
      · have t2 := order_big ha (by omega) hs hbig
        clear hnan h hT hbig hs
        rcases t2 with t2 | t2
        all_goals
          go_enter Tryz.func5, Tryz.ntmps5
          go_wp2_with fail
          refine CF.out.mono ?_
          rintro e w0 ⟨rfl, hB⟩
          go_wp2_with fail
          refine (CW.out _).mono ?_
          rintro e w' ⟨rfl, rfl⟩
          go_wp2_with fail
          go_ret
          exact ⟨rfl, hB⟩
      · obtain ⟨t2, t3⟩ := order_small ha (by omega) hs hbig
        clear hnan h hT hbig hs
        rcases t3 with t3 | t3
        all_goals
          go_enter Tryz.func5, Tryz.ntmps5
          go_wp2_with fail
          refine CF.out.mono ?_
          rintro e w0 ⟨rfl, hB⟩
          go_wp2_with fail
          refine (CW.out _).mono ?_
          rintro e w' ⟨rfl, rfl⟩
          go_wp2_with fail
          go_ret
          exact ⟨rfl, hB⟩
    · have hf : mag a < 9218868437227405312 := by omega
      have t2 := order_fin_pos ha hf (B := 4846369599423283200) (by omega) (by omega) (by omega)
      have t3 := order_fin_neg ha hf (B := 4846369599423283200) (by omega) (by omega) (by omega)
      rw [show 9223372036854775808 + 4846369599423283200 = 14069741636278059008 by omega] at t3
      have hnw : isWh (mag a) = false := by
        unfold wholeB at h
        rw [decide_eq_true (by omega), Bool.true_and] at h
        exact h
      have cT := fun W => numTrunc_fin a W ha hf
      have te := order_eq_ss ha hf (truncR_lt hf)
      rw [decide_eq_false (fun e => by rw [(trunc_wh hf).1 e] at hnw; cases hnw)] at te
      obtain ⟨T, hTT⟩ : ∃ T, sgn a + truncR (mag a) = T := ⟨_, rfl⟩
      rw [hTT] at cT te
      have t4 : (FloatKind.f64.format.order T a != some .eq) = true := by rw [bne, te]; rfl
      have CT := Lib.hid cT
      clear hnan h hT hbig hf hnw cT hTT te
      go_enter Tryz.func5, Tryz.ntmps5
      go_wp2_with fail
      refine CF.out.mono ?_
      rintro e w0 ⟨rfl, hB⟩
      go_wp2_with fail
      refine (CW.out _).mono ?_
      rintro e w' ⟨rfl, rfl⟩
      go_wp2_with fail
      refine (CT.out _).mono ?_
      rintro e w' ⟨rfl, rfl⟩
      go_wp2_with fail
      go_ret
      exact ⟨rfl, hB⟩
theorem numBack_int (a bl : Int) (w : World) (h0 : 0 ≤ a) (h1 : a ≤ 18446744073709551615) (hT : PowTab w) :
    Calls Tryz.prog 5 #[.int .u64 a, .int .i64 bl] w fun e w' => e = .returned (.bool true) ∧ Below w.heap.size w w' := by
  obtain ⟨m, rfl⟩ : ∃ m : Nat, a = (m : Int) := ⟨a.toNat, by omega⟩
  obtain ⟨K, hK⟩ : ∃ K : Nat, min (max bl 0) 20 = (K : Int) := ⟨(min (max bl 0) 20).toNat, by omega⟩
  cases h : wholeB m 4846369599423283200 with
  | true => exact numBack_yes m K bl w (by omega) hK h hT
  | false => exact numBack_no m bl w (by omega) h hT
end Go.Proofs.YtlpobomlnlakcaaGreatDoor

namespace Go.Proofs.YtlpobomlnlakcaaGreatDoor
open Go.RowKit Go.Lib

theorem cut_even {n j : Nat} (hj : j ≤ n.log2 + 2) : Ieee.Toward.even.cut false n j = rnd n (2 ^ j) := by
  unfold Ieee.Toward.cut rnd
  simp only [Nat.min_eq_left hj, Nat.one_shiftLeft]
  generalize 2 ^ j = D
  by_cases h : D < 2 * (n % D) ∨ (2 * (n % D) = D ∧ n / D % 2 = 1)
  · rw [if_pos h]
    have e : (decide (D < 2 * (n % D)) || (D == 2 * (n % D) && n / D % 2 == 1)) = true := by
      rcases h with h | ⟨h1, h2⟩
      · rw [decide_eq_true h]; rfl
      · rw [h2, h1]; simp
    rw [e]
    rfl
  · rw [if_neg h]
    have e : (decide (D < 2 * (n % D)) || (D == 2 * (n % D) && n / D % 2 == 1)) = false := by
      rw [Bool.or_eq_false_iff]
      refine ⟨decide_eq_false fun h1 => h (Or.inl h1), ?_⟩
      rw [Bool.and_eq_false_iff]
      by_cases h1 : D = 2 * (n % D)
      · right
        rw [beq_eq_false_iff_ne]
        exact fun h2 => h (Or.inr ⟨h1.symm, h2⟩)
      · left
        rw [beq_eq_false_iff_ne]
        exact h1
    rw [e]
    rfl
theorem near_big {n p : Nat} (hp : n.log2 = p + 52) (h0 : 0 < n) : Ieee.double.nearest false n 0 = min ((p + 1074) * 4503599627370496 + rnd n (2 ^ p)) 9218868437227405312 := by
  have hlast : max ((0 : Int) + (n.log2 : Int) - ((52 : Nat) : Int)) (-1074) = (p : Int) := by omega
  unfold Ieee.Format.nearest
  rw [if_neg (by omega)]
  simp only [dbl_frac, dbl_least, dbl_binade, dbl_inf, hlast]
  rw [show ((0 : Int) - (p : Int)).toNat = 0 by omega, show ((p : Int) - 0).toNat = p by omega, Nat.shiftLeft_zero, cut_even (by omega), show ((p : Int) - -1074).toNat = p + 1074 by omega, word_pos]
theorem rdM_one (n p : Nat) : rdM n 1 (p : Int) = rnd n (2 ^ p) := by
  unfold rdM rdA rdB
  rw [show (-(p : Int)).toNat = 0 by omega, Int.toNat_natCast, Nat.pow_zero, Nat.mul_one, Nat.one_mul]
theorem rnd_next {n D : Nat} (hD : 0 < D) (hq : n / D = 9007199254740991) (h : rnd n D = 9007199254740992) : rnd n (D * 2) = 4503599627370496 := by
  have h1 : n / (D * 2) = 4503599627370495 := by rw [← Nat.div_div_eq_div_mul, hq]
  have h2 : n % (D * 2) = n % D + D := by rw [Nat.mod_mul, hq]; omega
  have h3 : 0 < n % D := by
    rcases Nat.eq_zero_or_pos (n % D) with h0 | h0
    · exfalso
      unfold rnd at h
      rw [h0, if_neg (by omega), hq] at h
      omega
    · exact h0
  unfold rnd
  rw [h1, h2, if_pos (by left; omega)]
/-- A natural as a float is the nearest one. -/
theorem float_near {n : Nat} : Near (2 * n * S1074) 1 (floatOfInt .f64 (n : Int)) := by
  rcases Nat.lt_or_ge n 9007199254740992 with h | h
  · rw [float_nat h]
    have h1 := Near.self (r := fw n) (by have := fw_bd h; omega)
    rwa [fw_V h, ← Nat.mul_assoc] at h1
  · have e : floatOfInt .f64 (n : Int) = Ieee.double.nearest false n 0 := by
      show Ieee.double.write (.number (decide ((n : Int) < 0)) ((n : Int)).natAbs 0) = _
      rw [show decide ((n : Int) < 0) = false from decide_eq_false (by omega), Int.natAbs_natCast]
      rfl
    obtain ⟨b1, b2⟩ := log2_bd (show 0 < n by omega)
    have hL : 52 < n.log2 := by
      have h3 : 2 ^ 53 < 2 ^ (n.log2 + 1) := Nat.lt_of_le_of_lt h b2
      have := (Nat.pow_lt_pow_iff_right (show 1 < 2 by omega)).1 h3
      omega
    obtain ⟨p, hp⟩ : ∃ p, n.log2 = p + 52 := ⟨n.log2 - 52, by omega⟩
    rw [hp] at b1 b2
    have hD : 0 < 2 ^ p := Nat.pow_pos (by omega)
    rw [Nat.pow_add] at b1
    rw [show p + 52 + 1 = p + 53 by omega, Nat.pow_add] at b2
    have hq1 : n / 2 ^ p < 9007199254740992 := by
      rw [Nat.div_lt_iff_lt_mul hD, Nat.mul_comm]
      exact b2
    have hr := rnd_le n (2 ^ p)
    rw [e, near_big hp (by omega)]
    by_cases hc : rnd n (2 ^ p) < 9007199254740992
    · have hl : Low n 1 (p : Int) := by
        right
        unfold rdA rdB
        rw [show (-(p : Int)).toNat = 0 by omega, Int.toNat_natCast, Nat.pow_zero, Nat.mul_one, Nat.one_mul]
        have h5 : 18014398509481983 * 2 ^ p ≤ 4 * (2 ^ p * 2 ^ 52) := by
          rw [Nat.mul_comm (2 ^ p), ← Nat.mul_assoc]
          exact Nat.mul_le_mul_right _ (by decide)
        exact Nat.le_trans h5 (Nat.mul_le_mul_left _ b1)
      have hn := read_near (N := n) (D := 1) (p := (p : Int)) (by omega) (by omega) (by rw [rdM_one]; exact hc) hl
      rw [rdM_one, show ((p : Int) + 1074).toNat = p + 1074 by omega] at hn
      exact hn
    · have hrr : rnd n (2 ^ p) = 9007199254740992 := by omega
      have hqq : n / 2 ^ p = 9007199254740991 := by omega
      have hnx := rnd_next hD hqq hrr
      have e1 : ((p : Int) + 1) = ((p + 1 : Nat) : Int) := by omega
      have hM : rdM n 1 ((p : Int) + 1) = 4503599627370496 := by rw [e1, rdM_one, Nat.pow_succ]; exact hnx
      have hl : Low n 1 ((p : Int) + 1) := low_next (by omega) (by rw [show (p : Int) + 1 - 1 = (p : Int) by omega, rdM_one, hrr]; exact Nat.le_refl _)
      have hn := read_near (N := n) (D := 1) (p := (p : Int) + 1) (by omega) (by omega) (by rw [hM]; omega) hl
      rw [hM, show ((p : Int) + 1 + 1074).toNat = p + 1075 by omega] at hn
      rw [hrr, show (p + 1074) * 4503599627370496 + 9007199254740992 = (p + 1075) * 4503599627370496 + 4503599627370496 by omega]
      exact hn
theorem take_more {D tail : List UInt8} (hD : Dec D) : (D ++ tail).takeWhile isD = D ++ tail.takeWhile isD ∧ (D ++ tail).dropWhile isD = tail.dropWhile isD := by
  induction D with
  | nil => exact ⟨rfl, rfl⟩
  | cons d D ih =>
    have h := isD_of (hD d (List.mem_cons_self))
    have hi := ih (fun c hc => hD c (List.mem_cons_of_mem _ hc))
    rw [List.cons_append, List.takeWhile_cons, List.dropWhile_cons, h]
    exact ⟨by rw [if_pos rfl, hi.1, List.cons_append], by rw [if_pos rfl, hi.2]⟩
theorem numL_ge {D tail : List UInt8} (hD : Dec D) (hne : D ≠ []) : (D.length : Int) ≤ (numL (D ++ tail)).2.2.2 := by
  obtain ⟨h1, h2⟩ := take_more (tail := tail) hD
  have hs := (List.dropWhile_suffix (l := tail) isD).length_le
  have hP1 : (numP (D ++ tail)).1 = D ++ tail.takeWhile isD := by
    rw [← h1]
    unfold numP
    split <;> rfl
  have hP2 : (numP (D ++ tail)).2.2.length ≤ tail.length := by
    unfold numP
    split
    · rename_i r e
      rw [h2] at e
      rw [e, List.length_cons] at hs
      have := (List.dropWhile_suffix (l := r) isD).length_le
      show (r.dropWhile isD).length ≤ _
      omega
    · show ((D ++ tail).dropWhile isD).length ≤ _
      rw [h2]
      exact hs
  rw [numL_yes (by
    rw [hP1]
    intro h
    exact hne (List.append_eq_nil_iff.1 h.1).1)]
  show (D.length : Int) ≤ ((D ++ tail).length : Int) - ((expL (numP (D ++ tail)).2.2).2.length : Int)
  have hx := (expL_bd (numP (D ++ tail)).2.2).2.2
  rw [List.length_append]
  omega
/-- Four texts with one numeral. -/
theorem four_sigs {D tail : List UInt8} {X1 X2 : List UInt8} {xe z : Int} (hD : Dec D) (hne : D ≠ []) (hX : numL (D ++ tail) = (X1, X2, xe, z)) :
    sigL (D ++ tail) = (false, X1, X2, xe, z) ∧ sigL (45 :: (D ++ tail)) = (true, X1, X2, xe, z + 1) ∧ sigL (32 :: 10 :: 9 :: (D ++ tail)) = (false, X1, X2, xe, z + 3) ∧ sigL (43 :: (D ++ tail)) = (false, X1, X2, xe, z + 1) := by
  have hge := numL_ge (tail := tail) hD hne
  rw [hX] at hge
  have hp : 0 < D.length := List.length_pos_iff.2 hne
  obtain ⟨c, t, hc⟩ : ∃ c t, D = c :: t := by
    cases D with
    | nil => exact absurd rfl hne
    | cons c t => exact ⟨c, t, rfl⟩
  have hdig : isD c = true := isD_of (hD c (by rw [hc]; exact List.mem_cons_self))
  have hnb : noBlanks (D ++ tail) = D ++ tail := by rw [hc, List.cons_append, noBlanks_keep (digit_blank hdig)]
  have hsg : sgnL (D ++ tail) = (false, D ++ tail) := by rw [hc, List.cons_append, sgnL_digit hdig]
  have hz : (numL (D ++ tail)).2.2.2 ≠ 0 := by
    rw [hX]
    show z ≠ 0
    have : (D.length : Int) ≤ z := hge
    omega
  have a := sigL_of hnb hsg hz
  have b := sigL_of (l := 45 :: (D ++ tail)) (m := 45 :: (D ++ tail)) (r := D ++ tail) (b := true) (noBlanks_keep (by decide)) rfl hz
  have d := sigL_of (l := 32 :: 10 :: 9 :: (D ++ tail)) (m := D ++ tail) (r := D ++ tail) (b := false) (by rw [noBlanks_step (by decide), noBlanks_step (by decide), noBlanks_step (by decide), hnb]) hsg hz
  have f := sigL_of (l := 43 :: (D ++ tail)) (m := 43 :: (D ++ tail)) (r := D ++ tail) (b := false) (noBlanks_keep (by decide)) rfl hz
  rw [hX] at a b d f
  refine ⟨a.trans ?_, b.trans ?_, d.trans ?_, f.trans ?_⟩ <;> refine Prod.ext rfl (Prod.ext rfl (Prod.ext rfl (Prod.ext rfl ?_)))
  · show z + (((D ++ tail).length : Int) - ((D ++ tail).length : Int)) = z
    omega
  · show z + (((45 :: (D ++ tail)).length : Int) - ((D ++ tail).length : Int)) = z + 1
    rw [List.length_cons]; omega
  · show z + (((32 :: 10 :: 9 :: (D ++ tail)).length : Int) - ((D ++ tail).length : Int)) = z + 3
    rw [List.length_cons, List.length_cons, List.length_cons]; omega
  · show z + (((43 :: (D ++ tail)).length : Int) - ((D ++ tail).length : Int)) = z + 1
    rw [List.length_cons]; omega
end Go.Proofs.YtlpobomlnlakcaaGreatDoor

namespace Go.Proofs.YtlpobomlnlakcaaGreatDoor
open Go.RowKit Go.Lib

def strE : Value → Nat | .string s => if s.size = 0 then 1 else 0 | _ => 0
theorem strE_str (s : ByteArray) : strE (.string s) = if s.size = 0 then 1 else 0 := rfl
def tens (m : Nat) : List UInt8 := if m = 0 then [] else decs m
theorem tens_step (m : Nat) : tens (m / 10) ++ [db (m % 10)] = decs m := by
  rw [← ahead_step m]
  congr 1
  unfold tens ahead
  by_cases h : m < 10
  · rw [if_pos h, if_pos (by omega)]
  · rw [if_neg h, if_neg (by omega)]
/-- How far the digits of n are laid. -/
def SigRel (n : Nat) (w : World) (sv kv : Value) (W : World) : Prop :=
  ∃ (m : Nat) (S : ByteArray), m < 18446744073709551616 ∧ kv = .int .u64 (m : Int) ∧ sv = .string S ∧ ((S.data.toList = [] ∧ m = n) ∨ (S.data.toList ≠ [] ∧ decs n = tens m ++ S.data.toList)) ∧ Below w.heap.size w W
theorem zero_len : (0 - (([] : List UInt8).length : Int)).toNat = 0 := by decide
theorem zero_len' : (-(0 - (([] : List UInt8).length : Int))).toNat = 0 := by decide
theorem nb_nil : (noBlanks []).isEmpty = true := by decide
theorem near_eq {X D r s : Nat} (hD : 0 < D) (h : Near X D r) (h2 : Near X D s) : s = r := h2.uniq hD hD rfl h
set_option maxRecDepth 100000 in
set_option maxHeartbeats 1500000 in
theorem numSigns_tail (n : Nat) (T : ByteArray) (w : World) (hn : n < 18446744073709551616) (hTs : T.size ≤ 100) (hT : PowTab w) :
    Calls Tryz.prog 8 #[.int .u64 (n : Int), .string T] w fun e w' => e = .returned (.bool true) ∧ Below w.heap.size w w' := by
  have CF := Lib.hid (nfixed_any w hT)
  have hdl : (decs n).length ≤ 20 := (decs_le (by omega)).2 (by omega)
  have hd1 : (decs n).length ≠ 0 := by have := decs_pos_len n; omega
  have hdd := dec_decs n
  have hne : decs n ≠ [] := fun e => hd1 (by rw [e]; rfl)
  obtain ⟨TL, hTL⟩ : ∃ TL, T.data.toList = TL := ⟨_, rfl⟩
  obtain ⟨X1, X2, xe, z, hX⟩ : ∃ X1 X2 xe z, numL (decs n ++ TL) = (X1, X2, xe, z) := ⟨_, _, _, _, rfl⟩
  obtain ⟨s1, s2, s3, s4⟩ := four_sigs hdd hne hX
  have hge := numL_ge (tail := TL) hdd hne
  rw [hX] at hge
  replace hge : ((decs n).length : Int) ≤ z := hge
  have hle := (numL_bd (decs n ++ TL)).2
  rw [hX] at hle
  replace hle : z ≤ ((decs n ++ TL).length : Int) := hle
  rw [List.length_append, ← hTL, ba_len] at hle
  obtain ⟨XX, hXX⟩ : ∃ XX, 2 * (pv (X1 ++ X2) * 10 ^ (xe - (X2.length : Int)).toNat) * S1074 = XX := ⟨_, rfl⟩
  obtain ⟨DD, hDD⟩ : ∃ DD, 10 ^ (-(xe - (X2.length : Int))).toNat = DD := ⟨_, rfl⟩
  have hDp : 0 < DD := by rw [← hDD]; exact Nat.pow_pos (by omega)
  obtain ⟨SB, hSB⟩ : ∃ SB : ByteArray, (⟨(decs n).toArray⟩ : ByteArray) = SB := ⟨_, rfl⟩
  have hSl : SB.data.toList = decs n := by rw [← hSB]
  have hSs : SB.size = (decs n).length := by rw [← ba_len, hSl]
  have l2 : (⟨#[45]⟩ ++ SB ++ T : ByteArray).data.toList = 45 :: (decs n ++ TL) := by rw [ba_app, ba_app, hSl, hTL]; simp
  have l3 : (⟨#[32, 10, 9]⟩ ++ SB ++ T : ByteArray).data.toList = 32 :: 10 :: 9 :: (decs n ++ TL) := by rw [ba_app, ba_app, hSl, hTL]; simp
  have l4 : (⟨#[43]⟩ ++ SB ++ T : ByteArray).data.toList = 43 :: (decs n ++ TL) := by rw [ba_app, ba_app, hSl, hTL]; simp
  have l1 : (SB ++ T : ByteArray).data.toList = decs n ++ TL := by rw [ba_app, hSl, hTL]
  have c1 := fun W => prefix_any (SB ++ T) W (by rw [ByteArray.size_append]; omega) false X1 X2 xe z (by rw [l1]; exact s1)
  have c2 := fun W => prefix_any (⟨#[45]⟩ ++ SB ++ T) W (by rw [ByteArray.size_append, ByteArray.size_append]; change 1 + SB.size + T.size ≤ _; omega) true X1 X2 xe (z + 1) (by rw [l2]; exact s2)
  have c3 := fun W => prefix_any (⟨#[32, 10, 9]⟩ ++ SB ++ T) W (by rw [ByteArray.size_append, ByteArray.size_append]; change 3 + SB.size + T.size ≤ _; omega) false X1 X2 xe (z + 3) (by rw [l3]; exact s3)
  have c4 := fun W => prefix_any (⟨#[43]⟩ ++ SB ++ T) W (by rw [ByteArray.size_append, ByteArray.size_append]; change 1 + SB.size + T.size ≤ _; omega) false X1 X2 xe (z + 1) (by rw [l4]; exact s4)
  rw [hXX, hDD] at c1 c2 c3 c4
  have c5 : ∀ W : World, Calls Tryz.prog 15 #[.string SB] W fun e w' => e = .returned (.bool true) ∧ Below W.heap.size W w' := fun W => by
    have hc := looks_any SB W (by omega)
    have hl := looks_whole (K := 0) (b := false) (D := decs n) (tail := []) hdd hne calm_nil
    rw [List.replicate_zero, List.nil_append, if_neg (by decide), List.nil_append, List.append_nil, ← hSl, nb_nil] at hl
    rw [hl] at hc
    exact hc
  have HF := Lib.hid (fun (r : Nat) (h : Near XX DD r) (h0 : TL = []) => show r = floatOfInt .f64 (n : Int) by
    rw [h0, numL_whole hdd hne calm_nil] at hX
    have e1 : X1 = decs n := congrArg Prod.fst hX.symm
    have e2 : X2 = [] := congrArg (fun x => x.2.1) hX.symm
    have e3 : xe = 0 := congrArg (fun x => x.2.2.1) hX.symm
    rw [e1, e2, e3, List.append_nil, pv_decs] at hXX
    rw [e2, e3] at hDD
    rw [zero_len, Nat.pow_zero, Nat.mul_one] at hXX
    rw [zero_len', Nat.pow_zero] at hDD
    have hX' := hXX
    have hD' := hDD
    have h2 := float_near (n := n)
    rw [hX', hD'] at h2
    exact near_eq hDp h2 h)
  have hTt : (TL = [] ∧ T.toList = [] ∧ T.toList.isEmpty = true) ∨ (¬ TL = [] ∧ ¬ T.toList = [] ∧ T.toList.isEmpty = false) := by
    rw [Lib.toList_data, hTL]
    cases TL with
    | nil => exact Or.inl ⟨rfl, rfl, rfl⟩
    | cons a b => exact Or.inr ⟨by simp, by simp, rfl⟩
  have C1 := Lib.hid c1
  have C2 := Lib.hid c2
  have C3 := Lib.hid c3
  have C4 := Lib.hid c4
  have C5 := Lib.hid c5
  have HSL := Lib.hid hSl
  have hz0 : (SB.size : Int) ≤ z := by omega
  have hz1 : z ≤ 120 := by omega
  have hT1 : ¬ (100 : Int) < (T.size : Int) := by omega
  have hSs2 : SB.size ≤ 20 := by omega
  have HDL := Lib.hid hdl
  clear l1 l2 l3 l4 hTL hT hdl hd1 hdd hne hX s1 s2 s3 s4 hge hle hXX hDD hSB hSl hSs c1 c2 c3 c4 c5
  go_enter Tryz.func8, Tryz.ntmps8
  go_wp2_with fail
  refine CF.out.mono ?_
  rintro e w0 ⟨rfl, hB⟩
  go_wp2_with fail
  go_loopw [5, 6] (fun sv kv wr => SigRel n w sv kv wr) (fun sv kv _ => 2 * (RowKit.intOf kv).toNat + strE sv)
  case atStart => exact ⟨n, ⟨#[]⟩, hn, rfl, rfl, Or.inl ⟨rfl, rfl⟩, hB⟩
  case round =>
    clear hB
    obtain ⟨m, S, hm, rfl, rfl, hS, hB⟩ := hrel
    have hSs : S.size ≤ 20 := by
      rw [← ba_len]
      rcases hS with ⟨h, -⟩ | ⟨-, h⟩
      · rw [h]; simp
      · have := congrArg List.length h
        rw [List.length_append] at this
        have := HDL.out
        omega
    have HS := Lib.hid hS
    clear hS
    by_cases hgo : 0 < m ∨ S.data.toList = []
    · have HNEW := Lib.hid (show decs n = tens (m / 10) ++ (db (m % 10) :: S.data.toList) by
        have h := HS.out
        rcases h with ⟨h1, h2⟩ | ⟨h1, h2⟩
        · rw [h1, ← h2, tens_step]
        · rw [h2]
          have hm0 : 0 < m := hgo.elim id (fun e => absurd e h1)
          unfold tens
          rw [if_neg (by omega)]
          conv => lhs; rw [← tens_step m]
          rw [List.append_assoc]
          rfl)
      have hcv := fun (W : World) => byte_str W (48 + (m : Int) % 10) (by omega) (by omega)
      rw [byte_db] at hcv
      have HME := Lib.hid (show ∀ S' : ByteArray, S'.size ≠ 0 → 2 * (m / 10) + strE (.string S') < 2 * m + strE (.string S) by
        intro S' h'
        have e1 : strE (.string S') = 0 := by rw [strE_str, if_neg h']
        rw [e1]
        rcases hgo with h | h
        · omega
        · have e2 : strE (.string S) = 1 := by
            rw [strE_str, if_pos (by rw [← ba_len, h]; rfl)]
          rw [e2]
          omega)
      have hdv : (m : Int) / 10 = ((m / 10 : Nat) : Int) := by omega
      obtain ⟨q, hq⟩ : ∃ q, m / 10 = q := ⟨_, rfl⟩
      have HQ := Lib.hid hq
      rw [hq] at hdv
      have hqm : q < 18446744073709551616 := by omega
      have htest : (0 : Int) < (m : Int) ∨ (¬ (0 : Int) < (m : Int) ∧ S.toList = [] ∧ S.toList.isEmpty = true) := by
        rcases Nat.eq_zero_or_pos m with h0 | h0
        · right
          have h1 : S.data.toList = [] := hgo.elim (fun h => absurd h (by omega)) id
          rw [Lib.toList_data, h1]
          exact ⟨by omega, rfl, rfl⟩
        · left; omega
      clear hgo hq
      rcases htest with t1 | ⟨t1, t2, t3⟩
      · go_wp2_with fail
        go_roundw
        case rel => exact ⟨q, _, hqm, rfl, rfl, Or.inr ⟨by rw [ba_app]; simp, by rw [ba_app, ← HQ.out]; exact HNEW.out⟩, hB.alloc hB.size _⟩
        case measure =>
          have h := HME.out (⟨#[db (m % 10)]⟩ ++ S) (by rw [ByteArray.size_append]; change 1 + S.size ≠ 0; omega)
          rw [HQ.out] at h
          simpa [RowKit.intOf] using h
      · have hm0 : m = 0 := by omega
        have HM0 := Lib.hid hm0
        have hcv0 := fun (W : World) => byte_str W 48 (by omega) (by omega)
        rw [show UInt8.ofNat (48 : Int).toNat = db 0 by decide] at hcv0
        have HNEW2 := Lib.hid (show decs n = tens 0 ++ (db 0 :: S.data.toList) by have h := HNEW.out; rw [HQ.out, show q = 0 by have := HQ.out; omega, hm0] at h; exact h)
        have HME2 := Lib.hid (show strE (.string (⟨#[db 0]⟩ ++ S)) < strE (.string S) by
          have h := HME.out (⟨#[db 0]⟩ ++ S) (by rw [ByteArray.size_append]; change 1 + S.size ≠ 0; omega)
          rw [hm0] at h
          simpa using h)
        subst hm0
        clear t1 hcv hdv HNEW HME HQ
        have t1 : ¬ (0 : Int) < ((0 : Nat) : Int) := by omega
        go_wp2_with fail
        go_roundw
        case rel => exact ⟨0, _, by omega, rfl, rfl, Or.inr ⟨by rw [ba_app]; simp, by rw [ba_app]; exact HNEW2.out⟩, hB.alloc hB.size _⟩
        case measure =>
          have h := HME2.out
          simpa [RowKit.intOf] using h
    · have hm0 : m = 0 := by omega
      have hSe : S = SB := by
        have h := HS.out
        rcases h with ⟨h1, -⟩ | ⟨-, h2⟩
        · exact absurd (Or.inr h1) hgo
        · rw [hm0] at h2
          apply ByteArray.ext
          apply Array.ext'
          rw [HSL.out, h2]
          rfl
      have t1 : ¬ (0 : Int) < (m : Int) := by omega
      have t2 : ¬ S.toList = [] := by rw [Lib.toList_data]; exact fun h => hgo (Or.inr h)
      have t3 : S.toList.isEmpty = false := by cases h : S.toList with | nil => exact absurd h t2 | cons a b => rfl
      subst hSe
      clear HS hgo hm0
      rcases hTt with ⟨u0, u1, u2⟩ | ⟨u0, u1, u2⟩
      · go_wp2_with fail
        refine (C1.out _).mono ?_
        rintro e w1 ⟨r, rfl, hr, hn⟩
        have hB := hB.trans (hn.mono hB.size)
        clear hn
        go_wp2_with fail
        refine (C2.out _).mono ?_
        rintro e w2 ⟨r2, rfl, hr2, hn⟩
        have hB := hB.trans (hn.mono hB.size)
        clear hn
        go_wp2_with fail
        refine (C3.out _).mono ?_
        rintro e w3 ⟨r3, rfl, hr3, hn⟩
        have hB := hB.trans (hn.mono hB.size)
        clear hn
        go_wp2_with fail
        refine (C4.out _).mono ?_
        rintro e w4 ⟨r4, rfl, hr4, hn⟩
        have hB := hB.trans (hn.mono hB.size)
        clear hn
        have e2 : r2 = r := near_eq hDp hr.out hr2.out
        have e3 : r3 = r := near_eq hDp hr.out hr3.out
        have e4 : r4 = r := near_eq hDp hr.out hr4.out
        have hfl : floatOfInt .f64 (n : Int) = r := (HF.out r hr.out u0).symm
        have htop := hr.out.top
        rw [e2, e3, e4]
        have hng : Op.negFloat .f64 (turned true r) = r := by
          show Op.negFloat .f64 (Op.negFloat .f64 r) = r
          rw [neg_pos (t := r) (by omega), neg_neg' (by omega)]
        obtain ⟨Y, hY⟩ : ∃ Y, turned true r = Y := ⟨_, rfl⟩
        have hY0 : turned false r = r := rfl
        rw [hY] at hng
        rw [hY, hY0]
        have heq := eq_self (z := r) (by unfold mag; omega)
        clear e2 e3 e4 hr hr2 hr3 hr4 hY hY0 u0
        go_wp2_with (simp only [run_neg, hng])
        refine (C5.out _).mono ?_
        rintro e w5 ⟨rfl, hn⟩
        have hB := hB.trans (hn.mono hB.size)
        clear hn
        go_wp2_with fail
        go_ret
        exact ⟨rfl, hB⟩
      · go_wp2_with fail
        refine (C1.out _).mono ?_
        rintro e w1 ⟨r, rfl, hr, hn⟩
        have hB := hB.trans (hn.mono hB.size)
        clear hn
        go_wp2_with fail
        refine (C2.out _).mono ?_
        rintro e w2 ⟨r2, rfl, hr2, hn⟩
        have hB := hB.trans (hn.mono hB.size)
        clear hn
        go_wp2_with fail
        refine (C3.out _).mono ?_
        rintro e w3 ⟨r3, rfl, hr3, hn⟩
        have hB := hB.trans (hn.mono hB.size)
        clear hn
        go_wp2_with fail
        refine (C4.out _).mono ?_
        rintro e w4 ⟨r4, rfl, hr4, hn⟩
        have hB := hB.trans (hn.mono hB.size)
        clear hn
        have e2 : r2 = r := near_eq hDp hr.out hr2.out
        have e3 : r3 = r := near_eq hDp hr.out hr3.out
        have e4 : r4 = r := near_eq hDp hr.out hr4.out
        have htop := hr.out.top
        rw [e2, e3, e4]
        have hng : Op.negFloat .f64 (turned true r) = r := by
          show Op.negFloat .f64 (Op.negFloat .f64 r) = r
          rw [neg_pos (t := r) (by omega), neg_neg' (by omega)]
        obtain ⟨Y, hY⟩ : ∃ Y, turned true r = Y := ⟨_, rfl⟩
        have hY0 : turned false r = r := rfl
        rw [hY] at hng
        rw [hY, hY0]
        have heq := eq_self (z := r) (by unfold mag; omega)
        clear e2 e3 e4 hr hr2 hr3 hr4 hY hY0 u0
        go_wp2_with (simp only [run_neg, hng])
        refine (C5.out _).mono ?_
        rintro e w5 ⟨rfl, hn⟩
        have hB := hB.trans (hn.mono hB.size)
        clear hn
        go_wp2_with fail
        go_ret
        exact ⟨rfl, hB⟩
set_option maxRecDepth 100000 in
theorem numSigns_long (n : Nat) (T : ByteArray) (w : World) (hTs : 100 < T.size) (hT : PowTab w) :
    Calls Tryz.prog 8 #[.int .u64 (n : Int), .string T] w fun e w' => e = .returned (.bool true) ∧ Below w.heap.size w w' := by
  have CF := Lib.hid (nfixed_any w hT)
  have hT1 : (100 : Int) < (T.size : Int) := by omega
  clear hT
  go_enter Tryz.func8, Tryz.ntmps8
  go_wp2_with fail
  refine CF.out.mono ?_
  rintro e w0 ⟨rfl, hB⟩
  go_wp2_with fail
  go_ret
  exact ⟨rfl, hB⟩
theorem numSigns_int (n : Int) (T : ByteArray) (w : World) (h0 : 0 ≤ n) (h1 : n ≤ 18446744073709551615) (hT : PowTab w) :
    Calls Tryz.prog 8 #[.int .u64 n, .string T] w fun e w' => e = .returned (.bool true) ∧ Below w.heap.size w w' := by
  obtain ⟨m, rfl⟩ : ∃ m : Nat, n = (m : Int) := ⟨n.toNat, by omega⟩
  by_cases h : 100 < T.size
  · exact numSigns_long m T w h hT
  · exact numSigns_tail m T w (by omega) (by omega) hT
end Go.Proofs.YtlpobomlnlakcaaGreatDoor

namespace Go.Proofs.YtlpobomlnlakcaaGreatDoor
open Go.RowKit Go.Lib

/-- The unit of a piece. -/
abbrev D4 : Nat := 10000
theorem lim4 {l : List Nat} (h : Lim D4 l) (k : Nat) (hk : k < l.length) : ∃ x, l[k] = x ∧ x < 10000 := ⟨_, rfl, lim_get h k hk⟩

set_option maxRecDepth 100000 in
set_option maxHeartbeats 1000000 in
theorem rtrim_any (A : Option Addr) (cap : Nat) (xs : List Nat) (w : World) (hx : Lim D4 xs) (_hxn : xs.length ≤ 10000000000000) (hcap : xs.length ≤ cap) (hcm : cap ≤ maxLen) (hr : Rd .i64 w A xs) :
    Calls Tryz.prog 66 #[.slice A xs.length cap] w fun e w' => (∃ m : Nat, m ≤ xs.length ∧ dig D4 (vl D4 xs) = xs.take m ∧ e = .returned (.slice A m cap)) ∧ w = w' := by
  unfold maxLen at hcm
  go_enter Tryz.func66, Tryz.ntmps66
  go_wp2
  go_loop [0] (fun v => ∃ k : Nat, k ≤ xs.length ∧ v = .slice A k cap ∧ ∀ j (_ : k ≤ j) (hj : j < xs.length), xs[j] = 0) (fun v => lenOf v)
  case atStart => exact ⟨xs.length, Nat.le_refl _, rfl, fun j _ _ => by omega⟩
  case round =>
    obtain ⟨k, hk, rfl, h0⟩ := hrel
    have H0 := Lib.hid h0; clear h0
    by_cases hz : k = 0
    · subst hz
      go_wp2
      go_ret
      exact ⟨⟨0, Nat.zero_le _, (trim_take (by decide) hx (Nat.zero_le _) H0.out (.inl rfl)).1, rfl⟩, rfl⟩
    · obtain ⟨g, o, rfl, hc⟩ := hr (k - 1) (by omega)
      obtain ⟨x, hxe, hxk⟩ := lim4 hx (k - 1) (by omega)
      rw [hxe] at hc
      have HX := Lib.hid hxe; clear hxe
      have hkn : ((k : Int) - 1).toNat = k - 1 := by omega
      by_cases hx0 : x = 0
      · subst hx0
        go_wp2
        go_round
        case rel => exact ⟨k - 1, by omega, rfl, fun j h1 h2 => by
          by_cases e : j = k - 1
          · subst e; exact HX.out
          · exact H0.out j (by omega) h2⟩
        case measure => simp [lenOf]; omega
      · have hxi : ((x : Int) == 0) = false := by rw [beq_eq_false_iff_ne]; omega
        go_wp2
        go_ret
        exact ⟨⟨k, hk, (trim_take (by decide) hx hk H0.out (.inr ⟨by omega, by rw [HX.out]; exact hx0⟩)).1, rfl⟩, rfl⟩
theorem rtrim_own (v : Value) (B : Nat) (xs : List Nat) (w : World) (hx : Lim D4 xs) (hxn : xs.length ≤ 10000000000000) (hO : Own .i64 w B 3 v xs) :
    Calls Tryz.prog 66 #[v] w fun e w' => (∃ v', e = .returned v' ∧ Own .i64 w B 3 v' (dig D4 (vl D4 xs))) ∧ w = w' := by
  obtain ⟨A, cap, rfl, h1, h2⟩ := hO.slice
  refine (rtrim_any A cap xs w hx hxn h1 h2 hO.rd).mono ?_
  rintro e w' ⟨⟨m, hm, hd, rfl⟩, rfl⟩
  exact ⟨⟨_, rfl, by rw [hd]; exact hO.take m hm⟩, rfl⟩

theorem small_step {ds : List Nat} {m n : Nat} (h : vl D4 ds + D4 ^ ds.length * m = n) : vl D4 (ds ++ [m % 10000]) + D4 ^ (ds ++ [m % 10000]).length * (m / 10000) = n := by
  rw [vl_snoc, List.length_append, List.length_singleton, Nat.pow_succ, ← h]
  have hd : D4 ^ ds.length * m = D4 ^ ds.length * (m % 10000) + D4 ^ ds.length * D4 * (m / 10000) := digit_step (B := 10000) (P := D4 ^ ds.length) (z := m)
  omega
set_option maxRecDepth 100000 in
set_option maxHeartbeats 2000000 in
theorem small_any (n : Nat) (w : World) (hn : n ≤ 9223372036854775807) : Calls Tryz.prog 44 #[.int .i64 n] w (Makes .i64 3 w (dig D4 n)) := by
  obtain ⟨i0, hi, hz0, hz1, hz2⟩ := info_parts info_i64
  go_enter Tryz.func44, Tryz.ntmps44
  go_wp2
  go_loopw [0, 3] (fun q v wr => ∃ (m : Nat) (ds : List Nat), q = .int .i64 m ∧ (ds.length ≤ 16 ∧ m ≤ n ∧ m < 10000 ^ (16 - ds.length)) ∧ Own .i64 wr w.heap.size 3 v ds ∧ Lim D4 ds ∧ vl D4 ds + D4 ^ ds.length * m = n ∧ (0 < m ∨ Top ds) ∧ Below w.heap.size w wr) (fun q _ _ => (RowKit.intOf q).toNat)
  case atStart => exact ⟨n, [], rfl, ⟨Nat.zero_le _, Nat.le_refl _, Nat.lt_of_le_of_lt hn (by decide)⟩, Own.nil _ _ _, lim_nil _, by simp [vl], .inr top_nil, Below.refl _ _⟩
  case round =>
    obtain ⟨m, ds, rfl, ⟨hd16, hmn, hmp⟩, hO, hL, hv, ht, hB⟩ := hrel
    obtain ⟨A, cap, rfl, hcap⟩ := hO.slice
    by_cases hm : m = 0
    · subst hm
      have HE := Lib.hid (show dig D4 n = ds from dig_eq (by decide) ⟨hL, by rcases ht with h | h; omega; exact h⟩ (by rw [← hv]; simp))
      have HO := Lib.hid hO
      clear hv hO hL ht
      go_wp2
      go_ret
      exact ⟨_, rfl, by rw [HE.out]; exact HO.out, hB⟩
    · have hown := hO.row (n := ds.length) rfl
      have HS := Lib.hid (small_step hv)
      have hlim : Lim D4 (ds ++ [m % 10000]) := lim_append.2 ⟨hL, lim_one.2 (Nat.mod_lt _ (by decide))⟩
      have htop : 0 < m / 10000 ∨ Top (ds ++ [m % 10000]) := by
        rcases Nat.eq_zero_or_pos (m / 10000) with h | h
        · exact .inr (top_snoc.2 (by omega))
        · exact .inl h
      have hsz := hB.size
      have hd15 : ds.length < 16 := by
        rcases Nat.lt_or_ge ds.length 16 with h | h
        · exact h
        · rw [show 16 - ds.length = 0 by omega, Nat.pow_zero] at hmp
          omega
      have hm1 : ds.length + 1 ≤ 16 ∧ m / 10000 ≤ n ∧ m / 10000 < 10000 ^ (16 - (ds.length + 1)) := by
        refine ⟨by omega, by omega, Nat.div_lt_of_lt_mul ?_⟩
        rw [← Nat.pow_succ', show (16 - (ds.length + 1)).succ = 16 - ds.length by omega]
        exact hmp
      clear hmp
      clear hv hO hL ht
      go_wp2_with (at_builtin; refine wpList_append_own _ rfl _ _ 58 rfl w.heap.size 3 i0 (.int .i64 0) 1 8 Tryz.underlying58 hi hz0 hz1 hz2 rfl (by decide) _ _ _ rfl (hown.alloc _) ⟨wr.heap.size, 0, none⟩ 1 1 [.int .i64 ((m % 10000 : Nat) : Int)] rfl rfl (cell_one_new _ _ _) ?c2 ?c3 ?c4 ?c5 ?_)
      case c2 => simp [Value.oneCell']
      case c3 => unfold maxLen; omega
      case c4 => omega
      case c5 => first | omega | (simp; omega)
      intro v' w4 hown' hgrow _
      have hB4 : Below w.heap.size w w4 := (hB.alloc hsz _).grown hgrow (by simp; omega) (fun z e => (hown.lt z e).1)
      have HO1 := Lib.hid (Own.snoc hown' rfl)
      clear hown hown' hgrow
      go_wp2
      go_roundw
      case rel => exact ⟨m / 10000, ds ++ [m % 10000], vint (by omega), by rw [List.length_append]; exact hm1, HO1.out, hlim, HS.out, htop, hB4⟩
      case measure => simp [RowKit.intOf]; omega
end Go.Proofs.YtlpobomlnlakcaaGreatDoor

namespace Go.Proofs.YtlpobomlnlakcaaGreatDoor
open Go.RowKit Go.Lib

/-- The product's pieces so far. -/
structure RTim (xs ds : List Nat) (n k c : Nat) : Prop where
  len : ds.length = k
  lim : Lim D4 ds
  hc : c < n
  eq : vl D4 ds + D4 ^ k * c = vl D4 (xs.take k) * n
  top : k ≤ xs.length ∨ k + c ≤ xs.length + n
theorem rtim_step {xs ds : List Nat} {n k c : Nat} (h : RTim xs ds n k c) (hx : Lim D4 xs) (hgo : k < xs.length ∨ 0 < c) (z : Nat) (hz : z = c + xs.getD k 0 * n) : RTim xs (ds ++ [z % 10000]) n (k + 1) (z / 10000) := by
  have b1 := getD_lt hx (by decide) k
  have h3 := h.hc
  refine ⟨by rw [List.length_append, h.len]; rfl, lim_append.2 ⟨h.lim, lim_one.2 (Nat.mod_lt _ (by decide))⟩, ?_, ?_, ?_⟩
  · apply Nat.div_lt_of_lt_mul
    have : (xs.getD k 0 + 1) * n ≤ 10000 * n := Nat.mul_le_mul_right _ b1
    rw [Nat.add_mul] at this
    omega
  · have e1 := h.eq
    have hd : D4 ^ k * z = D4 ^ k * (z % 10000) + D4 ^ k * D4 * (z / 10000) := digit_step (B := 10000) (P := D4 ^ k) (z := z)
    have e2 := congrArg (D4 ^ k * ·) hz
    simp only [Nat.mul_add, ← Nat.mul_assoc] at e2
    rw [vl_snoc, h.len, vl_take_get, Nat.pow_succ, Nat.add_mul]
    omega
  · by_cases a : k < xs.length
    · exact .inl a
    · rw [getD_no a, Nat.zero_mul, Nat.add_zero] at hz
      have := h.top
      exact .inr (by omega)
theorem rtim_end {xs ds : List Nat} {n k : Nat} (h : RTim xs ds n k 0) (hx : xs.length ≤ k) : vl D4 ds = vl D4 xs * n := by
  have := h.eq
  rwa [vl_take_all hx, Nat.mul_zero, Nat.add_zero] at this

set_option maxRecDepth 100000 in
set_option maxHeartbeats 4000000 in
theorem rcmp_any (A A' : Option Addr) (ca cb : Nat) (xs ys : List Nat) (w : World) (hx : Norm D4 xs) (hy : Norm D4 ys) (hxn : xs.length ≤ 1000000) (_hyn : ys.length ≤ 1000000) (hra : Rd .i64 w A xs) (hrb : Rd .i64 w A' ys) :
    Calls Tryz.prog 68 #[.slice A xs.length ca, .slice A' ys.length cb] w fun e w' => e = .returned (.int .i64 (cmpZ (vl D4 xs) (vl D4 ys))) ∧ ∃ n, w' = w.drewN n := by
  by_cases hne : xs.length = ys.length
  · have hnb : ((xs.length : Int) != (ys.length : Int)) = false := by simp [hne]
    have HN := Lib.hid hne; clear hne
    go_enter Tryz.func68, Tryz.ntmps68
    go_wp2
    go_loopw [5] (fun i wr => ∃ k n : Nat, k ≤ xs.length ∧ i = .int .i64 ((k : Int) - 1) ∧ xs.drop k = ys.drop k ∧ wr = w.drewN n) (fun i _ => (RowKit.intOf i + 1).toNat)
    case atStart => exact ⟨xs.length, 0, Nat.le_refl _, rfl, by rw [List.drop_length, HN.out, List.drop_length], rfl⟩
    case round =>
      obtain ⟨k, n, hk, rfl, hd, rfl⟩ := hrel
      have HD := Lib.hid hd; clear hd
      rcases k with _ | k
      · have he : cmpZ (vl D4 xs) (vl D4 ys) = 0 := by
          have := HD.out
          simp at this
          rw [this]; exact cmpZ_eq rfl
        have HE := Lib.hid he; clear he
        go_wp2
        go_ret
        exact ⟨by rw [HE.out]; rfl, n, rfl⟩
      · have hlx : k < xs.length := hk
        have hly : k < ys.length := by have := HN.out; omega
        obtain ⟨g, o, rfl, hc⟩ := hra k hlx
        obtain ⟨g', o', rfl, hc'⟩ := hrb k hly
        obtain ⟨x, hxe, hxk⟩ := lim4 hx.1 k hlx
        obtain ⟨y, hye, hyk⟩ := lim4 hy.1 k hly
        rw [hxe] at hc
        rw [hye] at hc'
        rcases Nat.lt_trichotomy x y with h | h | h
        · have HE := Lib.hid (show cmpZ (vl D4 xs) (vl D4 ys) = -1 from cmpZ_lt (vl_cmp_at hx.1 HN.out hlx HD.out (by rw [hxe, hye]; exact h)))
          clear hxe hye
          rw [show ((k + 1 : Nat) : Int) - 1 = (k : Int) by omega]
          go_wp2
          go_quiet (fail)
          go_wp2
          go_ret
          exact ⟨by rw [HE.out]; rfl, _, by rw [World.drewN_drewN]⟩
        · have hd2 : xs.drop k = ys.drop k := by rw [drop_get xs k hlx, drop_get ys k hly, HD.out, hxe, hye, h]
          have HD2 := Lib.hid hd2
          subst h
          clear hd2 hxe hye
          rw [show ((k + 1 : Nat) : Int) - 1 = (k : Int) by omega]
          go_wp2
          go_quiet (fail)
          go_wp2
          go_quiet (fail)
          go_wp2
          go_roundw
          case rel => exact ⟨k, _, by omega, rfl, HD2.out, rfl⟩
          case measure => simp [RowKit.intOf]
        · have HE := Lib.hid (show cmpZ (vl D4 xs) (vl D4 ys) = 1 from cmpZ_gt (vl_cmp_at hy.1 HN.out.symm hly HD.out.symm (by rw [hxe, hye]; exact h)))
          have h2 : ¬ x < y := by omega
          clear hxe hye
          rw [show ((k + 1 : Nat) : Int) - 1 = (k : Int) by omega]
          go_wp2
          go_quiet (fail)
          go_wp2
          go_quiet (fail)
          go_wp2
          go_ret
          exact ⟨by rw [HE.out]; rfl, _, by rw [World.drewN_drewN, World.drewN_drewN]⟩
  · have hnb : ((xs.length : Int) != (ys.length : Int)) = true := by simp; omega
    rcases Nat.lt_or_gt_of_ne hne with h | h
    · have HE := Lib.hid (show cmpZ (vl D4 xs) (vl D4 ys) = -1 from cmpZ_lt (norm_len_lt (by decide) hx.1 hy.2 h))
      clear hne
      go_enter Tryz.func68, Tryz.ntmps68
      go_wp2
      go_ret
      exact ⟨by rw [HE.out]; rfl, 0, rfl⟩
    · have HE := Lib.hid (show cmpZ (vl D4 xs) (vl D4 ys) = 1 from cmpZ_gt (norm_len_lt (by decide) hy.1 hx.2 h))
      have h2 : ¬ xs.length < ys.length := by omega
      clear hne
      go_enter Tryz.func68, Tryz.ntmps68
      go_wp2
      go_ret
      exact ⟨by rw [HE.out]; rfl, 0, rfl⟩
end Go.Proofs.YtlpobomlnlakcaaGreatDoor

namespace Go.Proofs.YtlpobomlnlakcaaGreatDoor
open Go.RowKit Go.Lib

theorem piece_prod {x n c : Nat} (hx : x < 10000) (hn : n ≤ 1099511627776) (hc : c < n) : ∃ p : Nat, x * n = p ∧ (x : Int) * (n : Int) = (p : Int) ∧ (p : Int) + (c : Int) ≤ 9223372036854775807 ∧ p ≤ 10995116277760000 := by
  have h : x * n ≤ 9999 * 1099511627776 := Nat.mul_le_mul (by omega) hn
  exact ⟨x * n, rfl, (Int.natCast_mul _ _).symm, by omega, by omega⟩

set_option maxRecDepth 100000 in
set_option maxHeartbeats 4000000 in
theorem rtim_any (A : Option Addr) (ca n : Nat) (xs : List Nat) (w : World) (hx : Lim D4 xs) (hxn : xs.length ≤ 1000000) (hn0 : 0 < n) (hn : n ≤ 1099511627776) (hra : Rd .i64 w A xs) :
    Calls Tryz.prog 67 #[.slice A xs.length ca, .int .i64 n] w (Makes .i64 3 w (dig D4 (vl D4 xs * n))) := by
  obtain ⟨i0, hi, hz0, hz1, hz2⟩ := info_parts info_i64
  go_enter Tryz.func67, Tryz.ntmps67
  go_wp2
  go_loopw [5, 6, 7] (fun v c i wr => ∃ (k z : Nat) (ds : List Nat), i = .int .i64 k ∧ c = .int .i64 z ∧ Own .i64 wr w.heap.size 3 v ds ∧ RTim xs ds n k z ∧ Below w.heap.size w wr) (fun _ c i _ => (xs.length - (RowKit.intOf i).toNat) * 2199023255552 + (RowKit.intOf c).toNat)
  case atStart => exact ⟨0, 0, [], rfl, rfl, Own.nil _ _ _, ⟨rfl, lim_nil _, hn0, by simp [vl], .inl (Nat.zero_le _)⟩, Below.refl _ _⟩
  case round =>
    obtain ⟨k, z, ds, rfl, rfl, hO, hR, hB⟩ := hrel
    obtain ⟨A5, c5, rfl, _⟩ := hO.slice
    have hzn : z < n := hR.hc
    have htop := hR.top
    by_cases hgo : k < xs.length ∨ 0 < z
    · have hdl := hR.len
      have hown := hO.row hdl
      have HDL := Lib.hid hdl
      have hsz := hB.size
      rw [hdl] at hown
      rw [hdl]
      by_cases hlx : k < xs.length
      · obtain ⟨g, o, rfl, hc⟩ := (hra.below hB) k hlx
        obtain ⟨x, hxe, hxk⟩ := lim4 hx k hlx
        rw [hxe] at hc
        obtain ⟨p, hp, hpi, hpb, hpb2⟩ := piece_prod hxk hn hzn
        have HS := Lib.hid (rtim_step hR hx hgo (z + p) (by rw [getD_of hlx, hxe, hp]))
        have hz2b : (z + p) / 10000 < 1099511627776 := by have := HS.out.hc; omega
        clear hR hdl hO hxe hp hgo htop
        go_wp2_with (at_builtin; refine wpList_append_own _ rfl _ _ 58 rfl w.heap.size 3 i0 (.int .i64 0) 1 8 Tryz.underlying58 hi hz0 hz1 hz2 rfl (by decide) _ _ _ rfl (hown.alloc _) ⟨wr.heap.size, 0, none⟩ 1 1 [.int .i64 (((z + p) % 10000 : Nat) : Int)] rfl rfl (cell_one_new _ _ _) ?c2 ?c3 ?c4 ?c5 ?_)
        case c2 => simp [Value.oneCell']
        case c3 => unfold maxLen; omega
        case c4 => omega
        case c5 => first | omega | (simp; omega)
        intro v' w4 hown' hgrow _
        have hB4 : Below w.heap.size w w4 := (hB.alloc hsz _).grown hgrow (by simp; omega) (fun z e => (hown.lt z e).1)
        have HO1 := Lib.hid (Own.snoc hown' HDL.out.symm)
        clear hown hown' hgrow hpi
        go_wp2
        go_roundw
        case rel => exact ⟨k + 1, (z + p) / 10000, ds ++ [(z + p) % 10000], by go_num, vint (by omega), HO1.out, HS.out, hB4⟩
        case measure => simp [RowKit.intOf]; omega
      · have hz0' : 0 < z := by omega
        have HS := Lib.hid (rtim_step hR hx hgo z (by rw [getD_no hlx, Nat.zero_mul, Nat.add_zero]))
        clear hR hdl hO hgo
        go_wp2_with (at_builtin; refine wpList_append_own _ rfl _ _ 58 rfl w.heap.size 3 i0 (.int .i64 0) 1 8 Tryz.underlying58 hi hz0 hz1 hz2 rfl (by decide) _ _ _ rfl (hown.alloc _) ⟨wr.heap.size, 0, none⟩ 1 1 [.int .i64 ((z % 10000 : Nat) : Int)] rfl rfl (cell_one_new _ _ _) ?c2 ?c3 ?c4 ?c5 ?_)
        case c2 => simp [Value.oneCell']
        case c3 => unfold maxLen; omega
        case c4 => omega
        case c5 => first | omega | (simp; omega)
        intro v' w4 hown' hgrow _
        have hB4 : Below w.heap.size w w4 := (hB.alloc hsz _).grown hgrow (by simp; omega) (fun z e => (hown.lt z e).1)
        have HO1 := Lib.hid (Own.snoc hown' HDL.out.symm)
        clear hown hown' hgrow
        go_wp2
        go_roundw
        case rel => exact ⟨k + 1, z / 10000, ds ++ [z % 10000], by go_num, vint (by omega), HO1.out, HS.out, hB4⟩
        case measure => simp [RowKit.intOf]; omega
    · have hlx : ¬ k < xs.length := by omega
      obtain rfl : z = 0 := by omega
      have he := rtim_end hR (by omega)
      have hl := hR.len
      have cT := rtrim_own _ _ ds wr hR.lim (by omega) hO
      rw [he] at cT
      have CT := Lib.hid cT
      rw [hl]
      rw [hl] at CT
      clear cT hO hR he hl hgo
      go_wp2_with fail
      refine CT.out.mono ?_
      rintro e w' ⟨⟨v', rfl, hO7⟩, rfl⟩
      have HO7 := Lib.hid hO7
      clear hO7 CT
      go_wp2
      go_ret
      exact ⟨_, rfl, HO7.out, hB⟩
end Go.Proofs.YtlpobomlnlakcaaGreatDoor
