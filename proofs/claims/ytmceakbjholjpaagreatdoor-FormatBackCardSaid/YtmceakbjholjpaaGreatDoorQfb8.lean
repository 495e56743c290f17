/- Several texts in one (Plain: the texts of a float by e, f and g, and what is read of them. No walk here; Contracts of layer 5: fixed, sci, general; Contracts of layer 5: general, Signbit, pointed; Contracts of layer 5: Signbit, and the pieces of a number with a point (pointed)). -/
import Derived.Deep.RegionWith
import Derived.Deep.QuietTactic
import Derived.BigQuiet
import Derived.Deep.RegionHeld3
import Derived.Deep.DeepCutAuto
import Derived.Test.YtmceakbjholjpaaGreatDoorQfb7
namespace Go.Proofs.YtmceakbjholjpaaGreatDoor
open Go.RowKit Go.Lib

/-- What Sci answers of the float r with p digits behind the first one. -/
noncomputable def sciX (r p : Nat) : List UInt8 × Int :=
  @dite _ (∃ x : Int × Nat, SciOk (amN r) (amD r) p x.1 x.2) (Classical.propDecidable _) (fun h => (decs (Classical.choose h).2, (Classical.choose h).1)) (fun _ => (List.replicate (p + 1) 48, 0))
theorem sciX_of {r p M : Nat} {P : Int} (ok : SciOk (amN r) (amD r) p P M) : sciX r p = (decs M, P) := by
  unfold sciX
  have h : ∃ x : Int × Nat, SciOk (amN r) (amD r) p x.1 x.2 := ⟨(P, M), ok⟩
  rw [dif_pos h]
  obtain ⟨e1, e2⟩ := (Classical.choose_spec h).uniq (amD_pos r) ok
  rw [e1, e2]
theorem amN_zero : amN 0 = 0 := by decide
theorem sciX_zero (p : Nat) : sciX 0 p = (List.replicate (p + 1) 48, 0) := by
  unfold sciX
  refine dif_neg ?_
  rintro ⟨⟨P, M⟩, ok⟩
  have h1 := ok.val
  have h2 := ok.low
  have h3 := Nat.pow_pos (n := p) (show 0 < 10 by omega)
  simp only at h1 h2
  rw [h1, amN_zero] at h2
  unfold sciM rnd at h2
  rw [Nat.zero_mul, Nat.zero_div, Nat.zero_mod] at h2
  rw [if_neg] at h2
  · omega
  · have := Nat.mul_pos (amD_pos 0) (Nat.pow_pos (n := (-((p : Int) - P)).toNat) (show 0 < 10 by omega))
    omega
theorem sci_has (w : World) {r p : Nat} (h0 : 0 < r) (hr : r < 9218868437227405312) (hp : p ≤ 200) : ∃ P M, SciOk (amN r) (amD r) p P M := by
  have hm : mag r = r := mag_no hr
  obtain ⟨e, w', fr, ⟨⟨P, M, ok, _⟩, _⟩, _⟩ := sci_yes r p w (by omega) (by rw [hm]; exact h0) (by rw [hm]; exact hr) hp []
  rw [hm] at ok
  exact ⟨P, M, ok⟩
theorem sciX_facts (w : World) {r p : Nat} (hr : r < 9218868437227405312) (hp : p ≤ 200) : (sciX r p).1.length = p + 1 ∧ Dec (sciX r p).1 ∧ -400 ≤ (sciX r p).2 ∧ (sciX r p).2 ≤ 400 := by
  rcases Nat.eq_zero_or_pos r with rfl | h0
  · rw [sciX_zero]
    exact ⟨List.length_replicate, dec_noughts _, show (-400 : Int) ≤ 0 by decide, show (0 : Int) ≤ 400 by decide⟩
  · obtain ⟨P, M, ok⟩ := sci_has w h0 hr hp
    rw [sciX_of ok]
    exact ⟨decs_len_of ok.low ok.high, dec_decs M, ok.bd.1, ok.bd.2⟩
/-- Digits with a point behind the first. -/
def ptT (d : List UInt8) (q : Bool) : List UInt8 := if q = true then d.take 1 ++ 46 :: d.drop 1 else d
/-- The power of ten. -/
def expT (P : Int) : List UInt8 := (if P < 0 then [101, 45] else [101, 43]) ++ ((if P.natAbs < 10 then [48] else []) ++ decs P.natAbs)
def fixP (r q : Nat) (full : Bool) : List UInt8 := fixT (decs (rnd (amN r * 10 ^ q) (amD r))) q ++ if q = 0 ∧ full = true then [46] else []
/-- Without noughts at the end, and without a point there. -/
def trimG (full : Bool) (d : List UInt8) : List UInt8 := if full = false ∧ d.contains 46 = true then Lib.trimSuffix (Lib.trimRightB d 48) [46] else d
noncomputable def genT (r n : Nat) (full : Bool) : List UInt8 :=
  if (sciX r n).2 < -4 ∨ ((n : Int) + 1 ≤ (sciX r n).2) then trimG full (ptT (sciX r n).1 (decide (0 < n) || full)) ++ expT (sciX r n).2
  else trimG full (fixP r ((n : Int) - (sciX r n).2).toNat full)
/-- An exponent in a text, or nothing. -/
def ExOk (ex : List UInt8) (xe : Int) : Prop := (ex = [] ∧ xe = 0) ∨ ∃ c x neg DD, ex = c :: x :: DD ∧ (c = 101 ∨ c = 69) ∧ ((x = 45 ∧ neg = true) ∨ (x = 43 ∧ neg = false)) ∧ Dec DD ∧ DD ≠ [] ∧ pv DD < 100000 ∧ xe = if neg = true then -(pv DD : Int) else (pv DD : Int)
theorem exOk_exp {ex tail : List UInt8} {xe : Int} (h : ExOk ex xe) (ht : Calm tail) : expL (ex ++ tail) = (xe, tail) ∧ ∀ c t, ex ++ tail = c :: t → isD c = false ∧ c ≠ 46 := by
  rcases h with ⟨rfl, rfl⟩ | ⟨c, x, neg, DD, rfl, hc, hx, hd, hne, hk, rfl⟩
  · exact ⟨expL_calm ht, fun c t e => ⟨(ht c t e).1, (ht c t e).2.1⟩⟩
  · refine ⟨expL_text hc hx hd hne hk (fun c t e => (ht c t e).1), fun d t e => ?_⟩
    have : c = d := (List.cons.inj e).1
    subst this
    rcases hc with rfl | rfl <;> decide
/-- The text writes the float r. -/
def Reads (D : List UInt8) (r : Nat) : Prop := ∃ D1 D2 pt ex xe, D = D1 ++ (pt ++ ex) ∧ Dec D1 ∧ D1 ≠ [] ∧ Dec D2 ∧ PtOk pt D2 ∧ ExOk ex xe ∧ Near (2 * (pv (D1 ++ D2) * 10 ^ (xe - (D2.length : Int)).toNat) * S1074) (10 ^ (-(xe - (D2.length : Int))).toNat) r
theorem expT_ok {P : Int} (h0 : -400 ≤ P) (h1 : P ≤ 400) : ExOk (expT P) P := by
  right
  have hd : Dec ((if P.natAbs < 10 then [48] else []) ++ decs P.natAbs) := by
    refine dec_app ?_ (dec_decs _)
    split
    · exact dec_noughts 1
    · exact dec_nil
  have hv : pv ((if P.natAbs < 10 then [48] else []) ++ decs P.natAbs) = P.natAbs := by
    split
    · exact (pv_noughts 1 _).trans (pv_decs _)
    · exact pv_decs _
  have hne : (if P.natAbs < 10 then [48] else []) ++ decs P.natAbs ≠ [] := by
    have := decs_pos_len P.natAbs
    intro e
    have h2 := congrArg List.length e
    rw [List.length_append] at h2
    simp at h2
    rw [h2.2] at this
    simp at this
  by_cases hP : P < 0
  · refine ⟨101, 45, true, _, ?_, Or.inl rfl, Or.inl ⟨rfl, rfl⟩, hd, hne, by rw [hv]; omega, by rw [hv, if_pos rfl]; omega⟩
    unfold expT
    rw [if_pos hP]
    rfl
  · refine ⟨101, 43, false, _, ?_, Or.inl rfl, Or.inr ⟨rfl, rfl⟩, hd, hne, by rw [hv]; omega, by rw [hv, if_neg (by decide)]; omega⟩
    unfold expT
    rw [if_neg hP]
    rfl
theorem sciX_near (w : World) {r p : Nat} (hr : r < 9218868437227405312) (hp : p ≤ 200) (hp2 : 16 ≤ p) :
    Near (2 * (pv (sciX r p).1 * 10 ^ ((sciX r p).2 - (p : Int)).toNat) * S1074) (10 ^ (-((sciX r p).2 - (p : Int))).toNat) r := by
  rcases Nat.eq_zero_or_pos r with rfl | h0
  · rw [sciX_zero]
    simp only
    rw [pv_zeros, Nat.zero_mul, Nat.mul_zero, Nat.zero_mul]
    exact near_zero (Nat.pow_pos (by omega))
  · obtain ⟨P, M, ok⟩ := sci_has w h0 hr hp
    rw [sciX_of ok]
    simp only
    rw [pv_decs]
    exact sci_close h0 hr hp2 ok
theorem reads_sci (w : World) {r p : Nat} (hr : r < 9218868437227405312) (hp : p ≤ 200) (hp2 : 16 ≤ p) (q : Bool) (hq : q = true) : Reads (ptT (sciX r p).1 q ++ expT (sciX r p).2) r := by
  obtain ⟨hl, hd, b0, b1⟩ := sciX_facts w hr hp
  have hN := sciX_near w hr hp hp2
  subst hq
  refine ⟨(sciX r p).1.take 1, (sciX r p).1.drop 1, 46 :: (sciX r p).1.drop 1, expT (sciX r p).2, (sciX r p).2, ?_, dec_take hd 1, ?_, dec_drop hd 1, Or.inr rfl, expT_ok b0 b1, ?_⟩
  · unfold ptT
    rw [if_pos rfl, List.append_assoc]
  · intro e
    have := congrArg List.length e
    rw [List.length_take, hl] at this
    simp at this
  · rw [List.take_append_drop, List.length_drop, hl, Nat.add_sub_cancel]
    exact hN
/-- Noughts at the end of the digits behind a point make no difference. -/
theorem reads_trim {D1 D2 ex : List UInt8} {xe : Int} {r : Nat} (h1 : Dec D1) (hne : D1 ≠ []) (h2 : Dec D2) (hx : ExOk ex xe)
    (hN : Near (2 * (pv (D1 ++ D2) * 10 ^ (xe - (D2.length : Int)).toNat) * S1074) (10 ^ (-(xe - (D2.length : Int))).toNat) r) :
    Reads (Lib.trimSuffix (Lib.trimRightB (D1 ++ 46 :: D2) 48) [46] ++ ex) r := by
  obtain ⟨pt, T, k, e, hp, hk, hT⟩ := point_trim (D1 := D1) h2
  refine ⟨D1, T, pt, ex, xe, by rw [e, List.append_assoc], h1, hne, hT, hp, hx, ?_⟩
  rw [hk, List.length_append, List.length_replicate, ← List.append_assoc, pv_append, pv_zeros, List.length_replicate, Nat.add_zero] at hN
  refine near_same (Nat.pow_pos (by omega)) (Nat.pow_pos (by omega)) ?_ hN
  obtain ⟨j, hj⟩ : ∃ j : Int, xe - (T.length : Int) = j := ⟨_, rfl⟩
  obtain ⟨y, hy⟩ : ∃ y : Int, xe - ((T.length + k : Nat) : Int) = y := ⟨_, rfl⟩
  rw [hj, hy]
  have e2 : 10 ^ j.toNat * 10 ^ (-y).toNat = 10 ^ k * (10 ^ y.toNat * 10 ^ (-j).toNat) := by
    rw [← Nat.pow_add, ← Nat.pow_add, ← Nat.pow_add]
    congr 1
    omega
  generalize S1074 = z
  generalize pv (D1 ++ T) = P
  calc 2 * (P * 10 ^ k * 10 ^ y.toNat) * z * 10 ^ (-j).toNat = 2 * P * z * (10 ^ k * (10 ^ y.toNat * 10 ^ (-j).toNat)) := by ac_rfl
    _ = 2 * P * z * (10 ^ j.toNat * 10 ^ (-y).toNat) := by rw [e2]
    _ = 2 * (P * 10 ^ j.toNat) * z * 10 ^ (-y).toNat := by ac_rfl
theorem has_point (A B : List UInt8) : (A ++ 46 :: B).contains 46 = true := by
  rw [List.contains_eq_mem, decide_eq_true_iff]
  simp
theorem dec_point {D : List UInt8} (h : Dec D) : D.contains 46 = false := by
  rw [List.contains_eq_mem, decide_eq_false_iff_not]
  intro hm
  exact absurd (h 46 hm).1 (by decide)
theorem reads_point {D1 D2 ex : List UInt8} {xe : Int} {r : Nat} (full : Bool) (h1 : Dec D1) (hne : D1 ≠ []) (h2 : Dec D2) (hx : ExOk ex xe)
    (hN : Near (2 * (pv (D1 ++ D2) * 10 ^ (xe - (D2.length : Int)).toNat) * S1074) (10 ^ (-(xe - (D2.length : Int))).toNat) r) :
    Reads (trimG full (D1 ++ 46 :: D2) ++ ex) r := by
  cases full with
  | true =>
    unfold trimG
    rw [if_neg (fun h => by cases h.1)]
    exact ⟨D1, D2, 46 :: D2, ex, xe, by rw [List.append_assoc], h1, hne, h2, Or.inr rfl, hx, hN⟩
  | false =>
    unfold trimG
    rw [if_pos ⟨rfl, has_point D1 D2⟩]
    exact reads_trim h1 hne h2 hx hN
theorem padT_long (d : List UInt8) (p : Nat) : p + 1 ≤ (padT d p).length := by
  unfold padT
  rw [List.length_append, List.length_replicate]
  omega
theorem padT_dec {d : List UInt8} (h : Dec d) (p : Nat) : Dec (padT d p) := dec_app (dec_noughts _) h
theorem padT_pv (d : List UInt8) (p : Nat) : pv (padT d p) = pv d := pv_noughts _ _
theorem sciM_up (N D : Nat) {k : Int} (h : 0 ≤ k) : sciM N D k = rnd (N * 10 ^ k.toNat) D := by
  unfold sciM
  rw [show (-k).toNat = 0 by omega, Nat.pow_zero, Nat.mul_one]
theorem rnd_zero {D : Nat} (hD : 0 < D) : rnd 0 D = 0 := by
  have h1 := rnd_le 0 D
  have h2 := (rnd_near 0 D hD).2
  rcases Nat.eq_zero_or_pos (rnd 0 D) with h | h
  · exact h
  · obtain ⟨h3, -⟩ := h2 h
    have : 0 < (2 * rnd 0 D - 1) * D := Nat.mul_pos (by omega) hD
    omega
theorem fix_near (w : World) {r p : Nat} (hr : r < 9218868437227405312) (hp : p ≤ 200) (hp2 : 16 ≤ p) (hP : (sciX r p).2 ≤ p) :
    Near (2 * (rnd (amN r * 10 ^ ((p : Int) - (sciX r p).2).toNat) (amD r) * 10 ^ ((sciX r p).2 - (p : Int)).toNat) * S1074) (10 ^ (-((sciX r p).2 - (p : Int))).toNat) r := by
  rcases Nat.eq_zero_or_pos r with rfl | h0
  · rw [amN_zero, Nat.zero_mul]
    rw [rnd_zero (amD_pos 0), Nat.zero_mul, Nat.mul_zero, Nat.zero_mul]
    exact near_zero (Nat.pow_pos (by omega))
  · obtain ⟨P, M, ok⟩ := sci_has w h0 hr hp
    rw [sciX_of ok] at hP ⊢
    simp only at hP ⊢
    rw [← sciM_up _ _ (by omega), ← ok.val]
    exact sci_close h0 hr hp2 ok
theorem reads_fix (w : World) {r p : Nat} (hr : r < 9218868437227405312) (hp : p ≤ 200) (hp2 : 16 ≤ p) (hP : (sciX r p).2 ≤ p) (full : Bool) :
    Reads (trimG full (fixP r ((p : Int) - (sciX r p).2).toNat full)) r := by
  have hN := fix_near w hr hp hp2 hP
  obtain ⟨P, hPe⟩ : ∃ P, (sciX r p).2 = P := ⟨_, rfl⟩
  rw [hPe] at hN hP ⊢
  obtain ⟨q, hq⟩ : ∃ q, ((p : Int) - P).toNat = q := ⟨_, rfl⟩
  have hqz : P - (p : Int) = -(q : Int) := by omega
  rw [hq, hqz] at hN
  rw [hq]
  obtain ⟨M, hM⟩ : ∃ M, rnd (amN r * 10 ^ q) (amD r) = M := ⟨_, rfl⟩
  unfold fixP
  rw [hM] at hN ⊢
  have hd := dec_decs M
  have hne : decs M ≠ [] := fun e => by
    have := decs_pos_len M
    rw [e] at this
    simp at this
  have e0 : (0 : Int) - (([] : List UInt8).length : Int) = -((0 : Nat) : Int) := by simp
  rcases Nat.eq_zero_or_pos q with rfl | hq0
  · unfold fixT
    rw [if_pos rfl]
    cases full with
    | true =>
      rw [if_pos ⟨rfl, rfl⟩]
      have h := reads_point (D1 := decs M) (D2 := []) (ex := []) (xe := 0) (r := r) true hd hne dec_nil (Or.inl ⟨rfl, rfl⟩) (by rw [List.append_nil, pv_decs, e0]; exact hN)
      rw [List.append_nil] at h
      exact h
    | false =>
      rw [if_neg (fun h => by cases h.2), List.append_nil]
      unfold trimG
      rw [if_neg (fun h => by rw [dec_point hd] at h; cases h.2)]
      exact ⟨decs M, [], [], [], 0, by simp, hd, hne, dec_nil, Or.inl ⟨rfl, rfl⟩, Or.inl ⟨rfl, rfl⟩, by rw [List.append_nil, pv_decs, e0]; exact hN⟩
  · rw [if_neg (fun h => by omega), List.append_nil]
    unfold fixT
    rw [if_neg (by omega)]
    have hl := padT_long (decs M) q
    have hpd := padT_dec hd q
    have h := reads_point (D1 := (padT (decs M) q).take ((padT (decs M) q).length - q)) (D2 := (padT (decs M) q).drop ((padT (decs M) q).length - q)) (ex := []) (xe := 0) (r := r) full (dec_take hpd _) (fun e => by
      have := congrArg List.length e
      rw [List.length_take] at this
      simp at this
      omega) (dec_drop hpd _) (Or.inl ⟨rfl, rfl⟩) (by
      rw [List.take_append_drop, padT_pv, pv_decs, List.length_drop, show (padT (decs M) q).length - ((padT (decs M) q).length - q) = q by omega, show (0 : Int) - (q : Int) = -(q : Int) by omega]
      exact hN)
    rw [List.append_nil] at h
    exact h
theorem reads_gen (w : World) {r p : Nat} (hr : r < 9218868437227405312) (hp : p ≤ 200) (hp2 : 16 ≤ p) (full : Bool) : Reads (genT r p full) r := by
  obtain ⟨hl, hd, b0, b1⟩ := sciX_facts w hr hp
  unfold genT
  split
  · have hN := sciX_near w hr hp hp2
    unfold ptT
    rw [decide_eq_true (by omega), Bool.true_or, if_pos rfl]
    refine reads_point full (dec_take hd 1) ?_ (dec_drop hd 1) (expT_ok b0 b1) ?_
    · intro e
      have := congrArg List.length e
      rw [List.length_take, hl] at this
      simp at this
    · rw [List.take_append_drop, List.length_drop, hl, Nat.add_sub_cancel]
      exact hN
  · rename_i h
    exact reads_fix w hr hp hp2 (by omega) full
theorem upper_digit {c : UInt8} (h : 48 ≤ c.toNat ∧ c.toNat ≤ 57) : Lib.upperB c = c := by
  have key : ∀ n : Fin 256, 48 ≤ n.val → n.val ≤ 57 → Lib.upperB (UInt8.ofNat n.val) = UInt8.ofNat n.val := by decide +kernel
  have h2 := key ⟨c.toNat, c.toNat_lt⟩ h.1 h.2
  simpa using h2
theorem upper_dec {D : List UInt8} (h : Dec D) : Lib.toUpperA D = D := by
  unfold Lib.toUpperA
  conv => rhs; rw [← List.map_id D]
  exact List.map_congr_left fun c hc => upper_digit (h c hc)
theorem Reads.upper {D : List UInt8} {r : Nat} (h : Reads D r) : Reads (Lib.toUpperA D) r := by
  obtain ⟨D1, D2, pt, ex, xe, rfl, h1, hne, h2, hp, hx, hN⟩ := h
  refine ⟨D1, D2, pt, Lib.toUpperA ex, xe, ?_, h1, hne, h2, hp, ?_, hN⟩
  · have e1 : Lib.toUpperA pt = pt := by
      rcases hp with ⟨rfl, rfl⟩ | rfl
      · rfl
      · show Lib.upperB 46 :: Lib.toUpperA D2 = _
        rw [upper_dec h2]
        rfl
    have e2 := upper_dec h1
    unfold Lib.toUpperA at e1 e2 ⊢
    rw [List.map_append, List.map_append, e1, e2]
  · rcases hx with ⟨rfl, rfl⟩ | ⟨c, x, neg, DD, rfl, hc, hs, hd, hn, hk, rfl⟩
    · exact Or.inl ⟨rfl, rfl⟩
    · refine Or.inr ⟨69, x, neg, DD, ?_, Or.inr rfl, hs, hd, hn, hk, rfl⟩
      show Lib.upperB c :: Lib.upperB x :: Lib.toUpperA DD = _
      rw [upper_dec hd]
      have e1 : Lib.upperB c = 69 := by rcases hc with rfl | rfl <;> decide
      have e2 : Lib.upperB x = x := by rcases hs with ⟨rfl, _⟩ | ⟨rfl, _⟩ <;> decide
      rw [e1, e2]
/-- The pieces as one, as wide as is asked for. -/
def laidL (sg base D : List UInt8) (wd : Int) (minus noughts : Bool) : List UInt8 :=
  if noughts = true ∧ minus = false then sg ++ (base ++ (List.replicate (wd - ((sg ++ base ++ D).length : Int)).toNat 48 ++ D))
  else fillL (sg ++ base ++ D) (wd - ((sg ++ base ++ D).length : Int)) minus
theorem calm_spaces (K : Nat) : Calm (List.replicate K 32) := by
  cases K with
  | zero => exact calm_nil
  | succ K =>
    intro c t e
    rw [List.replicate_succ] at e
    rw [← (List.cons.inj e).1]
    decide
theorem blanks_gone (K : Nat) : noBlanks (List.replicate K 32) = [] := by
  have := noBlanks_rep (c := 32) (by decide) K []
  rwa [List.append_nil] at this
theorem reads_sig {K j : Nat} {sg D : List UInt8} {b : Bool} {r : Nat} (hs : SgOk sg b) (h : Reads D r) :
    ∃ D1 D2 xe zz, sigL (List.replicate K 32 ++ (sg ++ (D ++ List.replicate j 32))) = (b, D1, D2, xe, zz) ∧ 0 < zz ∧ Near (2 * (pv (D1 ++ D2) * 10 ^ (xe - (D2.length : Int)).toNat) * S1074) (10 ^ (-(xe - (D2.length : Int))).toNat) r ∧ looksL (List.replicate K 32 ++ (sg ++ (D ++ List.replicate j 32))) = true := by
  obtain ⟨D1, D2, pt, ex, xe, rfl, h1, hne, h2, hp, hx, hN⟩ := h
  obtain ⟨e1, e2⟩ := exOk_exp hx (calm_spaces j)
  have e : D1 ++ (pt ++ ex) ++ List.replicate j 32 = D1 ++ (pt ++ (ex ++ List.replicate j 32)) := by rw [List.append_assoc, List.append_assoc]
  rw [e]
  have hS := sigL_text (K := K) hs h1 hne h2 hp e2
  have hL := looks_text (K := K) hs h1 hne h2 hp e2 (by rw [e1])
  rw [blanks_gone] at hL
  rw [e1] at hS
  refine ⟨D1, D2, xe, _, hS, ?_, hN, hL⟩
  have := List.length_pos_iff.2 hne
  rw [List.length_append, List.length_replicate]
  omega
/-- Noughts ahead make no difference. -/
theorem Reads.noughts {D : List UInt8} {r : Nat} (k : Nat) (h : Reads D r) : Reads (List.replicate k 48 ++ D) r := by
  obtain ⟨D1, D2, pt, ex, xe, rfl, h1, hne, h2, hp, hx, hN⟩ := h
  refine ⟨List.replicate k 48 ++ D1, D2, pt, ex, xe, by rw [List.append_assoc], dec_app (dec_noughts k) h1, fun e => hne (List.append_eq_nil_iff.1 e).2, h2, hp, hx, ?_⟩
  rw [List.append_assoc, pv_noughts]
  exact hN
theorem reads_laid {sg D : List UInt8} {b m z : Bool} {wd : Int} {r : Nat} (hs : SgOk sg b ∨ (sg = [32] ∧ b = false)) (h : Reads D r) :
    ∃ D1 D2 xe zz, sigL (laidL sg [] D wd m z) = (b, D1, D2, xe, zz) ∧ 0 < zz ∧ Near (2 * (pv (D1 ++ D2) * 10 ^ (xe - (D2.length : Int)).toNat) * S1074) (10 ^ (-(xe - (D2.length : Int))).toNat) r ∧ looksL (laidL sg [] D wd m z) = true := by
  have key : ∃ K j sg' D', laidL sg [] D wd m z = List.replicate K 32 ++ (sg' ++ (D' ++ List.replicate j 32)) ∧ SgOk sg' b ∧ Reads D' r := by
    unfold laidL
    rw [List.append_nil]
    obtain ⟨q, hq⟩ : ∃ q, (wd - ((sg ++ D).length : Int)).toNat = q := ⟨_, rfl⟩
    unfold fillL
    rw [hq, List.nil_append]
    clear hq
    split
    · rcases hs with hs | ⟨rfl, rfl⟩
      · exact ⟨0, 0, sg, List.replicate q 48 ++ D, by simp only [List.replicate_zero, List.nil_append, List.append_nil], hs, h.noughts _⟩
      · exact ⟨1, 0, [], List.replicate q 48 ++ D, by simp only [List.replicate_zero, List.append_nil]; rfl, Or.inl ⟨rfl, rfl⟩, h.noughts _⟩
    · split
      · rcases hs with hs | ⟨rfl, rfl⟩
        · exact ⟨0, q, sg, D, by rw [List.replicate_zero, List.nil_append, List.append_assoc], hs, h⟩
        · exact ⟨1, q, [], D, by rw [List.append_assoc]; rfl, Or.inl ⟨rfl, rfl⟩, h⟩
      · rcases hs with hs | ⟨rfl, rfl⟩
        · exact ⟨q, 0, sg, D, by rw [List.replicate_zero, List.append_nil], hs, h⟩
        · refine ⟨q + 1, 0, [], D, ?_, Or.inl ⟨rfl, rfl⟩, h⟩
          rw [List.replicate_succ', List.replicate_zero, List.append_nil, List.nil_append, List.append_assoc]
  obtain ⟨K, j, sg', D', e, h1, h2⟩ := key
  rw [e]
  exact reads_sig h1 h2
end Go.Proofs.YtmceakbjholjpaaGreatDoor

namespace Go.Proofs.YtmceakbjholjpaaGreatDoor
open Go.RowKit Go.Lib

theorem fixT_len (d : List UInt8) (q : Nat) : (fixT d q).length ≤ d.length + q + 2 := by
  unfold fixT padT
  split
  · omega
  · rw [List.length_append, List.length_cons, List.length_take, List.length_drop, List.length_append, List.length_replicate]
    omega
theorem fixP_len {r q : Nat} (h : r < 9218868437227405312) (hq : q ≤ 200) (full : Bool) : (fixP r q full).length ≤ 3000 := by
  have hN := amN_room h
  have h10 : 10 ^ q < B32 ^ 26 := ten_lt _ _ (by omega)
  have hNT : amN r * 10 ^ q < B32 ^ 59 := prod_room hN h10 (by omega)
  have hr : rnd (amN r * 10 ^ q) (amD r) < B32 ^ 60 := by
    have h1 := rnd_le (amN r * 10 ^ q) (amD r)
    have h2 := Nat.div_le_self (amN r * 10 ^ q) (amD r)
    have h3 : B32 ^ 59 * 2 ≤ B32 ^ 60 := by rw [Nat.pow_succ]; exact Nat.mul_le_mul_left _ (by decide)
    omega
  have hl := (decs_room hr (by omega)).2
  have hf := fixT_len (decs (rnd (amN r * 10 ^ q) (amD r))) q
  unfold fixP
  rw [List.length_append]
  have : (if q = 0 ∧ full = true then [46] else ([] : List UInt8)).length ≤ 1 := by split <;> simp
  omega
theorem ptT_len (d : List UInt8) (q : Bool) : (ptT d q).length ≤ d.length + 1 := by
  unfold ptT
  split
  · rw [List.length_append, List.length_cons, List.length_take, List.length_drop]
    omega
  · omega
theorem trimR_len (l : List UInt8) (x : UInt8) : (Lib.trimRightB l x).length ≤ l.length := by
  obtain ⟨k, hk⟩ := trim_split l x
  have := congrArg List.length hk
  rw [List.length_append] at this
  omega

set_option maxRecDepth 100000 in
set_option maxHeartbeats 2000000 in
theorem ffix_any (x q : Nat) (full : Bool) (w : World) (hb : x < 18446744073709551616) (h : mag x < 9218868437227405312) (hq : q ≤ 200) : Calls Tryz.prog 95 #[.float .f64 x, .int .i64 q, .bool full] w fun e w' => e = .returned (.string ⟨(fixP (mag x) q full).toArray⟩) ∧ Below w.heap.size w w' := by
  have cF := fixed_yes x q w hb h hq
  unfold fixP
  obtain ⟨l, hl⟩ : ∃ l, fixT (decs (rnd (amN (mag x) * 10 ^ q) (amD (mag x)))) q = l := ⟨_, rfl⟩
  have hll : l.length ≤ 3000 := by
    have := fixP_len h hq false
    unfold fixP at this
    rw [hl, if_neg (fun h => by cases h.2), List.append_nil] at this
    exact this
  rw [hl] at cF ⊢
  have e1 := ba_cat ⟨l.toArray⟩ [46]
  obtain ⟨S, hS⟩ : ∃ S : ByteArray, (⟨l.toArray⟩ : ByteArray) = S := ⟨_, rfl⟩
  have HS := Lib.hid hS
  rw [hS] at cF e1
  have hSl : S.data.toList = l := by rw [← hS]
  rw [hSl] at e1
  have hSs : S.size ≤ 3000 := by rw [← ba_len, hSl]; exact hll
  have CF := Lib.hid cF
  have E1 := Lib.hid e1
  clear cF e1 hl hS hSl h hll
  obtain ⟨X, hX⟩ : ∃ X, l ++ (if q = 0 ∧ full = true then [46] else []) = X := ⟨_, rfl⟩
  rw [hX]
  have HX := Lib.hid hX
  clear hX
  by_cases h0 : q = 0
  · have hq0 : ((q : Int) == 0) = true := by rw [beq_iff_eq]; omega
    have HQ := Lib.hid h0
    clear h0
    cases full with
    | true =>
      go_enter Tryz.func95, Tryz.ntmps95
      go_wp2_with fail
      refine CF.out.mono ?_
      rintro e w' ⟨rfl, hB⟩
      go_wp2_with fail
      go_ret
      exact ⟨by show Ending.returned (.string (S ++ ⟨#[46]⟩)) = _; rw [E1.out, ← HX.out, if_pos ⟨HQ.out, by first | rfl | trivial⟩], hB⟩
    | false =>
      go_enter Tryz.func95, Tryz.ntmps95
      go_wp2_with fail
      refine CF.out.mono ?_
      rintro e w' ⟨rfl, hB⟩
      go_wp2_with fail
      go_ret
      exact ⟨by show Ending.returned (.string S) = _; rw [← HS.out, ← HX.out, if_neg (by first | (exact fun h => Bool.noConfusion h.2) | (exact fun h => h.2)), List.append_nil], hB⟩
  · have hq0 : ((q : Int) == 0) = false := by rw [beq_eq_false_iff_ne]; omega
    have HQ := Lib.hid h0
    clear h0
    go_enter Tryz.func95, Tryz.ntmps95
    go_wp2_with fail
    refine CF.out.mono ?_
    rintro e w' ⟨rfl, hB⟩
    go_wp2_with fail
    go_ret
    exact ⟨by show Ending.returned (.string S) = _; rw [← HS.out, ← HX.out, if_neg (fun h => HQ.out h.1), List.append_nil], hB⟩
/-- Sci's answer, told by one name. -/
theorem sci_gen (x p : Nat) (w : World) (hb : x < 18446744073709551616) (h : mag x < 9218868437227405312) (hp : p ≤ 200) : Calls Tryz.prog 136 #[.float .f64 x, .int .i64 p] w fun e w' => e = .returned (.tuple #[.string ⟨(sciX (mag x) p).1.toArray⟩, .int .i64 (sciX (mag x) p).2, .int .i64 0]) ∧ Below w.heap.size w w' := by
  rcases Nat.eq_zero_or_pos (mag x) with h0 | h0
  · rw [h0, sciX_zero]
    exact sci_zero x p w hb h0 hp
  · refine (sci_yes x p w hb h0 h hp).mono ?_
    rintro e w' ⟨⟨P, M, ok, rfl⟩, hB⟩
    rw [sciX_of ok]
    exact ⟨rfl, hB⟩
theorem ext_point {S : ByteArray} {l : List UInt8} (h : S.data.toList = l) (_hs : 1 ≤ S.size) : S.extract 0 1 ++ ⟨#[46]⟩ ++ S.extract 1 S.size = ⟨(l.take 1 ++ 46 :: l.drop 1).toArray⟩ := by
  apply ByteArray.ext
  apply Array.toList_inj.1
  rw [ByteArray.data_append, ByteArray.data_append, Array.toList_append, Array.toList_append, ← h]
  have e1 : (S.extract 0 1).data.toList = S.data.toList.take 1 := by
    rw [ByteArray.data_extract, Array.toList_extract]
    simp [List.extract]
  have e2 : (S.extract 1 S.size).data.toList = S.data.toList.drop 1 := by
    rw [ByteArray.data_extract, Array.toList_extract]
    simp only [List.extract]
    rw [List.take_of_length_le]
    rw [List.length_drop, ba_len]
    omega
  rw [e1, e2]
  simp
set_option maxRecDepth 100000 in
set_option maxHeartbeats 4000000 in
theorem fsci_any (x p : Nat) (full : Bool) (w : World) (hb : x < 18446744073709551616) (h : mag x < 9218868437227405312) (hp : p ≤ 200) (hT : PowTab w) : Calls Tryz.prog 96 #[.float .f64 x, .int .i64 p, .bool full] w fun e w' => e = .returned (.tuple #[.string ⟨(ptT (sciX (mag x) p).1 (decide (0 < p) || full)).toArray⟩, .string ⟨(expT (sciX (mag x) p).2).toArray⟩]) ∧ Below w.heap.size w w' := by
  have cS := sci_gen x p w hb h hp
  obtain ⟨hl, hd, b0, b1⟩ := sciX_facts w h hp
  obtain ⟨l, hle⟩ : ∃ l, (sciX (mag x) p).1 = l := ⟨_, rfl⟩
  obtain ⟨P, hPe⟩ : ∃ P, (sciX (mag x) p).2 = P := ⟨_, rfl⟩
  rw [hle, hPe] at cS
  rw [hle] at hl hd
  rw [hPe] at b0 b1
  rw [hle, hPe]
  obtain ⟨S, hS⟩ : ∃ S : ByteArray, (⟨l.toArray⟩ : ByteArray) = S := ⟨_, rfl⟩
  have hSl : S.data.toList = l := by rw [← hS]
  have hSs : S.size = p + 1 := by rw [← ba_len, hSl, hl]
  have hs1 : (1 : Int) ≤ (S.size : Int) := by omega
  rw [hS] at cS
  have e1 := ext_point hSl (by omega)
  rw [hSs] at e1
  obtain ⟨n, hn⟩ : ∃ n, P.natAbs = n := ⟨_, rfl⟩
  have hn4 : n ≤ 400 := by omega
  have cI := fun (W : World) (hW : PowTab W) => Tryz.strconv_Itoa (n : Int) (by omega) (by omega) W hW
  have hit : Lib.itoa (n : Int) = decs n := by
    unfold Lib.itoa
    rw [if_neg (by omega), decD, Int.toNat_natCast]
  rw [hit] at cI
  unfold ptT expT
  rw [hn]
  have HS := Lib.hid hS
  have CS := Lib.hid cS
  have CI := Lib.hid cI
  have E1 := Lib.hid e1
  have HT := Lib.hid (Lib.tabBelow_of_tabIs hT)
  have HSL := Lib.hid hSl
  have HN := Lib.hid hn
  clear cS cI e1 hS hSl hle hPe hl hd hit h hb hT hn
  have hw : wrap64 (n : Int) = (n : Int) := by unfold wrap64; omega
  have fin : ∀ (D M : ByteArray), (D.data.toList = if (decide (0 < p) || full) = true then l.take 1 ++ 46 :: l.drop 1 else l) → M.data.toList = (if P < 0 then [101, 45] else [101, 43]) ++ ((if n < 10 then [48] else []) ++ decs n) →
      Ending.returned (.tuple #[.string D, .string M]) = Ending.returned (.tuple #[.string ⟨(if (decide (0 < p) || full) = true then l.take 1 ++ 46 :: l.drop 1 else l).toArray⟩, .string ⟨((if P < 0 then [101, 45] else [101, 43]) ++ ((if n < 10 then [48] else []) ++ decs n)).toArray⟩]) := fun D M h1 h2 => by
    rw [← h1, ← h2]
  obtain ⟨X, hX⟩ : ∃ X, (if (decide (0 < p) || full) = true then l.take 1 ++ 46 :: l.drop 1 else l) = X := ⟨_, rfl⟩
  obtain ⟨Z, hZ⟩ : ∃ Z, (if P < 0 then [101, 45] else [101, 43]) ++ ((if n < 10 then [48] else []) ++ decs n) = Z := ⟨_, rfl⟩
  rw [hX, hZ] at fin ⊢
  have HX := Lib.hid hX
  have HZ := Lib.hid hZ
  have FIN := Lib.hid fin
  clear fin hX hZ
  obtain ⟨Q, hQ⟩ : ∃ Q : ByteArray, (⟨(decs n).toArray⟩ : ByteArray) = Q := ⟨_, rfl⟩
  have HQ := Lib.hid (show Q.data.toList = decs n by rw [← hQ])
  have hQs : Q.size ≤ 3 := by rw [← ba_len, HQ.out]; exact (decs_le (by omega)).2 (by omega)
  have CI := CI.out
  rw [hQ] at CI
  have CI := Lib.hid CI
  clear hQ
  have hcase : (0 < p ∨ (p = 0 ∧ full = true)) ∨ (p = 0 ∧ full = false) := by
    rcases Nat.eq_zero_or_pos p with h | h
    · cases full
      · exact Or.inr ⟨h, rfl⟩
      · exact Or.inl (Or.inr ⟨h, rfl⟩)
    · exact Or.inl (Or.inl h)
  rcases hcase with (h0 | ⟨h0, rfl⟩) | ⟨h0, rfl⟩
  · have hpp : (0 : Int) < (p : Int) := by omega
    have H0 := Lib.hid h0
    clear h0
    by_cases hP : P < 0
    · obtain rfl : P = -(n : Int) := by have := HN.out; omega
      have HP := Lib.hid hP
      by_cases h10 : n < 10
      · have h10z : (n : Int) < 10 := by omega
        have H10 := Lib.hid h10
        clear h10
        go_enter Tryz.func96, Tryz.ntmps96
        go_wp2_with fail
        refine CS.out.mono ?_
        rintro e w1 ⟨rfl, hB⟩
        go_wp2_with fail
        go_quiet (fail)
        have hB := below_drewN hB nq
        go_wp2_with fail
        refine (CI.out _ (HT.out _ hB)).mono ?_
        obtain ⟨w3, hw3⟩ : ∃ w3, w1.drewN nq = w3 := ⟨_, rfl⟩
        rw [hw3] at hB ⊢
        rintro e w2 ⟨rfl, k, os, hw2⟩
        have hB2 : Below w.heap.size w w2 := hB.trans ((by rw [hw2]; exact Lib.below_grow w3.heap.size w3 (Nat.le_refl _) k os : Below w3.heap.size w3 w2).mono hB.size)
        clear hw2
        go_wp2_with fail
        go_ret2
        exact ⟨FIN.out _ _ (by rw [E1.out, ← HX.out, if_pos (by simp [H0.out])]) (by rw [← HZ.out, if_pos (by have := HP.out; omega), if_pos (by have := H10.out; omega)]; simp only [ByteArray.data_append, Array.toList_append, HQ.out]; rfl), hB2⟩
      · have h10z : ¬ (n : Int) < 10 := by omega
        have H10 := Lib.hid h10
        clear h10
        go_enter Tryz.func96, Tryz.ntmps96
        go_wp2_with fail
        refine CS.out.mono ?_
        rintro e w1 ⟨rfl, hB⟩
        go_wp2_with fail
        go_quiet (fail)
        have hB := below_drewN hB nq
        go_wp2_with fail
        refine (CI.out _ (HT.out _ hB)).mono ?_
        obtain ⟨w3, hw3⟩ : ∃ w3, w1.drewN nq = w3 := ⟨_, rfl⟩
        rw [hw3] at hB ⊢
        rintro e w2 ⟨rfl, k, os, hw2⟩
        have hB2 : Below w.heap.size w w2 := hB.trans ((by rw [hw2]; exact Lib.below_grow w3.heap.size w3 (Nat.le_refl _) k os : Below w3.heap.size w3 w2).mono hB.size)
        clear hw2
        go_wp2_with fail
        go_ret2
        exact ⟨FIN.out _ _ (by rw [E1.out, ← HX.out, if_pos (by simp [H0.out])]) (by rw [← HZ.out, if_pos (by have := HP.out; omega), if_neg (by have := H10.out; omega)]; simp only [ByteArray.data_append, Array.toList_append, HQ.out]; rfl), hB2⟩
    · obtain rfl : P = (n : Int) := by have := HN.out; omega
      have HP := Lib.hid hP
      by_cases h10 : n < 10
      · have h10z : (n : Int) < 10 := by omega
        have H10 := Lib.hid h10
        clear h10
        go_enter Tryz.func96, Tryz.ntmps96
        go_wp2_with fail
        refine CS.out.mono ?_
        rintro e w1 ⟨rfl, hB⟩
        go_wp2_with fail
        go_quiet (fail)
        have hB := below_drewN hB nq
        go_wp2_with fail
        refine (CI.out _ (HT.out _ hB)).mono ?_
        obtain ⟨w3, hw3⟩ : ∃ w3, w1.drewN nq = w3 := ⟨_, rfl⟩
        rw [hw3] at hB ⊢
        rintro e w2 ⟨rfl, k, os, hw2⟩
        have hB2 : Below w.heap.size w w2 := hB.trans ((by rw [hw2]; exact Lib.below_grow w3.heap.size w3 (Nat.le_refl _) k os : Below w3.heap.size w3 w2).mono hB.size)
        clear hw2
        go_wp2_with fail
        go_ret2
        exact ⟨FIN.out _ _ (by rw [E1.out, ← HX.out, if_pos (by simp [H0.out])]) (by rw [← HZ.out, if_neg (show ¬ (n : Int) < 0 by omega), if_pos (by have := H10.out; omega)]; simp only [ByteArray.data_append, Array.toList_append, HQ.out]; rfl), hB2⟩
      · have h10z : ¬ (n : Int) < 10 := by omega
        have H10 := Lib.hid h10
        clear h10
        go_enter Tryz.func96, Tryz.ntmps96
        go_wp2_with fail
        refine CS.out.mono ?_
        rintro e w1 ⟨rfl, hB⟩
        go_wp2_with fail
        go_quiet (fail)
        have hB := below_drewN hB nq
        go_wp2_with fail
        refine (CI.out _ (HT.out _ hB)).mono ?_
        obtain ⟨w3, hw3⟩ : ∃ w3, w1.drewN nq = w3 := ⟨_, rfl⟩
        rw [hw3] at hB ⊢
        rintro e w2 ⟨rfl, k, os, hw2⟩
        have hB2 : Below w.heap.size w w2 := hB.trans ((by rw [hw2]; exact Lib.below_grow w3.heap.size w3 (Nat.le_refl _) k os : Below w3.heap.size w3 w2).mono hB.size)
        clear hw2
        go_wp2_with fail
        go_ret2
        exact ⟨FIN.out _ _ (by rw [E1.out, ← HX.out, if_pos (by simp [H0.out])]) (by rw [← HZ.out, if_neg (show ¬ (n : Int) < 0 by omega), if_neg (by have := H10.out; omega)]; simp only [ByteArray.data_append, Array.toList_append, HQ.out]; rfl), hB2⟩
  · have hpp : ¬ (0 : Int) < (p : Int) := by omega
    have H0 := Lib.hid h0
    clear h0
    have E1b := Lib.hid (show S.extract 0 1 ++ ⟨#[46]⟩ = ⟨(l.take 1 ++ 46 :: l.drop 1).toArray⟩ by have h := E1.out; rw [H0.out] at h; simpa using h)
    by_cases hP : P < 0
    · obtain rfl : P = -(n : Int) := by have := HN.out; omega
      have HP := Lib.hid hP
      by_cases h10 : n < 10
      · have h10z : (n : Int) < 10 := by omega
        have H10 := Lib.hid h10
        clear h10
        go_enter Tryz.func96, Tryz.ntmps96
        go_wp2_with fail
        refine CS.out.mono ?_
        rintro e w1 ⟨rfl, hB⟩
        go_wp2_with fail
        go_quiet (fail)
        have hB := below_drewN hB nq
        go_wp2_with fail
        refine (CI.out _ (HT.out _ hB)).mono ?_
        obtain ⟨w3, hw3⟩ : ∃ w3, w1.drewN nq = w3 := ⟨_, rfl⟩
        rw [hw3] at hB ⊢
        rintro e w2 ⟨rfl, k, os, hw2⟩
        have hB2 : Below w.heap.size w w2 := hB.trans ((by rw [hw2]; exact Lib.below_grow w3.heap.size w3 (Nat.le_refl _) k os : Below w3.heap.size w3 w2).mono hB.size)
        clear hw2
        go_wp2_with fail
        go_ret2
        exact ⟨FIN.out _ _ (by rw [E1b.out, ← HX.out, if_pos (by simp [H0.out])]) (by rw [← HZ.out, if_pos (by have := HP.out; omega), if_pos (by have := H10.out; omega)]; simp only [ByteArray.data_append, Array.toList_append, HQ.out]; rfl), hB2⟩
      · have h10z : ¬ (n : Int) < 10 := by omega
        have H10 := Lib.hid h10
        clear h10
        go_enter Tryz.func96, Tryz.ntmps96
        go_wp2_with fail
        refine CS.out.mono ?_
        rintro e w1 ⟨rfl, hB⟩
        go_wp2_with fail
        go_quiet (fail)
        have hB := below_drewN hB nq
        go_wp2_with fail
        refine (CI.out _ (HT.out _ hB)).mono ?_
        obtain ⟨w3, hw3⟩ : ∃ w3, w1.drewN nq = w3 := ⟨_, rfl⟩
        rw [hw3] at hB ⊢
        rintro e w2 ⟨rfl, k, os, hw2⟩
        have hB2 : Below w.heap.size w w2 := hB.trans ((by rw [hw2]; exact Lib.below_grow w3.heap.size w3 (Nat.le_refl _) k os : Below w3.heap.size w3 w2).mono hB.size)
        clear hw2
        go_wp2_with fail
        go_ret2
        exact ⟨FIN.out _ _ (by rw [E1b.out, ← HX.out, if_pos (by simp [H0.out])]) (by rw [← HZ.out, if_pos (by have := HP.out; omega), if_neg (by have := H10.out; omega)]; simp only [ByteArray.data_append, Array.toList_append, HQ.out]; rfl), hB2⟩
    · obtain rfl : P = (n : Int) := by have := HN.out; omega
      have HP := Lib.hid hP
      by_cases h10 : n < 10
      · have h10z : (n : Int) < 10 := by omega
        have H10 := Lib.hid h10
        clear h10
        go_enter Tryz.func96, Tryz.ntmps96
        go_wp2_with fail
        refine CS.out.mono ?_
        rintro e w1 ⟨rfl, hB⟩
        go_wp2_with fail
        go_quiet (fail)
        have hB := below_drewN hB nq
        go_wp2_with fail
        refine (CI.out _ (HT.out _ hB)).mono ?_
        obtain ⟨w3, hw3⟩ : ∃ w3, w1.drewN nq = w3 := ⟨_, rfl⟩
        rw [hw3] at hB ⊢
        rintro e w2 ⟨rfl, k, os, hw2⟩
        have hB2 : Below w.heap.size w w2 := hB.trans ((by rw [hw2]; exact Lib.below_grow w3.heap.size w3 (Nat.le_refl _) k os : Below w3.heap.size w3 w2).mono hB.size)
        clear hw2
        go_wp2_with fail
        go_ret2
        exact ⟨FIN.out _ _ (by rw [E1b.out, ← HX.out, if_pos (by simp [H0.out])]) (by rw [← HZ.out, if_neg (show ¬ (n : Int) < 0 by omega), if_pos (by have := H10.out; omega)]; simp only [ByteArray.data_append, Array.toList_append, HQ.out]; rfl), hB2⟩
      · have h10z : ¬ (n : Int) < 10 := by omega
        have H10 := Lib.hid h10
        clear h10
        go_enter Tryz.func96, Tryz.ntmps96
        go_wp2_with fail
        refine CS.out.mono ?_
        rintro e w1 ⟨rfl, hB⟩
        go_wp2_with fail
        go_quiet (fail)
        have hB := below_drewN hB nq
        go_wp2_with fail
        refine (CI.out _ (HT.out _ hB)).mono ?_
        obtain ⟨w3, hw3⟩ : ∃ w3, w1.drewN nq = w3 := ⟨_, rfl⟩
        rw [hw3] at hB ⊢
        rintro e w2 ⟨rfl, k, os, hw2⟩
        have hB2 : Below w.heap.size w w2 := hB.trans ((by rw [hw2]; exact Lib.below_grow w3.heap.size w3 (Nat.le_refl _) k os : Below w3.heap.size w3 w2).mono hB.size)
        clear hw2
        go_wp2_with fail
        go_ret2
        exact ⟨FIN.out _ _ (by rw [E1b.out, ← HX.out, if_pos (by simp [H0.out])]) (by rw [← HZ.out, if_neg (show ¬ (n : Int) < 0 by omega), if_neg (by have := H10.out; omega)]; simp only [ByteArray.data_append, Array.toList_append, HQ.out]; rfl), hB2⟩
  · have hpp : ¬ (0 : Int) < (p : Int) := by omega
    have H0 := Lib.hid h0
    clear h0
    by_cases hP : P < 0
    · obtain rfl : P = -(n : Int) := by have := HN.out; omega
      have HP := Lib.hid hP
      by_cases h10 : n < 10
      · have h10z : (n : Int) < 10 := by omega
        have H10 := Lib.hid h10
        clear h10
        go_enter Tryz.func96, Tryz.ntmps96
        go_wp2_with fail
        refine CS.out.mono ?_
        rintro e w1 ⟨rfl, hB⟩
        go_wp2_with fail
        refine (CI.out _ (HT.out _ hB)).mono ?_
        rintro e w2 ⟨rfl, k, os, hw2⟩
        have hB2 : Below w.heap.size w w2 := hB.trans ((by rw [hw2]; exact Lib.below_grow w1.heap.size w1 (Nat.le_refl _) k os : Below w1.heap.size w1 w2).mono hB.size)
        clear hw2
        go_wp2_with fail
        go_ret2
        exact ⟨FIN.out _ _ (by rw [HSL.out, ← HX.out, if_neg (by simp [H0.out])]) (by rw [← HZ.out, if_pos (by have := HP.out; omega), if_pos (by have := H10.out; omega)]; simp only [ByteArray.data_append, Array.toList_append, HQ.out]; rfl), hB2⟩
      · have h10z : ¬ (n : Int) < 10 := by omega
        have H10 := Lib.hid h10
        clear h10
        go_enter Tryz.func96, Tryz.ntmps96
        go_wp2_with fail
        refine CS.out.mono ?_
        rintro e w1 ⟨rfl, hB⟩
        go_wp2_with fail
        refine (CI.out _ (HT.out _ hB)).mono ?_
        rintro e w2 ⟨rfl, k, os, hw2⟩
        have hB2 : Below w.heap.size w w2 := hB.trans ((by rw [hw2]; exact Lib.below_grow w1.heap.size w1 (Nat.le_refl _) k os : Below w1.heap.size w1 w2).mono hB.size)
        clear hw2
        go_wp2_with fail
        go_ret2
        exact ⟨FIN.out _ _ (by rw [HSL.out, ← HX.out, if_neg (by simp [H0.out])]) (by rw [← HZ.out, if_pos (by have := HP.out; omega), if_neg (by have := H10.out; omega)]; simp only [ByteArray.data_append, Array.toList_append, HQ.out]; rfl), hB2⟩
    · obtain rfl : P = (n : Int) := by have := HN.out; omega
      have HP := Lib.hid hP
      by_cases h10 : n < 10
      · have h10z : (n : Int) < 10 := by omega
        have H10 := Lib.hid h10
        clear h10
        go_enter Tryz.func96, Tryz.ntmps96
        go_wp2_with fail
        refine CS.out.mono ?_
        rintro e w1 ⟨rfl, hB⟩
        go_wp2_with fail
        refine (CI.out _ (HT.out _ hB)).mono ?_
        rintro e w2 ⟨rfl, k, os, hw2⟩
        have hB2 : Below w.heap.size w w2 := hB.trans ((by rw [hw2]; exact Lib.below_grow w1.heap.size w1 (Nat.le_refl _) k os : Below w1.heap.size w1 w2).mono hB.size)
        clear hw2
        go_wp2_with fail
        go_ret2
        exact ⟨FIN.out _ _ (by rw [HSL.out, ← HX.out, if_neg (by simp [H0.out])]) (by rw [← HZ.out, if_neg (show ¬ (n : Int) < 0 by omega), if_pos (by have := H10.out; omega)]; simp only [ByteArray.data_append, Array.toList_append, HQ.out]; rfl), hB2⟩
      · have h10z : ¬ (n : Int) < 10 := by omega
        have H10 := Lib.hid h10
        clear h10
        go_enter Tryz.func96, Tryz.ntmps96
        go_wp2_with fail
        refine CS.out.mono ?_
        rintro e w1 ⟨rfl, hB⟩
        go_wp2_with fail
        refine (CI.out _ (HT.out _ hB)).mono ?_
        rintro e w2 ⟨rfl, k, os, hw2⟩
        have hB2 : Below w.heap.size w w2 := hB.trans ((by rw [hw2]; exact Lib.below_grow w1.heap.size w1 (Nat.le_refl _) k os : Below w1.heap.size w1 w2).mono hB.size)
        clear hw2
        go_wp2_with fail
        go_ret2
        exact ⟨FIN.out _ _ (by rw [HSL.out, ← HX.out, if_neg (by simp [H0.out])]) (by rw [← HZ.out, if_neg (show ¬ (n : Int) < 0 by omega), if_neg (by have := H10.out; omega)]; simp only [ByteArray.data_append, Array.toList_append, HQ.out]; rfl), hB2⟩
end Go.Proofs.YtmceakbjholjpaaGreatDoor

namespace Go.Proofs.YtmceakbjholjpaaGreatDoor
open Go.RowKit Go.Lib

theorem trimS_len (l m : List UInt8) : (Lib.trimSuffix l m).length ≤ l.length := by
  unfold Lib.trimSuffix
  split
  · rw [List.length_take]; omega
  · omega
theorem expT_len {P : Int} (h0 : -400 ≤ P) (h1 : P ≤ 400) : (expT P).length ≤ 10 := by
  unfold expT
  have h : (decs P.natAbs).length ≤ 3 := (decs_le (by omega)).2 (by omega)
  rw [List.length_append, List.length_append]
  have h2 : (if P < 0 then [101, 45] else [101, 43] : List UInt8).length = 2 := by split <;> rfl
  have h3 : (if P.natAbs < 10 then [48] else [] : List UInt8).length ≤ 1 := by split <;> simp
  omega
/-- What the walk of general wants to know of the text that it has laid (D) and of the mark behind it (M). -/
def GenEnd (w : World) (full : Bool) (D M : List UInt8) (e : Ending) (w' : World) : Prop := e = .returned (.string ⟨(trimG full D ++ M).toArray⟩) ∧ Below w.heap.size w w'
set_option maxRecDepth 100000 in
set_option maxHeartbeats 4000000 in
theorem gen_sci (x n c : Nat) (full : Bool) (l : List UInt8) (P : Int) (D M : List UInt8) (w : World) (hc : n + 1 = c) (hn : n ≤ 190) (_hT : PowTab w) (hD : D.length ≤ 10000) (hM : M.length ≤ 1000) (hP : (P < -4 ∨ (n : Int) + 1 ≤ P)) (b0 : -400 ≤ P) (b1 : P ≤ 400)
    (CS : Calls Tryz.prog 136 #[.float .f64 x, .int .i64 (n : Int)] w fun e w' => e = .returned (.tuple #[.string ⟨l.toArray⟩, .int .i64 P, .int .i64 0]) ∧ Below w.heap.size w w')
    (CC : ∀ W, PowTab W → Calls Tryz.prog 96 #[.float .f64 x, .int .i64 (n : Int), .bool full] W fun e w' => e = .returned (.tuple #[.string ⟨D.toArray⟩, .string ⟨M.toArray⟩]) ∧ Below W.heap.size W w') :
    Calls Tryz.prog 97 #[.float .f64 x, .int .i64 (c : Int), .bool full] w (GenEnd w full D M) := by
  have hw1 : wrap64 ((c : Int) - 1) = (n : Int) := by unfold wrap64; omega
  have hw0 : (c : Int) - 1 = (n : Int) := by omega
  have hc1 : (n : Int) + 1 = (c : Int) := by omega
  unfold GenEnd trimG
  obtain ⟨SD, hSD⟩ : ∃ SD : ByteArray, (⟨D.toArray⟩ : ByteArray) = SD := ⟨_, rfl⟩
  have hDl : SD.data.toList = D := by rw [← hSD]
  have hDs : SD.size ≤ 10000 := by rw [← ba_len, hDl]; exact hD
  obtain ⟨SM, hSM⟩ : ∃ SM : ByteArray, (⟨M.toArray⟩ : ByteArray) = SM := ⟨_, rfl⟩
  have hMl : SM.data.toList = M := by rw [← hSM]
  rw [hSD, hSM] at CC
  obtain ⟨SL, hSL⟩ : ∃ SL : ByteArray, (⟨l.toArray⟩ : ByteArray) = SL := ⟨_, rfl⟩
  rw [hSL] at CS
  have cI := fun W => Tryz.strings_Contains_one SD 46 W
  rw [hDl, idx_has] at cI
  have cR := fun W => Tryz.strings_TrimRight_one SD 48 (by decide) W (by omega)
  rw [hDl] at cR
  obtain ⟨SR, hSR⟩ : ∃ SR : ByteArray, (⟨(Lib.trimRightB D 48).toArray⟩ : ByteArray) = SR := ⟨_, rfl⟩
  have hRl : SR.data.toList = Lib.trimRightB D 48 := by rw [← hSR]
  have hRs : SR.size ≤ 10000 := by rw [← ba_len, hRl]; exact Nat.le_trans (trimR_len _ _) hD
  rw [hSR] at cR
  have cU := fun W => Tryz.strings_TrimSuffix SR ⟨#[46]⟩ W (by omega)
  rw [hRl] at cU
  replace cU : ∀ W : World, Calls Tryz.prog 139 #[.string SR, .string ⟨#[46]⟩] W fun e w' => e = .returned (.string ⟨(Lib.trimSuffix (Lib.trimRightB D 48) [46]).toArray⟩) ∧ w' = W := cU
  obtain ⟨U, hU⟩ : ∃ U, Lib.trimSuffix (Lib.trimRightB D 48) [46] = U := ⟨_, rfl⟩
  obtain ⟨SU, hSU⟩ : ∃ SU : ByteArray, (⟨U.toArray⟩ : ByteArray) = SU := ⟨_, rfl⟩
  have hUl : SU.data.toList = U := by rw [← hSU]
  rw [hU, hSU] at cU
  rw [hU]
  obtain ⟨v, hv⟩ : ∃ v, D.contains 46 = v := ⟨_, rfl⟩
  rw [hv] at cI ⊢
  have hUs : SU.size ≤ 10000 := by rw [← ba_len, hUl, ← hU]; exact Nat.le_trans (trimS_len _ _) (Nat.le_trans (trimR_len _ _) hD)
  obtain ⟨X, hX⟩ : ∃ X, (if full = false ∧ v = true then U else D) ++ M = X := ⟨_, rfl⟩
  rw [hX]
  have HX := Lib.hid hX
  clear hX
  have hMs : SM.size ≤ 1000 := by rw [← ba_len, hMl]; exact hM
  have e1 : SD ++ SM = ⟨(D ++ M).toArray⟩ := by rw [← hSM, ba_cat, hDl]
  have e2 : SU ++ SM = ⟨(U ++ M).toArray⟩ := by rw [← hSM, ba_cat, hUl]
  have E1 := Lib.hid e1
  have E2 := Lib.hid e2
  have CS := Lib.hid CS
  have CC := Lib.hid CC
  have CI := Lib.hid cI
  have CR := Lib.hid cR
  have CU := Lib.hid cU
  have HT := Lib.hid (Lib.tabBelow_of_tabIs _hT)
  clear cI cR cU e1 e2 hSD hDl hSL hSR hRl hRs hU hSU hUl hv hD _hT
  clear hSM hMl hM
  have hcase : P < -4 ∨ (-4 ≤ P ∧ (c : Int) ≤ P) := by omega
  clear hP
  rcases hcase with hP | ⟨hP0, hP1⟩
  all_goals
    cases full with
    | true =>
      go_enter Tryz.func97, Tryz.ntmps97
      go_wp2_with fail
      refine CS.out.mono ?_
      rintro e w1 ⟨rfl, hB⟩
      go_wp2_with fail
      refine (CC.out _ (HT.out _ hB)).mono ?_
      rintro e w2 ⟨rfl, hB2⟩
      have hB2 := hB.trans (hB2.mono hB.size)
      go_wp2_with fail
      go_ret
      exact ⟨by show Ending.returned (.string (SD ++ SM)) = _; rw [E1.out, ← HX.out, if_neg (by simp)], hB2⟩
    | false =>
      cases v with
      | true =>
        go_enter Tryz.func97, Tryz.ntmps97
        go_wp2_with fail
        refine CS.out.mono ?_
        rintro e w1 ⟨rfl, hB⟩
        go_wp2_with fail
        refine (CC.out _ (HT.out _ hB)).mono ?_
        rintro e w2 ⟨rfl, hB2⟩
        have hB2 := hB.trans (hB2.mono hB.size)
        go_wp2_with fail
        refine (CI.out _).mono ?_
        rintro e w3 ⟨rfl, rfl⟩
        go_wp2_with fail
        refine (CR.out _).mono ?_
        rintro e w4 ⟨rfl, rfl⟩
        go_wp2_with fail
        refine (CU.out _).mono ?_
        rintro e w5 ⟨rfl, rfl⟩
        go_wp2_with fail
        go_ret
        exact ⟨by show Ending.returned (.string (SU ++ SM)) = _; rw [E2.out, ← HX.out, if_pos (by simp)], hB2⟩
      | false =>
        go_enter Tryz.func97, Tryz.ntmps97
        go_wp2_with fail
        refine CS.out.mono ?_
        rintro e w1 ⟨rfl, hB⟩
        go_wp2_with fail
        refine (CC.out _ (HT.out _ hB)).mono ?_
        rintro e w2 ⟨rfl, hB2⟩
        have hB2 := hB.trans (hB2.mono hB.size)
        go_wp2_with fail
        refine (CI.out _).mono ?_
        rintro e w3 ⟨rfl, rfl⟩
        go_wp2_with fail
        go_ret
        exact ⟨by show Ending.returned (.string (SD ++ SM)) = _; rw [E1.out, ← HX.out, if_neg (by simp)], hB2⟩
set_option maxRecDepth 100000 in
set_option maxHeartbeats 4000000 in
theorem gen_fix (x n c : Nat) (full : Bool) (l : List UInt8) (P : Int) (D : List UInt8) (w : World) (hc : n + 1 = c) (hn : n ≤ 190) (_hT : PowTab w) (hD : D.length ≤ 10000) (hP0 : -4 ≤ P) (hP1 : P ≤ (n : Int)) (_b0 : -400 ≤ P) (b1 : P ≤ 400)
    (CS : Calls Tryz.prog 136 #[.float .f64 x, .int .i64 (n : Int)] w fun e w' => e = .returned (.tuple #[.string ⟨l.toArray⟩, .int .i64 P, .int .i64 0]) ∧ Below w.heap.size w w')
    (CC : ∀ W, Calls Tryz.prog 95 #[.float .f64 x, .int .i64 ((n : Int) - P), .bool full] W fun e w' => e = .returned (.string ⟨D.toArray⟩) ∧ Below W.heap.size W w') :
    Calls Tryz.prog 97 #[.float .f64 x, .int .i64 (c : Int), .bool full] w (GenEnd w full D []) := by
  have hw1 : wrap64 ((c : Int) - 1) = (n : Int) := by unfold wrap64; omega
  have hw0 : (c : Int) - 1 = (n : Int) := by omega
  have hc1 : (n : Int) + 1 = (c : Int) := by omega
  unfold GenEnd trimG
  obtain ⟨SD, hSD⟩ : ∃ SD : ByteArray, (⟨D.toArray⟩ : ByteArray) = SD := ⟨_, rfl⟩
  have hDl : SD.data.toList = D := by rw [← hSD]
  have hDs : SD.size ≤ 10000 := by rw [← ba_len, hDl]; exact hD
  rw [hSD] at CC
  obtain ⟨SL, hSL⟩ : ∃ SL : ByteArray, (⟨l.toArray⟩ : ByteArray) = SL := ⟨_, rfl⟩
  rw [hSL] at CS
  have cI := fun W => Tryz.strings_Contains_one SD 46 W
  rw [hDl, idx_has] at cI
  have cR := fun W => Tryz.strings_TrimRight_one SD 48 (by decide) W (by omega)
  rw [hDl] at cR
  obtain ⟨SR, hSR⟩ : ∃ SR : ByteArray, (⟨(Lib.trimRightB D 48).toArray⟩ : ByteArray) = SR := ⟨_, rfl⟩
  have hRl : SR.data.toList = Lib.trimRightB D 48 := by rw [← hSR]
  have hRs : SR.size ≤ 10000 := by rw [← ba_len, hRl]; exact Nat.le_trans (trimR_len _ _) hD
  rw [hSR] at cR
  have cU := fun W => Tryz.strings_TrimSuffix SR ⟨#[46]⟩ W (by omega)
  rw [hRl] at cU
  replace cU : ∀ W : World, Calls Tryz.prog 139 #[.string SR, .string ⟨#[46]⟩] W fun e w' => e = .returned (.string ⟨(Lib.trimSuffix (Lib.trimRightB D 48) [46]).toArray⟩) ∧ w' = W := cU
  obtain ⟨U, hU⟩ : ∃ U, Lib.trimSuffix (Lib.trimRightB D 48) [46] = U := ⟨_, rfl⟩
  obtain ⟨SU, hSU⟩ : ∃ SU : ByteArray, (⟨U.toArray⟩ : ByteArray) = SU := ⟨_, rfl⟩
  have hUl : SU.data.toList = U := by rw [← hSU]
  rw [hU, hSU] at cU
  rw [hU]
  obtain ⟨v, hv⟩ : ∃ v, D.contains 46 = v := ⟨_, rfl⟩
  rw [hv] at cI ⊢
  have hUs : SU.size ≤ 10000 := by rw [← ba_len, hUl, ← hU]; exact Nat.le_trans (trimS_len _ _) (Nat.le_trans (trimR_len _ _) hD)
  obtain ⟨X, hX⟩ : ∃ X, (if full = false ∧ v = true then U else D) ++ [] = X := ⟨_, rfl⟩
  rw [hX]
  have HX := Lib.hid hX
  clear hX
  have e1 : SD ++ ⟨#[]⟩ = ⟨(D ++ []).toArray⟩ := by rw [show (⟨#[]⟩ : ByteArray) = ⟨([] : List UInt8).toArray⟩ from rfl, ba_cat, hDl]
  have e2 : SU ++ ⟨#[]⟩ = ⟨(U ++ []).toArray⟩ := by rw [show (⟨#[]⟩ : ByteArray) = ⟨([] : List UInt8).toArray⟩ from rfl, ba_cat, hUl]
  have E1 := Lib.hid e1
  have E2 := Lib.hid e2
  have CS := Lib.hid CS
  have CC := Lib.hid CC
  have CI := Lib.hid cI
  have CR := Lib.hid cR
  have CU := Lib.hid cU
  have HT := Lib.hid (Lib.tabBelow_of_tabIs _hT)
  clear cI cR cU e1 e2 hSD hDl hSL hSR hRl hRs hU hSU hUl hv hD _hT
  have hq : ¬ P < -4 := by omega
  have hq2 : ¬ (c : Int) ≤ P := by omega
  have hq3 : P < (c : Int) := by omega
  have hw2 : wrap64 ((n : Int) - P) = (n : Int) - P := by unfold wrap64; omega
  cases full with
  | true =>
    go_enter Tryz.func97, Tryz.ntmps97
    go_wp2_with fail
    refine CS.out.mono ?_
    rintro e w1 ⟨rfl, hB⟩
    go_wp2_with fail
    refine (CC.out _).mono ?_
    rintro e w2 ⟨rfl, hB2⟩
    have hB2 := hB.trans (hB2.mono hB.size)
    go_wp2_with fail
    go_ret
    exact ⟨by show Ending.returned (.string (SD ++ ⟨#[]⟩)) = _; rw [E1.out, ← HX.out, if_neg (by simp)], hB2⟩
  | false =>
    cases v with
    | true =>
      go_enter Tryz.func97, Tryz.ntmps97
      go_wp2_with fail
      refine CS.out.mono ?_
      rintro e w1 ⟨rfl, hB⟩
      go_wp2_with fail
      refine (CC.out _).mono ?_
      rintro e w2 ⟨rfl, hB2⟩
      have hB2 := hB.trans (hB2.mono hB.size)
      go_wp2_with fail
      refine (CI.out _).mono ?_
      rintro e w3 ⟨rfl, rfl⟩
      go_wp2_with fail
      refine (CR.out _).mono ?_
      rintro e w4 ⟨rfl, rfl⟩
      go_wp2_with fail
      refine (CU.out _).mono ?_
      rintro e w5 ⟨rfl, rfl⟩
      go_wp2_with fail
      go_ret
      exact ⟨by show Ending.returned (.string (SU ++ ⟨#[]⟩)) = _; rw [E2.out, ← HX.out, if_pos (by simp)], hB2⟩
    | false =>
      go_enter Tryz.func97, Tryz.ntmps97
      go_wp2_with fail
      refine CS.out.mono ?_
      rintro e w1 ⟨rfl, hB⟩
      go_wp2_with fail
      refine (CC.out _).mono ?_
      rintro e w2 ⟨rfl, hB2⟩
      have hB2 := hB.trans (hB2.mono hB.size)
      go_wp2_with fail
      refine (CI.out _).mono ?_
      rintro e w3 ⟨rfl, rfl⟩
      go_wp2_with fail
      go_ret
      exact ⟨by show Ending.returned (.string (SD ++ ⟨#[]⟩)) = _; rw [E1.out, ← HX.out, if_neg (by simp)], hB2⟩
theorem gen_any (x n c : Nat) (full : Bool) (w : World) (hb : x < 18446744073709551616) (h : mag x < 9218868437227405312) (hc : n + 1 = c) (hn : n ≤ 190) (hT : PowTab w) : Calls Tryz.prog 97 #[.float .f64 x, .int .i64 (c : Int), .bool full] w fun e w' => e = .returned (.string ⟨(genT (mag x) n full).toArray⟩) ∧ Below w.heap.size w w' := by
  have cS := sci_gen x n w hb h (by omega)
  obtain ⟨hl, -, b0, b1⟩ := sciX_facts w h (show n ≤ 200 by omega)
  by_cases hP : (sciX (mag x) n).2 < -4 ∨ (n : Int) + 1 ≤ (sciX (mag x) n).2
  · have h1 := gen_sci x n c full _ _ _ (expT (sciX (mag x) n).2) w hc hn hT (Nat.le_trans (ptT_len _ (decide (0 < n) || full)) (by rw [hl]; omega)) (Nat.le_trans (expT_len b0 b1) (by omega)) hP b0 b1 cS (fun W hW => fsci_any x n full W hb h (by omega) hW)
    refine h1.mono ?_
    rintro e w' ⟨rfl, hB⟩
    refine ⟨?_, hB⟩
    unfold genT
    rw [if_pos hP]
  · have hq : (n : Int) - (sciX (mag x) n).2 = ((((n : Int) - (sciX (mag x) n).2).toNat : Nat) : Int) := by omega
    have h1 := gen_fix x n c full _ _ (fixP (mag x) ((n : Int) - (sciX (mag x) n).2).toNat full) w hc hn hT (Nat.le_trans (fixP_len h (by omega) full) (by omega)) (by omega) (by omega) b0 b1 cS (fun W => by rw [hq]; exact ffix_any x _ full W hb h (by omega))
    refine h1.mono ?_
    rintro e w' ⟨rfl, hB⟩
    refine ⟨?_, hB⟩
    unfold genT
    rw [if_neg hP, List.append_nil]
end Go.Proofs.YtmceakbjholjpaaGreatDoor

namespace Go.Proofs.YtmceakbjholjpaaGreatDoor
open Go.RowKit Go.Lib

def sbB (x : Nat) : Bool := decide (9223372036854775808 ≤ x)
set_option maxRecDepth 100000 in
theorem signbit_any (x : Nat) (w : World) (hb : x < 18446744073709551616) : Calls Tryz.prog 94 #[.float .f64 x] w fun e w' => e = .returned (.bool (sbB x)) ∧ w = w' := by
  have h1 := fun W => run_f64bits x W
  have g0 : (0 : Int) ≤ (x : Int) := by omega
  by_cases h : 9223372036854775808 ≤ x
  · have e : sbB x = true := decide_eq_true h
    have hc : IntKind.i64.wrap (x : Int) = (x : Int) - 18446744073709551616 := by
      rw [IntKind.wrap_i64]; omega
    have hl : (x : Int) - 18446744073709551616 < 0 := by omega
    rw [e]
    go_enter Tryz.func94, Tryz.ntmps94
    go_wp2
    go_ret
    exact ⟨rfl, rfl⟩
  · have e : sbB x = false := decide_eq_false h
    have hc : IntKind.i64.wrap (x : Int) = (x : Int) := by
      rw [IntKind.wrap_i64]; omega
    have hl : ¬ (x : Int) < 0 := by omega
    rw [e]
    go_enter Tryz.func94, Tryz.ntmps94
    go_wp2
    go_ret
    exact ⟨rfl, rfl⟩
theorem spec_cells {W : World} {B : Nat} {t : TypeId} {m p b a z : Bool} {wd pr c : Int} (h : Five W B #[.bool m, .bool p, .bool b, .bool a, .bool z, .int .i64 wd, .int .i64 pr, .int .u8 c] t) : W.cell? ⟨B, 0, none⟩ = some (.bool m) ∧ W.cell? ⟨B, 1, none⟩ = some (.bool p) ∧ W.cell? ⟨B, 2, none⟩ = some (.bool b) ∧ W.cell? ⟨B, 3, none⟩ = some (.bool a) ∧ W.cell? ⟨B, 4, none⟩ = some (.bool z) ∧ W.cell? ⟨B, 5, none⟩ = some (.int .i64 wd) ∧ W.cell? ⟨B, 6, none⟩ = some (.int .i64 pr) ∧ W.cell? ⟨B, 7, none⟩ = some (.int .u8 c) :=
  ⟨h.cell 0, h.cell 1, h.cell 2, h.cell 3, h.cell 4, h.cell 5, h.cell 6, h.cell 7⟩
theorem Five.three {W : World} {g : Nat} {a b c : Value} {t : TypeId} (h : Five W g #[a, b, c] t) : W.cell? ⟨g, 0, none⟩ = some a ∧ W.cell? ⟨g, 1, none⟩ = some b ∧ W.cell? ⟨g, 2, none⟩ = some c ∧ W.frozen? ⟨g, 0, none⟩ = false ∧ W.frozen? ⟨g, 1, none⟩ = false ∧ W.frozen? ⟨g, 2, none⟩ = false :=
  ⟨h.cell 0, h.cell 1, h.cell 2, h.fro 0, h.fro 1, h.fro 2⟩
theorem pointed_end {w wc W4 : World} {B g : Nat} (SG D : ByteArray) (hB : Below B w wc) (hBw : B ≤ wc.heap.size) (hg : B + 2 ≤ g) (_F : Five wc g #[.string SG, .string ⟨#[]⟩, .string ⟨#[]⟩] 96) (R : Five wc (B + 1) #[.string ⟨#[]⟩, .string ⟨#[]⟩, .string ⟨#[]⟩] 96) (h4 : Below wc.heap.size wc W4) :
    ((((W4.setCell ⟨g, 2, none⟩ (.string D)).setCell ⟨B + 1, 0, none⟩ (.string SG)).setCell ⟨B + 1, 1, none⟩ (.string ⟨#[]⟩)).setCell ⟨B + 1, 2, none⟩ (.string D)).cell? ⟨B + 1, 0, none⟩ = some (.string SG)
    ∧ ((((W4.setCell ⟨g, 2, none⟩ (.string D)).setCell ⟨B + 1, 0, none⟩ (.string SG)).setCell ⟨B + 1, 1, none⟩ (.string ⟨#[]⟩)).setCell ⟨B + 1, 2, none⟩ (.string D)).cell? ⟨B + 1, 1, none⟩ = some (.string ⟨#[]⟩)
    ∧ ((((W4.setCell ⟨g, 2, none⟩ (.string D)).setCell ⟨B + 1, 0, none⟩ (.string SG)).setCell ⟨B + 1, 1, none⟩ (.string ⟨#[]⟩)).setCell ⟨B + 1, 2, none⟩ (.string D)).cell? ⟨B + 1, 2, none⟩ = some (.string D)
    ∧ Below B w ((((W4.setCell ⟨g, 2, none⟩ (.string D)).setCell ⟨B + 1, 0, none⟩ (.string SG)).setCell ⟨B + 1, 1, none⟩ (.string ⟨#[]⟩)).setCell ⟨B + 1, 2, none⟩ (.string D)) := by
  have hne : B + 1 ≠ g := by omega
  have z : Five ((((W4.setCell ⟨g, 2, none⟩ (.string D)).setCell ⟨B + 1, 0, none⟩ (.string SG)).setCell ⟨B + 1, 1, none⟩ (.string ⟨#[]⟩)).setCell ⟨B + 1, 2, none⟩ (.string D)) (B + 1) #[.string SG, .string ⟨#[]⟩, .string D] 96 :=
    (((((R.below h4).other (j := 2) (u := .string D) hne).set (j := 0) (u := .string SG)).set (j := 1) (u := .string ⟨#[]⟩)).set (j := 2) (u := .string D))
  exact ⟨z.cell 0, z.cell 1, z.cell 2, ((((hB.trans (h4.mono hBw)).setCell (p := ⟨g, 2, none⟩) (show B ≤ g by omega) _).setCell (p := ⟨B + 1, 0, none⟩) (show B ≤ B + 1 by omega) _).setCell (p := ⟨B + 1, 1, none⟩) (show B ≤ B + 1 by omega) _).setCell (p := ⟨B + 1, 2, none⟩) (show B ≤ B + 1 by omega) _⟩
/-- The digits of a number by a verb with a point. -/
noncomputable def ptD (r : Nat) (pr : Int) (a : Bool) (c : Nat) : List UInt8 :=
  if c = 102 ∨ c = 70 then fixP r (if pr < 0 then 6 else pr).toNat a
  else if c = 101 ∨ c = 69 then ptT (sciX r (if pr < 0 then 6 else pr).toNat).1 (decide (0 < (if pr < 0 then 6 else pr).toNat) || a) ++ expT (sciX r (if pr < 0 then 6 else pr).toNat).2
  else genT r ((max 1 (if pr < 0 then 6 else pr)) - 1).toNat a
set_option maxRecDepth 100000 in
set_option maxHeartbeats 4000000 in
theorem pointed_start (m p b a z : Bool) (wd pr : Int) (c : Nat) (x q : Nat) (SG D : ByteArray) (w : World) (hb : x < 18446744073709551616) (hSG : ⟨(signL p b c (sbB x)).toArray⟩ = SG) (hq : (q : Int) = if pr < 0 then 6 else pr)
    (hD : (∃ _ : c = 102 ∨ c = 70, ∀ W, Calls Tryz.prog 95 #[.float .f64 x, .int .i64 (q : Int), .bool a] W fun e w' => e = .returned (.string D) ∧ Below W.heap.size W w')
      ∨ (∃ (_ : c = 101 ∨ c = 69) (D1 D2 : ByteArray), D = D1 ++ D2 ∧ D1.size ≤ 10000 ∧ D2.size ≤ 10000 ∧ ∀ W, PowTab W → Calls Tryz.prog 96 #[.float .f64 x, .int .i64 (q : Int), .bool a] W fun e w' => e = .returned (.tuple #[.string D1, .string D2]) ∧ Below W.heap.size W w')
      ∨ (∃ (_ : ¬ (c = 102 ∨ c = 70) ∧ ¬ (c = 101 ∨ c = 69)) (k : Nat), max (1 : Int) (q : Int) = (k : Int) ∧ ∀ W, PowTab W → Calls Tryz.prog 97 #[.float .f64 x, .int .i64 (k : Int), .bool a] W fun e w' => e = .returned (.string D) ∧ Below W.heap.size W w'))
    (hT : PowTab w) :
    Calls Tryz.prog 59 #[.agg #[.bool m, .bool p, .bool b, .bool a, .bool z, .int .i64 wd, .int .i64 pr, .int .u8 (c : Int)], .float .f64 x] w fun e w' => e = .returned (.agg #[.string SG, .string ⟨#[]⟩, .string D]) ∧ Below w.heap.size w w' := by
  have CS := Lib.hid (fun W => signbit_any x W hb)
  have cG := fun W => sign_any m p b a z wd pr c (sbB x) W
  rw [hSG] at cG
  have CG := Lib.hid cG
  have fP := (Five.new w #[.bool m, .bool p, .bool b, .bool a, .bool z, .int .i64 wd, .int .i64 pr, .int .u8 (c : Int)] 24).alloc (.cells #[.string ⟨#[]⟩, .string ⟨#[]⟩, .string ⟨#[]⟩] 96)
  have fR := Five.new (w.alloc (.cells #[.bool m, .bool p, .bool b, .bool a, .bool z, .int .i64 wd, .int .i64 pr, .int .u8 (c : Int)] 24)) #[.string ⟨#[]⟩, .string ⟨#[]⟩, .string ⟨#[]⟩] 96
  have hB0 := ((Below.refl w.heap.size w).alloc (Nat.le_refl _) (.cells #[.bool m, .bool p, .bool b, .bool a, .bool z, .int .i64 wd, .int .i64 pr, .int .u8 (c : Int)] 24)).alloc (by simp) (.cells #[.string ⟨#[]⟩, .string ⟨#[]⟩, .string ⟨#[]⟩] 96)
  rw [World.size_alloc] at fR
  have hsz : ((w.alloc (.cells #[.bool m, .bool p, .bool b, .bool a, .bool z, .int .i64 wd, .int .i64 pr, .int .u8 (c : Int)] 24)).alloc (.cells #[.string ⟨#[]⟩, .string ⟨#[]⟩, .string ⟨#[]⟩] 96)).heap.size = w.heap.size + 2 := by rw [World.size_alloc, World.size_alloc]
  have HT := Lib.hid (Lib.tabBelow_of_tabIs hT)
  obtain ⟨B, hB⟩ : ∃ B, w.heap.size = B := ⟨_, rfl⟩
  obtain ⟨W2, hW2⟩ : ∃ W2, (w.alloc (.cells #[.bool m, .bool p, .bool b, .bool a, .bool z, .int .i64 wd, .int .i64 pr, .int .u8 (c : Int)] 24)).alloc (.cells #[.string ⟨#[]⟩, .string ⟨#[]⟩, .string ⟨#[]⟩] 96) = W2 := ⟨_, rfl⟩
  rw [hW2] at fP fR hB0 hsz
  rw [hB] at fP fR hB0 hsz HT ⊢
  have FP := Lib.hid fP
  have FR := Lib.hid fR
  have HB0 := Lib.hid hB0
  have HSZ := Lib.hid hsz
  have HW2 := Lib.hid hW2
  have HB := Lib.hid hB
  have hq0 : (if pr < 0 then (6 : Int) else pr) = (q : Int) := hq.symm
  have HQ := Lib.hid hq
  have HDD := Lib.hid hD
  clear fP fR hB0 hsz hW2 hB hT hD hq hSG cG hq0
  go_enter Tryz.func59, Tryz.ntmps59
  go_wp2_with fail
  rw [HW2.out, HB.out]
  go_cut [5] (fun v wx => ∃ g : Nat, v = .pointer (some ⟨g, 0, none⟩) ∧ B + 2 ≤ g ∧ Five wx g #[.string SG, .string ⟨#[]⟩, .string ⟨#[]⟩] 96 ∧ Below W2.heap.size W2 wx)
  case first =>
    have HCW := Lib.hid (fun (W : World) (h : Below W2.heap.size W2 W) => spec_cells (FP.out.below h))
    obtain ⟨p0, p1, p2, p3, p4, p5, p6, p7⟩ := spec_cells FP.out
    have hA := (Below.refl W2.heap.size W2).alloc (Nat.le_refl _) (.cells #[.string ⟨#[]⟩, .string ⟨#[]⟩, .string ⟨#[]⟩] 96)
    have HN := Lib.hid (Five.new W2 #[.string ⟨#[]⟩, .string ⟨#[]⟩, .string ⟨#[]⟩] 96)
    have HA := Lib.hid hA
    clear hA
    have ne1 : ¬ B = W2.heap.size := by have := HSZ.out; omega
    have ne2 : ¬ W2.heap.size = B := by have := HSZ.out; omega
    go_region_held3 (fun w' => w'.cell? ⟨B, 0, none⟩ = some (.bool m) ∧ w'.cell? ⟨B, 1, none⟩ = some (.bool p) ∧ w'.cell? ⟨B, 2, none⟩ = some (.bool b) ∧ w'.cell? ⟨B, 3, none⟩ = some (.bool a) ∧ w'.cell? ⟨B, 4, none⟩ = some (.bool z) ∧ w'.cell? ⟨B, 5, none⟩ = some (.int .i64 wd) ∧ w'.cell? ⟨B, 6, none⟩ = some (.int .i64 pr) ∧ w'.cell? ⟨B, 7, none⟩ = some (.int .u8 (c : Int)))
      (first | (with_reducible exact S1) | go_keep)
      (first
      | (go_at_call 94; (with_reducible refine (CS.out _).mono ?_); rintro e W3 ⟨rfl, rfl⟩)
      | (go_at_call 89; (with_reducible refine (CG.out _).mono ?_); rintro e W3 ⟨rfl, h3⟩
         first
         | (have b3 : Below W2.heap.size W2 W3 := ⟨h3.os, h3.tape, h3.output, h3.size, h3.block⟩
            have S1 := HCW.out _ b3
            have ne3 : ¬ B = W3.heap.size := by have := b3.size; have := HSZ.out; omega
            have ne4 : ¬ W3.heap.size = B := by have := b3.size; have := HSZ.out; omega)
         | (have a3 : Below (W2.alloc (.cells #[.string ⟨#[]⟩, .string ⟨#[]⟩, .string ⟨#[]⟩] 96)).heap.size (W2.alloc (.cells #[.string ⟨#[]⟩, .string ⟨#[]⟩, .string ⟨#[]⟩] 96)) W3 := ⟨h3.os, h3.tape, h3.output, h3.size, h3.block⟩
            have b3 : Below W2.heap.size W2 W3 := HA.out.trans (a3.mono HA.out.size)
            have S1 := HCW.out _ b3
            have N3 := Lib.hid (HN.out.below a3)
            obtain ⟨q0, q1, q2, q3, q4, q5⟩ := N3.out.three)))
    all_goals
      go_wp2_with fail
      go_meet
      first
      | exact ⟨W3.heap.size, rfl, by have := b3.size; have := HSZ.out; omega, Five.new W3 _ _, b3.alloc b3.size _⟩
      | exact ⟨W2.heap.size, rfl, by have := HSZ.out; omega, (((N3.out.set (j := 0) (u := .string SG)).set (j := 1) (u := .string ⟨#[]⟩)).set (j := 2) (u := .string ⟨#[]⟩)), ((b3.setCell (p := ⟨W2.heap.size, 0, none⟩) (Nat.le_refl _) _).setCell (p := ⟨W2.heap.size, 1, none⟩) (Nat.le_refl _) _).setCell (p := ⟨W2.heap.size, 2, none⟩) (Nat.le_refl _) _⟩
  case rest =>
    obtain ⟨g, rfl, hg, F5, hBx⟩ := hcut
    obtain ⟨-, -, -, p3, -, -, p6, p7⟩ := spec_cells (FP.out.below hBx)
    have hBw : B ≤ wc.heap.size := by have := hBx.size; have := HSZ.out; omega
    have HBW := Lib.hid (HB0.out.trans (hBx.mono (show B ≤ W2.heap.size by have := HSZ.out; omega)))
    have HTW := Lib.hid (HT.out wc HBW.out)
    have HF5 := Lib.hid F5
    have HFR := Lib.hid (FR.out.below hBx)
    have FIN := Lib.hid (fun (W4 : World) (D : ByteArray) (h4 : Below wc.heap.size wc W4) => pointed_end (B := B) SG D HBW.out hBw hg HF5.out HFR.out h4)
    have HG := Lib.hid hg
    clear F5 hBx hg hBw
    go_upto_if 17 with (fail)
    go_cut [6] (fun v wx => v = .int .i64 (q : Int) ∧ wx = wc)
    case first =>
      have HQv := HQ.out
      by_cases hpr : pr < 0
      · rw [if_pos hpr] at HQv
        obtain rfl : q = 6 := by omega
        clear HQv
        go_wp2_with fail
        go_meet
        exact ⟨rfl, rfl⟩
      · rw [if_neg hpr] at HQv
        obtain rfl : pr = (q : Int) := HQv.symm
        clear HQv
        go_wp2_with fail
        go_meet
        exact ⟨rfl, rfl⟩
    case rest =>
      obtain ⟨rfl, rfl⟩ := hcut
      rcases HDD.out with ⟨h, C⟩ | ⟨h, D1, D2, rfl, hs1, hs2, C⟩ | ⟨h, k, hk, C⟩
      · have C := Lib.hid C
        clear HDD
        rcases h with rfl | rfl
        all_goals
          go_wp2_with fail
          refine (C.out _).mono ?_
          rintro e W4 ⟨rfl, h4⟩
          clear p3 p6 p7
          obtain ⟨q0, q1, q2, r0, r1, r2⟩ := (HF5.out.below h4).three
          obtain ⟨s0, s1, s2, t0, t1, t2⟩ := (HFR.out.below h4).three
          have ne1 : ¬ B + 1 = g := by have := HG.out; omega
          have ne2 : ¬ g = B + 1 := by have := HG.out; omega
          have H4 := Lib.hid h4
          clear h4
          go_wp2_with fail
          obtain ⟨z0, z1, z2, hBf⟩ := FIN.out _ D H4.out
          clear q0 q1 q2 r0 r1 r2 s0 s1 s2 t0 t1 t2
          refine bodyPost_ret (v := .agg #[.string SG, .string ⟨#[]⟩, .string D]) (by simp [results, Tryz.results59, go_sem, z0, z1, z2]) rfl ⟨rfl, hBf⟩
      · have C := Lib.hid C
        clear HDD
        rcases h with rfl | rfl
        all_goals
          go_wp2_with fail
          refine (C.out _ HTW.out).mono ?_
          rintro e W4 ⟨rfl, h4⟩
          clear p3 p6 p7
          obtain ⟨q0, q1, q2, r0, r1, r2⟩ := (HF5.out.below h4).three
          obtain ⟨s0, s1, s2, t0, t1, t2⟩ := (HFR.out.below h4).three
          have ne1 : ¬ B + 1 = g := by have := HG.out; omega
          have ne2 : ¬ g = B + 1 := by have := HG.out; omega
          have H4 := Lib.hid h4
          clear h4
          go_wp2_with fail
          obtain ⟨z0, z1, z2, hBf⟩ := FIN.out _ (D1 ++ D2) H4.out
          clear q0 q1 q2 r0 r1 r2 s0 s1 s2 t0 t1 t2
          refine bodyPost_ret (v := .agg #[.string SG, .string ⟨#[]⟩, .string (D1 ++ D2)]) (by simp [results, Tryz.results59, go_sem, z0, z1, z2]) rfl ⟨rfl, hBf⟩
      · have C := Lib.hid C
        have v1 : ((c : Int) == 102) = false := by rw [beq_eq_false_iff_ne]; have := h.1; omega
        have v2 : ((c : Int) == 70) = false := by rw [beq_eq_false_iff_ne]; have := h.1; omega
        have v3 : ((c : Int) == 101) = false := by rw [beq_eq_false_iff_ne]; have := h.2; omega
        have v4 : ((c : Int) == 69) = false := by rw [beq_eq_false_iff_ne]; have := h.2; omega
        clear h HDD
        go_wp2_with fail
        refine (C.out _ HTW.out).mono ?_
        rintro e W4 ⟨rfl, h4⟩
        clear p3 p6 p7
        obtain ⟨q0, q1, q2, r0, r1, r2⟩ := (HF5.out.below h4).three
        obtain ⟨s0, s1, s2, t0, t1, t2⟩ := (HFR.out.below h4).three
        have ne1 : ¬ B + 1 = g := by have := HG.out; omega
        have ne2 : ¬ g = B + 1 := by have := HG.out; omega
        have H4 := Lib.hid h4
        clear h4
        go_wp2_with fail
        obtain ⟨z0, z1, z2, hBf⟩ := FIN.out _ D H4.out
        clear q0 q1 q2 r0 r1 r2 s0 s1 s2 t0 t1 t2
        refine bodyPost_ret (v := .agg #[.string SG, .string ⟨#[]⟩, .string D]) (by simp [results, Tryz.results59, go_sem, z0, z1, z2]) rfl ⟨rfl, hBf⟩
theorem sgn_len (p b : Bool) (c : Nat) (s : Bool) : (signL p b c s).length ≤ 1 := by
  unfold signL
  cases s <;> cases vMin.contains c.toUInt8 <;> cases p <;> cases b <;> decide
theorem pointed_any (m p b a z : Bool) (wd pr : Int) (c : Nat) (x : Nat) (w : World) (hb : x < 18446744073709551616) (h : mag x < 9218868437227405312) (h0 : -1 ≤ pr) (h1 : pr ≤ 190) (hT : PowTab w) :
    Calls Tryz.prog 59 #[.agg #[.bool m, .bool p, .bool b, .bool a, .bool z, .int .i64 wd, .int .i64 pr, .int .u8 (c : Int)], .float .f64 x] w fun e w' => e = .returned (.agg #[.string ⟨(signL p b c (sbB x)).toArray⟩, .string ⟨#[]⟩, .string ⟨(ptD (mag x) pr a c).toArray⟩]) ∧ Below w.heap.size w w' := by
  obtain ⟨q, hq⟩ : ∃ q : Nat, (q : Int) = if pr < 0 then 6 else pr := ⟨(if pr < 0 then 6 else pr).toNat, by split <;> omega⟩
  have hq2 : q ≤ 190 := by split at hq <;> omega
  have hqn : (if pr < 0 then (6 : Int) else pr).toNat = q := by rw [← hq, Int.toNat_natCast]
  refine pointed_start m p b a z wd pr c x q _ _ w hb rfl hq ?_ hT
  unfold ptD
  rw [hqn, ← hq]
  by_cases c1 : c = 102 ∨ c = 70
  · refine Or.inl ⟨c1, fun W => ?_⟩
    rw [if_pos c1]
    exact ffix_any x q a W hb h (by omega)
  · rw [if_neg c1]
    by_cases c2 : c = 101 ∨ c = 69
    · obtain ⟨hl, -, b0, b1⟩ := sciX_facts w h (show q ≤ 200 by omega)
      refine Or.inr (Or.inl ⟨c2, ⟨(ptT (sciX (mag x) q).1 (decide (0 < q) || a)).toArray⟩, ⟨(expT (sciX (mag x) q).2).toArray⟩, ?_, ?_, ?_, fun W hW => fsci_any x q a W hb h (by omega) hW⟩)
      · rw [if_pos c2, ba_cat]
      · rw [← ba_len]
        exact Nat.le_trans (ptT_len _ _) (by rw [hl]; omega)
      · rw [← ba_len]
        exact Nat.le_trans (expT_len b0 b1) (by omega)
    · refine Or.inr (Or.inr ⟨⟨c1, c2⟩, max 1 q, by omega, fun W hW => ?_⟩)
      rw [if_neg c2, show (max (1 : Int) (q : Int) - 1).toNat = max 1 q - 1 by omega]
      exact gen_any x (max 1 q - 1) (max 1 q) a W hb h (by omega) (by omega) hW
end Go.Proofs.YtmceakbjholjpaaGreatDoor
