/- Several texts in one (The walk of the law DecRises; Plain: a float's seventeen digits are nearest to it. No walk here; The walk of the law DecBack; Contracts of layer 3: below, of the law DecShort: a number's digits less by one; The walk of the law DecShort). -/
import Derived.Deep.Upon
import Derived.Test.YtkjdmjglpbnmoaaDoorPk5
namespace Go.Proofs.YtkjdmjglpbnmoaaDoor
open Go.RowKit Go.Lib

/-- Digits and a nought behind them, with the power one less. -/
theorem near_shift {n r r' : Nat} {x : Int} (h : Near (2 * (n * 10 ^ x.toNat) * S1074) (10 ^ (-x).toNat) r) (h' : Near (2 * (n * 10 * 10 ^ (x - 1).toNat) * S1074) (10 ^ (-(x - 1)).toNat) r') : r = r' := by
  refine h.uniq (Nat.pow_pos (by omega)) (Nat.pow_pos (by omega)) ?_ h'
  have e : 10 ^ x.toNat * 10 ^ (-(x - 1)).toNat = 10 * 10 ^ (x - 1).toNat * 10 ^ (-x).toNat := by
    rw [← Nat.pow_succ', ← Nat.pow_add, ← Nat.pow_add]
    congr 1
    omega
  generalize S1074 = z
  calc 2 * (n * 10 ^ x.toNat) * z * 10 ^ (-(x - 1)).toNat = 2 * n * z * (10 ^ x.toNat * 10 ^ (-(x - 1)).toNat) := by ac_rfl
    _ = 2 * n * z * (10 * 10 ^ (x - 1).toNat * 10 ^ (-x).toNat) := by rw [e]
    _ = 2 * (n * 10 * 10 ^ (x - 1).toNat) * z * 10 ^ (-x).toNat := by ac_rfl
theorem near_mono {n m r s : Nat} {x : Int} (hnm : n ≤ m) (h : Near (2 * (n * 10 ^ x.toNat) * S1074) (10 ^ (-x).toNat) r) (h' : Near (2 * (m * 10 ^ x.toNat) * S1074) (10 ^ (-x).toNat) s) : r ≤ s :=
  h.le (Nat.pow_pos (by omega)) (Nat.pow_pos (by omega)) (Nat.mul_le_mul_right _ (Nat.mul_le_mul_right _ (Nat.mul_le_mul_left _ (Nat.mul_le_mul_right _ hnm)))) h'
/-- What Read answers, with a name for the float. -/
def ReadEnd (w : World) (X D : Nat) (e : Ending) (w' : World) : Prop := ∃ r, e = .returned (.tuple #[.float .f64 r, .int .i64 0]) ∧ Hid (Near X D r) ∧ Below w.heap.size w w'
theorem read_end (s : ByteArray) (n : Nat) (x : Int) (w : World) (hs : s.size ≤ 1024) (hd : isDec s = true) (hn : pv s.data.toList = n) :
    Calls Tryd.prog 12 #[.string s, .int .i64 x] w (ReadEnd w (2 * (n * 10 ^ x.toNat) * S1074) (10 ^ (-x).toNat)) := by
  refine (read_yes s x w hs hd).mono ?_
  rintro e w' ⟨⟨r, rfl, h⟩, hB⟩
  rw [hn] at h
  exact ⟨r, rfl, Lib.hid h, hB⟩
set_option maxRecDepth 100000 in
set_option maxHeartbeats 4000000 in
theorem decRises_core (n m : Nat) (k x : Int) (w : World) (hn : n < 18446744073709551616) (hm : m < 18446744073709551616) (hk : min (max k (-700)) 700 = x) :
    Calls Tryd.prog 4 #[.int .u64 (n : Int), .int .u64 (m : Int), .int .i64 k] w fun e w' => e = .returned (.bool true) ∧ Below w.heap.size w w' := by
  have hx1 : -700 ≤ x := by omega
  have hx2 : x ≤ 700 := by omega
  have cT := fun W => ltext_any n W hn
  have cU := fun W => ltext_any m W hm
  have hl1 : (decs n).length ≤ 20 := (decs_le (by omega)).2 (by omega)
  have hl2 : (decs m).length ≤ 20 := (decs_le (by omega)).2 (by omega)
  have hp1 : ∀ n, 1 ≤ (decs n).length := fun n => by rw [← ahead_step, List.length_append]; simp
  obtain ⟨T, hT⟩ : ∃ T : ByteArray, (⟨(decs n).toArray⟩ : ByteArray) = T := ⟨_, rfl⟩
  obtain ⟨U, hU⟩ : ∃ U : ByteArray, (⟨(decs m).toArray⟩ : ByteArray) = U := ⟨_, rfl⟩
  have hTl : T.data.toList = decs n := by rw [← hT]
  have hUl : U.data.toList = decs m := by rw [← hU]
  have hTs : T.size ≤ 20 := by rw [← ba_len, hTl]; exact hl1
  have hUs : U.size ≤ 20 := by rw [← ba_len, hUl]; exact hl2
  have hT1 : 1 ≤ T.size := by rw [← ba_len, hTl]; exact hp1 n
  have hU1 : 1 ≤ U.size := by rw [← ba_len, hUl]; exact hp1 m
  rw [hT] at cT
  rw [hU] at cU
  have c1 := fun W => read_end T n x W (by omega) (isDec_iff.2 ⟨by omega, by rw [hTl]; exact dec_decs n⟩) (by rw [hTl]; exact pv_decs n)
  have c2 := fun W => read_end U m x W (by omega) (isDec_iff.2 ⟨by omega, by rw [hUl]; exact dec_decs m⟩) (by rw [hUl]; exact pv_decs m)
  have c3 := fun W => read_end (T ++ ⟨#[48]⟩) (n * 10) (x - 1) W (by rw [ByteArray.size_append]; show T.size + 1 ≤ _; omega) (isDec_iff.2 ⟨by rw [ByteArray.size_append]; omega, by rw [ByteArray.data_append, Array.toList_append, hTl]; exact dec_append.2 ⟨dec_decs n, dec_noughts 1⟩⟩) (by rw [ByteArray.data_append, Array.toList_append, hTl, pv_append, pv_decs]; rfl)
  have c4 := fun W => read_end (⟨#[48, 48]⟩ ++ T) n x W (by rw [ByteArray.size_append]; show 2 + T.size ≤ _; omega) (isDec_iff.2 ⟨by rw [ByteArray.size_append]; omega, by rw [ByteArray.data_append, Array.toList_append, hTl]; exact dec_append.2 ⟨dec_noughts 2, dec_decs n⟩⟩) (by rw [ByteArray.data_append, Array.toList_append, hTl]; exact (pv_noughts 2 (decs n)).trans (pv_decs n))
  have CF := Lib.hid (lfixed_any w)
  have CT := Lib.hid cT
  have CU := Lib.hid cU
  have C1 := Lib.hid c1
  have C2 := Lib.hid c2
  have C3 := Lib.hid c3
  have C4 := Lib.hid c4
  have CS := Lib.hid (fun x y W => same_any x y W)
  clear cT cU c1 c2 c3 c4 hT hU hTl hUl hl1 hl2 hp1
  go_enter Tryd.func4, Tryd.ntmps4
  go_wp2_with fail
  refine CF.out.mono ?_
  rintro e w0 ⟨rfl, hB⟩
  go_wp2_with fail
  refine (CT.out _).mono ?_
  rintro e w1 ⟨rfl, hn'⟩
  have hB := hB.trans (hn'.mono hB.size)
  clear hn'
  go_wp2_with fail
  refine (CU.out _).mono ?_
  rintro e w2 ⟨rfl, hn'⟩
  have hB := hB.trans (hn'.mono hB.size)
  clear hn'
  go_wp2_with fail
  refine (C1.out _).mono ?_
  rintro e w3 ⟨r1, rfl, N1, hn'⟩
  have hB := hB.trans (hn'.mono hB.size)
  clear hn'
  go_wp2_with fail
  refine (C2.out _).mono ?_
  rintro e w4 ⟨r2, rfl, N2, hn'⟩
  have hB := hB.trans (hn'.mono hB.size)
  clear hn'
  go_wp2_with fail
  refine (C3.out _).mono ?_
  rintro e w5 ⟨r3, rfl, N3, hn'⟩
  have hB := hB.trans (hn'.mono hB.size)
  clear hn'
  obtain rfl : r1 = r3 := near_shift N1.out N3.out
  go_wp2_with fail
  refine (C4.out _).mono ?_
  rintro e w6 ⟨r4, rfl, N4, hn'⟩
  have hB := hB.trans (hn'.mono hB.size)
  clear hn'
  obtain rfl : r1 = r4 := N1.out.uniq (Nat.pow_pos (by omega)) (Nat.pow_pos (by omega)) rfl N4.out
  have hss : ((r1 : Int) == (r1 : Int)) = true := beq_self_eq_true _
  go_wp2_with fail
  refine (CS.out _ _ _).mono ?_
  rintro e w' ⟨rfl, rfl⟩
  go_wp2_with fail
  refine (CS.out _ _ _).mono ?_
  rintro e w' ⟨rfl, rfl⟩
  clear hss
  have hr1 := N1.out.top
  have hr2 := N2.out.top
  have hm1 : n ≤ m → r1 ≤ r2 := fun h => near_mono h N1.out N2.out
  have hm2 : m ≤ n → r2 ≤ r1 := fun h => near_mono h N2.out N1.out
  have hO := order_le hr1 hr2
  rcases Nat.lt_trichotomy r1 r2 with h | h | h
  · have hnm : n < m := by
      rcases Nat.lt_or_ge n m with h3 | h3
      · exact h3
      · have := hm2 h3; omega
    rw [Int.compare_eq_lt.2 (by omega)] at hO
    have hO' : FloatKind.f64.format.order r1 r2 = some .lt := hO
    have hn1 : ¬ m < n := by omega
    clear hO hm1 hm2 h
    go_wp2_with fail
    go_ret
    exact ⟨rfl, hB⟩
  · rw [Int.compare_eq_eq.2 (by omega)] at hO
    have hO' : FloatKind.f64.format.order r1 r2 = some .eq := hO
    clear hO hm1 hm2 h
    rcases Nat.lt_trichotomy n m with h3 | h3 | h3
    · have hn1 : ¬ m < n := by omega
      go_wp2_with fail
      go_ret
      exact ⟨rfl, hB⟩
    · have hn1 : ¬ m < n := by omega
      have hn2 : ¬ n < m := by omega
      clear h3
      go_wp2_with fail
      go_ret
      exact ⟨rfl, hB⟩
    · have hn1 : ¬ n < m := by omega
      go_wp2_with fail
      go_ret
      exact ⟨rfl, hB⟩
  · have hnm : m < n := by
      rcases Nat.lt_or_ge m n with h3 | h3
      · exact h3
      · have := hm1 h3; omega
    rw [Int.compare_eq_gt.2 (by omega)] at hO
    have hO' : FloatKind.f64.format.order r1 r2 = some .gt := hO
    have hn1 : ¬ n < m := by omega
    clear hO hm1 hm2 h
    go_wp2_with fail
    go_ret
    exact ⟨rfl, hB⟩
theorem decRises_int (n m k : Int) (w : World) (h0 : 0 ≤ n) (h1 : n ≤ 18446744073709551615) (h2 : 0 ≤ m) (h3 : m ≤ 18446744073709551615) :
    Calls Tryd.prog 4 #[.int .u64 n, .int .u64 m, .int .i64 k] w fun e w' => e = .returned (.bool true) ∧ Below w.heap.size w w' := by
  obtain ⟨a, rfl⟩ : ∃ a : Nat, n = (a : Int) := ⟨n.toNat, by omega⟩
  obtain ⟨b, rfl⟩ : ∃ b : Nat, m = (b : Int) := ⟨m.toNat, by omega⟩
  exact decRises_core a b k _ w (by omega) (by omega) rfl
end Go.Proofs.YtkjdmjglpbnmoaaDoor

namespace Go.Proofs.YtkjdmjglpbnmoaaDoor
open Go.RowKit Go.Lib

/-- A float is less than 2^53 times the gap above it; and so is the float above it, or as great. -/
theorem gap_up (r : Nat) : V r + U r ≤ 9007199254740992 * U r := by
  unfold V U
  have hz := Nat.pow_pos (n := r / 4503599627370496 - 1) (show 0 < 2 by omega)
  split
  · omega
  · generalize 2 ^ (r / 4503599627370496 - 1) = z at *
    have h : (4503599627370496 + r % 4503599627370496 + 1) * z ≤ 9007199254740992 * z := Nat.mul_le_mul_right _ (by omega)
    rw [Nat.add_mul, Nat.one_mul] at h
    exact h
/-- Seventeen digits or more, nearest to a float, are less than half a gap away from it. -/
theorem sci_close {r p M : Nat} {P : Int} (h0 : 0 < r) (hr : r < 9218868437227405312) (hp : 16 ≤ p) (h : SciOk (amN r) (amD r) p P M) :
    Near (2 * (M * 10 ^ (P - (p : Int)).toNat) * S1074) (10 ^ (-(P - (p : Int))).toNat) r := by
  have hS := S_pos
  have hV := V_am (r := r)
  have hD := amD_pos r
  obtain ⟨k, hk⟩ : ∃ k : Int, (p : Int) - P = k := ⟨_, rfl⟩
  have hv := h.val
  rw [hk] at hv
  have hlow : 10000000000000000 ≤ M := Nat.le_trans (Nat.pow_le_pow_right (n := 10) (by omega) hp) h.low
  rw [show P - (p : Int) = -k by omega, show -(-k) = k by omega]
  have hB : 0 < amD r * 10 ^ (-k).toNat := Nat.mul_pos hD (Nat.pow_pos (by omega))
  have hE : 0 < 10 ^ k.toNat := Nat.pow_pos (by omega)
  obtain ⟨h1, h2⟩ := rnd_near (amN r * 10 ^ k.toNat) (amD r * 10 ^ (-k).toNat) hB
  change _ = rnd (amN r * 10 ^ k.toNat) (amD r * 10 ^ (-k).toNat) at hv
  rw [← hv] at h1 h2
  have h1 := h1.1
  have h2 := (h2 (by omega)).1
  generalize amN r = N at *
  generalize amD r = D at *
  generalize 10 ^ k.toNat = E at *
  generalize 10 ^ (-k).toNat = F at *
  generalize S1074 = S at *
  -- all in the measure of D
  have a1 : V r * E * D = N * E * S := by rw [Nat.mul_right_comm, hV]; ac_rfl
  have a2 : 2 * (M * F) * S * D = 2 * M * (D * F) * S := by ac_rfl
  have b1 : 2 * M * (D * F) * S ≤ 2 * (N * E) * S + D * F * S := by
    rw [← Nat.add_mul]
    refine Nat.mul_le_mul_right _ ?_
    have : 2 * M * (D * F) = (2 * M - 1) * (D * F) + D * F := by rw [← Nat.succ_mul]; congr 1; omega
    omega
  have b2 : 2 * (N * E) * S ≤ 2 * M * (D * F) * S + D * F * S := by
    rw [← Nat.add_mul]
    refine Nat.mul_le_mul_right _ ?_
    have : (2 * M + 1) * (D * F) = 2 * M * (D * F) + D * F := Nat.succ_mul _ _
    omega
  have b3 : 19999999999999999 * (D * F * S) ≤ 2 * (N * E) * S := by
    have : 19999999999999999 * (D * F) ≤ (2 * M - 1) * (D * F) := Nat.mul_le_mul_right _ (by omega)
    rw [← Nat.mul_assoc]
    exact Nat.mul_le_mul_right _ (Nat.le_trans this h2)
  have c1 : 2 * (N * E) * S = 2 * (V r * E * D) := by rw [a1, Nat.mul_assoc]
  rw [c1] at b1 b2 b3
  have hBS : 0 < D * F * S := Nat.mul_pos hB hS
  -- a gap g with V r ≤ 2^53 g is wide enough
  have wide : ∀ g, V r ≤ 9007199254740992 * g → D * F * S < g * E * D := fun g hg => by
    have d1 : V r * E * D ≤ 9007199254740992 * g * E * D := Nat.mul_le_mul_right _ (Nat.mul_le_mul_right _ hg)
    rw [Nat.mul_assoc 9007199254740992, Nat.mul_assoc 9007199254740992] at d1
    omega
  refine near_strict (fun q hq => ?_) ?_ (by omega)
  · refine Nat.lt_of_mul_lt_mul_right (a := D) ?_
    rw [a2]
    have hq2 := V_succ q
    rw [← hq] at hq2
    have hw := wide (U q) (by rw [hq2]; exact gap_up q)
    have e : (V q + V r) * E * D + U q * E * D = 2 * (V r * E * D) := by
      rw [← Nat.add_mul, ← Nat.add_mul, show V q + V r + U q = 2 * V r by omega, Nat.mul_assoc, Nat.mul_assoc, Nat.mul_assoc]
    omega
  · refine Nat.lt_of_mul_lt_mul_right (a := D) ?_
    rw [a2, V_succ r]
    have hw := wide (U r) (by have := gap_up r; omega)
    have e : (V r + (V r + U r)) * E * D = 2 * (V r * E * D) + U r * E * D := by
      rw [← Nat.add_assoc, Nat.add_mul, Nat.add_mul, show V r + V r = 2 * V r by omega, Nat.mul_assoc 2, Nat.mul_assoc 2]
    omega
end Go.Proofs.YtkjdmjglpbnmoaaDoor

namespace Go.Proofs.YtkjdmjglpbnmoaaDoor
open Go.RowKit Go.Lib

theorem decs_len_of {M p : Nat} (h1 : 10 ^ p ≤ M) (h2 : M < 10 ^ (p + 1)) : (decs M).length = p + 1 := by
  have a := (decs_le (n := M) (k := p + 1) (by omega)).2 h2
  rcases Nat.eq_zero_or_pos p with rfl | hp
  · have : 1 ≤ (decs M).length := by rw [← ahead_step, List.length_append]; simp
    omega
  · rcases Nat.lt_or_ge p (decs M).length with h3 | h3
    · omega
    · exact absurd ((decs_le hp).1 h3) (by omega)
/-- What Sci answers of a finite float with seventeen digits. -/
def BackEnd (w : World) (X : Nat) (e : Ending) (w' : World) : Prop :=
  ∃ (S : ByteArray) (P : Int), e = .returned (.tuple #[.string S, .int .i64 P, .int .i64 0]) ∧ S.size = 17 ∧ Hid (isDec S = true) ∧ -400 ≤ P ∧ P ≤ 400 ∧ Hid (Near (2 * (pv S.data.toList * 10 ^ (P - 16).toNat) * S1074) (10 ^ (-(P - 16)).toNat) X) ∧ Below w.heap.size w w'
theorem sci_back (X : Nat) (w : World) (h : X < 9218868437227405312) : Calls Tryd.prog 9 #[.float .f64 X, .int .i64 16] w (BackEnd w X) := by
  have hm : mag X = X := Nat.mod_eq_of_lt (by omega)
  rcases Nat.eq_zero_or_pos X with h0 | h0
  · refine (sci_zero X 16 w (by omega) (by rw [hm]; exact h0) (by omega)).mono ?_
    rintro e w' ⟨rfl, hB⟩
    refine ⟨_, 0, rfl, by decide, Lib.hid (isDec_iff.2 ⟨by decide, dec_noughts 17⟩), by omega, by omega, Lib.hid ?_, hB⟩
    rw [show pv (⟨(List.replicate (16 + 1) (48 : UInt8)).toArray⟩ : ByteArray).data.toList = 0 from pv_zeros 17, Nat.zero_mul, Nat.mul_zero, Nat.zero_mul, h0]
    exact near_zero (Nat.pow_pos (by omega))
  · refine (sci_yes X 16 w (by omega) (by rw [hm]; exact h0) (by rw [hm]; exact h) (by omega)).mono ?_
    rintro e w' ⟨⟨P, M, ok, rfl⟩, hB⟩
    rw [hm] at ok
    have hl := decs_len_of ok.low ok.high
    refine ⟨_, P, rfl, ?_, Lib.hid (isDec_iff.2 ⟨?_, dec_decs M⟩), ok.bd.1, ok.bd.2, Lib.hid ?_, hB⟩
    · show (decs M).toArray.size = 17
      rw [List.size_toArray, hl]
    · show 0 < (decs M).toArray.size
      rw [List.size_toArray, hl]; omega
    · rw [show (⟨(decs M).toArray⟩ : ByteArray).data.toList = decs M from rfl, pv_decs]
      exact sci_close h0 h (Nat.le_refl _) ok
set_option maxRecDepth 100000 in
set_option maxHeartbeats 2000000 in
theorem decBack_fin (n : Nat) (w : World) (hn : n < 18446744073709551616) (h : mag n < 9218868437227405312) :
    Calls Tryd.prog 3 #[.int .u64 (n : Int)] w fun e w' => e = .returned (.bool true) ∧ Below w.heap.size w w' := by
  have hmb := mag_bits n hn
  obtain ⟨X, hX⟩ : ∃ X, mag n = X := ⟨_, rfl⟩
  rw [hX] at h hmb
  have hmX : mag X = X := Nat.mod_eq_of_lt (by omega)
  have hf := fun W => run_f64from X W
  have c1 := fun W => isNaN_any X W
  have c2 := fun W => isInf_any X W (by omega)
  rw [nan_no (by omega)] at c1
  rw [inf_no (by omega)] at c2
  have CF := Lib.hid (lfixed_any w)
  have C1 := Lib.hid c1
  have C2 := Lib.hid c2
  have CB := Lib.hid (fun W => sci_back X W h)
  have CR := Lib.hid (fun (s : ByteArray) (x : Int) (W : World) (hs : s.size ≤ 1024) (hd : isDec s = true) => read_end s _ x W hs hd rfl)
  have CS := Lib.hid (fun x y W => same_any x y W)
  clear hX c1 c2 hmX h
  go_enter Tryd.func3, Tryd.ntmps3
  go_wp2_with fail
  refine CF.out.mono ?_
  rintro e w0 ⟨rfl, hB⟩
  go_wp2_with fail
  refine (CB.out _).mono ?_
  rintro e w1 ⟨S, P, rfl, hS, hD, hP1, hP2, hN, hn'⟩
  have hB := hB.trans (hn'.mono hB.size)
  have hSb : S.size ≤ 17 := by omega
  have HS := Lib.hid hS
  clear hn' hS
  go_wp2_with fail
  refine (C1.out _).mono ?_
  rintro e w' ⟨rfl, rfl⟩
  go_wp2_with fail
  refine (C2.out _).mono ?_
  rintro e w' ⟨rfl, rfl⟩
  go_wp2_with fail
  refine (CR.out S (P - 16) _ (by omega) hD.out).mono ?_
  rintro e w2 ⟨r, rfl, N2, hn'⟩
  have hB := hB.trans (hn'.mono hB.size)
  obtain rfl : r = X := N2.out.uniq (Nat.pow_pos (by omega)) (Nat.pow_pos (by omega)) rfl hN.out
  clear hn'
  have hss : ((r : Int) == (r : Int)) = true := beq_self_eq_true _
  go_wp2_with fail
  refine (CS.out _ _ _).mono ?_
  rintro e w' ⟨rfl, rfl⟩
  have hS := HS.out
  have hS2 : ((S.size : Int) == 17) = true := by rw [beq_iff_eq]; omega
  clear hS hss
  go_wp2_with fail
  go_ret
  exact ⟨rfl, hB⟩
set_option maxRecDepth 100000 in
set_option maxHeartbeats 2000000 in
theorem decBack_inf (n : Nat) (w : World) (hn : n < 18446744073709551616) (h : 9218868437227405312 ≤ mag n) :
    Calls Tryd.prog 3 #[.int .u64 (n : Int)] w fun e w' => e = .returned (.bool true) ∧ Below w.heap.size w w' := by
  have hmb := mag_bits n hn
  have hXb : mag n < 9223372036854775808 := Nat.mod_lt _ (by omega)
  obtain ⟨X, hX⟩ : ∃ X, mag n = X := ⟨_, rfl⟩
  rw [hX] at h hmb hXb
  have hmX : mag X = X := Nat.mod_eq_of_lt (by omega)
  have hf := fun W => run_f64from X W
  have c1 := fun W => isNaN_any X W
  have c2 := fun W => isInf_any X W (by omega)
  have CF := Lib.hid (lfixed_any w)
  have CB := Lib.hid (fun W => sci_inf X 16 W (by omega) (by omega))
  rcases Nat.lt_or_ge 9218868437227405312 X with hgt | hle
  · rw [nan_yes (by omega)] at c1
    have C1 := Lib.hid c1
    clear hX c1 c2 hmX h
    go_enter Tryd.func3, Tryd.ntmps3
    go_wp2_with fail
    refine CF.out.mono ?_
    rintro e w0 ⟨rfl, hB⟩
    go_wp2_with fail
    refine (CB.out _).mono ?_
    rintro e w1 ⟨rfl, hn'⟩
    have hB := hB.trans (hn'.mono hB.size)
    clear hn'
    go_wp2_with fail
    refine (C1.out _).mono ?_
    rintro e w' ⟨rfl, rfl⟩
    go_wp2_with fail
    go_ret
    exact ⟨rfl, hB⟩
  · rw [nan_no (by omega)] at c1
    rw [inf_yes (by omega)] at c2
    have C1 := Lib.hid c1
    have C2 := Lib.hid c2
    clear hX c1 c2 hmX h
    go_enter Tryd.func3, Tryd.ntmps3
    go_wp2_with fail
    refine CF.out.mono ?_
    rintro e w0 ⟨rfl, hB⟩
    go_wp2_with fail
    refine (CB.out _).mono ?_
    rintro e w1 ⟨rfl, hn'⟩
    have hB := hB.trans (hn'.mono hB.size)
    clear hn'
    go_wp2_with fail
    refine (C1.out _).mono ?_
    rintro e w' ⟨rfl, rfl⟩
    go_wp2_with fail
    refine (C2.out _).mono ?_
    rintro e w' ⟨rfl, rfl⟩
    go_wp2_with fail
    go_ret
    exact ⟨rfl, hB⟩
theorem decBack_int (n : Int) (w : World) (h0 : 0 ≤ n) (h1 : n ≤ 18446744073709551615) :
    Calls Tryd.prog 3 #[.int .u64 n] w fun e w' => e = .returned (.bool true) ∧ Below w.heap.size w w' := by
  obtain ⟨a, rfl⟩ : ∃ a : Nat, n = (a : Int) := ⟨n.toNat, by omega⟩
  rcases Nat.lt_or_ge (mag a) 9218868437227405312 with h | h
  · exact decBack_fin a w (by omega) h
  · exact decBack_inf a w (by omega) h
end Go.Proofs.YtkjdmjglpbnmoaaDoor

namespace Go.Proofs.YtkjdmjglpbnmoaaDoor
open Go.RowKit Go.Lib

/-- '[]byte(s)': a new row whose first cells are the bytes. -/
theorem dbytes_new (W : World) (s : ByteArray) : ∃ cap row mk, s.size ≤ cap ∧
    (convert 9 60 (.string s)).run Tryd.prog W = .ok (.slice (some ⟨W.heap.size, 0, none⟩) s.size cap) (W.drew.alloc (.cells row 5 mk)) ∧
    (∀ j, j < s.size → row[j]? = some (.int .u8 (s.data.toList.getD j 0).toNat)) ∧ (∀ X : World, ∀ j, j < s.size → (X.alloc (.cells row 5 mk)).frozen? ⟨X.heap.size, j, none⟩ = false) := by
  refine ⟨_, _, _, ?_, run_bytes_of_string (P := Tryd.prog) W 9 60 5 s Tryd.underlying9 Tryd.underlying60 Tryd.underlying5, ?_, ?_⟩
  · exact grownCap_ge _ _ _ _
  · intro j hj
    have h : j < s.data.size := hj
    rw [bytesRow_at s _ j h]
    rw [List.getD_eq_getElem?_getD, Array.getElem?_toList, Array.getElem?_eq_getElem h]
    rfl
  · intro X j hj
    rw [World.frozen?_alloc_mark]
    have : (bytesRow s (grownCap W s.size 0 5)).size ≥ s.size := by
      unfold bytesRow
      rw [Array.size_append, Array.size_map]
      exact Nat.le_add_right _ _
    simp only [Bool.and_eq_false_iff, decide_eq_false_iff_not]
    left; omega
/-- A block's first cells are these bytes, and may be written. -/
def RowD (W : World) (R : Nat) (L : List UInt8) : Prop := ∀ j (_ : j < L.length), W.cell? ⟨R, j, none⟩ = some (.int .u8 ((L[j].toNat : Nat) : Int)) ∧ W.frozen? ⟨R, j, none⟩ = false
theorem RowD.put {W : World} {R k : Nat} {pre post : List UInt8} {c x : UInt8} (h : RowD W R (pre ++ c :: post)) (hk : pre.length = k) : RowD (W.setCell ⟨R, k, none⟩ (.int .u8 ((x.toNat : Nat) : Int))) R (pre ++ x :: post) := by
  intro j hj
  have hj' : j < (pre ++ c :: post).length := by simpa using hj
  obtain ⟨h1, h2⟩ := h j hj'
  refine ⟨?_, by rw [World.frozen?_setCell]; exact h2⟩
  by_cases e : j = k
  · subst e
    rw [World.cell?_setCell_same' _ _ _ (by rw [h1]; rfl)]
    subst hk
    simp
  · rw [World.cell?_setCell_other _ _ _ _ (fun e2 => e (by injection e2 with _ e3 _; exact e3.symm)), h1]
    congr 3
    rcases Nat.lt_or_ge j pre.length with hl | hl
    · rw [List.getElem_append_left hl, List.getElem_append_left hl]
    · obtain ⟨i, hi⟩ : ∃ i, j - pre.length = i + 1 := ⟨j - pre.length - 1, by omega⟩
      rw [List.getElem_append_right hl, List.getElem_append_right hl]
      simp only [hi, List.getElem_cons_succ]
theorem RowD.str {W : World} {R cap : Nat} {L : List UInt8} (h : RowD W R L) : (convert 60 9 (.slice (some ⟨R, 0, none⟩) L.length cap)).run Tryd.prog W = .ok (.string ⟨L.toArray⟩) W :=
  run_convert_bytes_back (P := Tryd.prog) W 60 9 5 ⟨R, 0, none⟩ cap L Tryd.underlying60 Tryd.underlying5 Tryd.underlying9 (fun j hj => by
    rw [Addr.add_lit, Nat.zero_add, (h j hj).1])
/-- What 'below' answers: digits again, and no more; of a number other than nought the number less by one. -/
def BelowOk (d t : List UInt8) : Prop := Dec t ∧ 1 ≤ t.length ∧ (t.length ≤ d.length ∨ t.length = 1) ∧ (0 < pv d → pv t + 1 = pv d)
def BelowEnd (w : World) (d : List UInt8) (e : Ending) (w' : World) : Prop := ∃ t, e = .returned (.string ⟨t.toArray⟩) ∧ BelowOk d t ∧ Below w.heap.size w w'
theorem pv_nines (k : Nat) : pv (List.replicate k (57 : UInt8)) + 1 = 10 ^ k := by
  induction k with
  | zero => rfl
  | succ k ih =>
    rw [List.replicate_succ, pv_cons, List.length_replicate, Nat.pow_succ]
    show (57 - 48) * 10 ^ k + _ + 1 = _
    omega
theorem below_ok {pre post : List UInt8} {c x : UInt8} {j : Nat} (hd : Dec (pre ++ c :: post)) (hc : 48 < c.toNat) (hx : x.toNat + 1 = c.toNat) (hp : post = List.replicate j 48) : BelowOk (pre ++ c :: post) (pre ++ x :: List.replicate j 57) := by
  obtain ⟨h1, h2⟩ := dec_append.1 hd
  have hcb := h2 c (List.mem_cons_self ..)
  subst hp
  refine ⟨dec_append.2 ⟨h1, fun b hb => ?_⟩, by simp; omega, Or.inl (by simp), fun _ => ?_⟩
  · rcases List.mem_cons.1 hb with e | e
    · rw [e]; omega
    · rw [(List.mem_replicate.1 e).2]; decide
  · have := pv_nines j
    rw [pv_append, pv_append, pv_cons, pv_cons, pv_zeros, List.length_cons, List.length_cons, List.length_replicate, List.length_replicate]
    have e : (c.toNat - 48) * 10 ^ j = (x.toNat - 48) * 10 ^ j + 10 ^ j := by rw [← Nat.succ_mul]; congr 1; omega
    rw [e]
    omega
set_option maxRecDepth 100000 in
set_option maxHeartbeats 2000000 in
theorem lbelow_any (s : ByteArray) (w : World) (hs : s.size ≤ 1000) (hd : Dec s.data.toList) :
    Calls Tryd.prog 15 #[.string s] w (BelowEnd w s.data.toList) := by
  obtain ⟨cap, row, mk, hcap, hcv, hrow, hfz⟩ := dbytes_new w s
  obtain ⟨d, hde⟩ : ∃ d, s.data.toList = d := ⟨_, rfl⟩
  have hn : d.length = s.size := by rw [← hde, ba_len]
  rw [hde] at hrow hd
  rw [hde]
  have HR0 := Lib.hid (show RowD (w.drew.alloc (.cells row 5 mk)) w.heap.size d from fun j hj => by
    refine ⟨?_, hfz w.drew j (by omega)⟩
    have h1 := hrow j (by omega)
    rw [List.getD_eq_getElem?_getD, List.getElem?_eq_getElem hj] at h1
    exact (World.cell?_alloc_mark w.drew row 5 mk j).trans h1)
  have hb0 := ((Below.refl w.heap.size w).drew).alloc (o := .cells row 5 mk) (Nat.le_refl _)
  obtain ⟨n, hne⟩ : ∃ n, s.size = n := ⟨_, rfl⟩
  rw [hne] at hcv hcap hs hn
  have HD := Lib.hid hd
  have HN := Lib.hid hn
  clear hrow hfz hde hd hne hn
  go_enter Tryd.func15, Tryd.ntmps15
  obtain ⟨W0, hW0⟩ : ∃ W0, w.drew.alloc (.cells row 5 mk) = W0 := ⟨_, rfl⟩
  rw [hW0] at hcv hb0 HR0
  clear hW0
  obtain ⟨R, hR⟩ : ∃ R, w.heap.size = R := ⟨_, rfl⟩
  rw [hR] at hcv HR0
  have HRR := Lib.hid hR
  clear hR
  go_wp2
  go_loopw [4] (fun iv wr => ∃ (i : Int) (j : Nat), iv = .int .i64 i ∧ i + (j : Int) + 1 = (n : Int) ∧ -1 ≤ i ∧ RowD wr R (d.take (n - j) ++ List.replicate j 57) ∧ d.drop (n - j) = List.replicate j 48 ∧ Below w.heap.size w wr) (fun iv _ => (RowKit.intOf iv + 1).toNat)
  case atStart => exact ⟨(n : Int) - 1, 0, rfl, by omega, by omega, by
    have h := HR0.out
    rw [Nat.sub_zero, List.take_of_length_le (by rw [HN.out]; exact Nat.le_refl _), List.replicate_zero, List.append_nil]
    exact h, by rw [Nat.sub_zero, List.drop_of_length_le (by rw [HN.out]; exact Nat.le_refl _)]; rfl, hb0⟩
  case round =>
    obtain ⟨i, j, rfl, hij, hi1, hrow, hdrop, hb⟩ := hrel
    clear hcv
    by_cases hi : 0 ≤ i
    · obtain ⟨k, rfl⟩ : ∃ k : Nat, i = (k : Int) := ⟨i.toNat, by omega⟩
      have hkn : k + 1 = n - j := by omega
      have hkl : k < d.length := by rw [HN.out]; omega
      obtain ⟨c, hc⟩ : ∃ c, d[k] = c := ⟨_, rfl⟩
      rw [← hkn, List.take_succ_eq_append_getElem hkl, hc, List.append_assoc, List.singleton_append] at hrow
      have hdk : d.drop k = c :: List.replicate j 48 := by
        rw [List.drop_eq_getElem_cons hkl, hc, hkn, hdrop]
      have hdd : d = d.take k ++ c :: List.replicate j 48 := by rw [← hdk, List.take_append_drop]
      have hlt : (d.take k).length = k := by rw [List.length_take]; omega
      have hcd := HD.out c (by rw [hdd]; simp)
      obtain ⟨hcell, hfro⟩ := hrow k (by rw [List.length_append, hlt, List.length_cons]; omega)
      have hget : (d.take k ++ c :: List.replicate j 57)[k]'(by rw [List.length_append, hlt, List.length_cons]; omega) = c := by
        rw [List.getElem_append_right (by omega)]
        simp [hlt]
      rw [hget] at hcell
      obtain ⟨z, hz⟩ : ∃ z, c.toNat = z := ⟨_, rfl⟩
      rw [hz] at hcell hcd
      have HROW := Lib.hid hrow
      have HDD := Lib.hid hdd
      have HLT := Lib.hid hlt
      have HZ := Lib.hid hz
      have hkn2 : k < n := by omega
      have hkc : k < cap := by omega
      clear hrow hdrop hdk hdd hlt hget hc hz hkn hkl
      by_cases hz48 : 48 < z
      · obtain ⟨x, hx⟩ : ∃ x : UInt8, x.toNat = z - 1 := ⟨UInt8.ofNat (z - 1), by simp; omega⟩
        have hput := HROW.out.put (x := x) HLT.out
        rw [show ((x.toNat : Nat) : Int) = (z : Int) - 1 by omega] at hput
        have hcs := hput.str (cap := cap)
        have hlen : (d.take k ++ x :: List.replicate j 57).length = n := by rw [List.length_append, HLT.out, List.length_cons, List.length_replicate]; omega
        rw [hlen] at hcs
        have HX := Lib.hid hx
        clear hput hlen hx
        go_wp2
        go_ret
        refine ⟨_, rfl, ?_, hb.setCell (by have := HRR.out; show _ ≤ R; omega) _⟩
        have h := below_ok (pre := d.take k) (c := c) (x := x) (j := j) (by rw [← HDD.out]; exact HD.out) (by rw [HZ.out]; exact hz48) (by rw [HX.out, HZ.out]; omega) rfl
        rw [← HDD.out] at h
        exact h
      · obtain rfl : z = 48 := by omega
        have hput := HROW.out.put (x := 57) HLT.out
        have HP := Lib.hid hput
        clear hput
        go_wp2
        go_roundw
        case rel => exact ⟨(k : Int) - 1, j + 1, rfl, by omega, by omega, by
          have e : d.take (n - (j + 1)) = d.take k := by congr 1; omega
          rw [e]
          exact HP.out, by
          rw [show n - (j + 1) = k by omega]
          have h := HDD.out
          have hc : c = 48 := UInt8.toNat_inj.1 HZ.out
          rw [hc] at h
          conv => lhs; rw [h]
          rw [List.drop_left' HLT.out]
          rfl, hb.setCell (by have := HRR.out; show _ ≤ R; omega) _⟩
        case measure => simp [RowKit.intOf]
    · obtain rfl : i = -1 := by omega
      have hd0 : d = List.replicate j 48 := by rw [show n - j = 0 by omega, List.drop_zero] at hdrop; exact hdrop
      have HD0 := Lib.hid hd0
      clear hrow hdrop hd0
      go_wp2
      go_ret
      refine ⟨[48], rfl, ⟨by unfold Dec; decide, by decide, Or.inr rfl, fun h => ?_⟩, hb⟩
      rw [HD0.out, pv_zeros] at h
      exact absurd h (Nat.lt_irrefl 0)
end Go.Proofs.YtkjdmjglpbnmoaaDoor

namespace Go.Proofs.YtkjdmjglpbnmoaaDoor
open Go.RowKit Go.Lib

/-- The digits and a five behind them, and the digits less by one and a five, are the edges. -/
theorem sci_edges {r p M : Nat} {P : Int} (hr : r < 9218868437227405312) (hM : 0 < M) (h : M = sciM (amN r) (amD r) ((p : Int) - P)) :
    (∀ s, Near (2 * ((M * 10 + 5) * 10 ^ (P - (p : Int) - 1).toNat) * S1074) (10 ^ (-(P - (p : Int) - 1)).toNat) s → r ≤ s) ∧
    (∀ s n, n + 1 = M → Near (2 * ((n * 10 + 5) * 10 ^ (P - (p : Int) - 1).toNat) * S1074) (10 ^ (-(P - (p : Int) - 1)).toNat) s → s ≤ r) := by
  have hV := V_am (r := r)
  have hD := amD_pos r
  obtain ⟨k, hk⟩ : ∃ k : Int, (p : Int) - P = k := ⟨_, rfl⟩
  rw [hk] at h
  rw [show P - (p : Int) - 1 = -(k + 1) by omega, show -(-(k + 1)) = k + 1 by omega]
  have hB : 0 < amD r * 10 ^ (-k).toNat := Nat.mul_pos hD (Nat.pow_pos (by omega))
  have hB' : 0 < amD r * 10 ^ (-(k + 1)).toNat := Nat.mul_pos hD (Nat.pow_pos (by omega))
  have hE : 0 < 10 ^ (k + 1).toNat := Nat.pow_pos (by omega)
  have hh := sci_half (amN r) (amD r) k
  obtain ⟨h1, h2⟩ := rnd_near (amN r * 10 ^ k.toNat) (amD r * 10 ^ (-k).toNat) hB
  change _ = rnd (amN r * 10 ^ k.toNat) (amD r * 10 ^ (-k).toNat) at h
  rw [← h] at h1 h2
  have h1 := h1.1
  have h2 := (h2 hM).1
  generalize amN r = N at *
  generalize amD r = D at *
  generalize 10 ^ k.toNat = E at *
  generalize 10 ^ (-k).toNat = F at *
  generalize 10 ^ (k + 1).toNat = E' at *
  generalize 10 ^ (-(k + 1)).toNat = F' at *
  generalize S1074 = S at *
  have up : N * E' ≤ (M * 10 + 5) * (D * F') := by
    refine Nat.le_of_mul_le_mul_right (c := D * F) ?_ hB
    rw [hh]
    have a : 2 * (N * E) * (5 * (D * F')) ≤ (2 * M + 1) * (D * F) * (5 * (D * F')) := Nat.mul_le_mul_right _ h1
    calc 10 * (N * E) * (D * F') = 2 * (N * E) * (5 * (D * F')) := by rw [show (10 : Nat) = 2 * 5 by omega]; ac_rfl
      _ ≤ (2 * M + 1) * (D * F) * (5 * (D * F')) := a
      _ = (2 * M + 1) * 5 * (D * F') * (D * F) := by ac_rfl
      _ = (M * 10 + 5) * (D * F') * (D * F) := by rw [show (2 * M + 1) * 5 = M * 10 + 5 by omega]
  have dn : ∀ n, n + 1 = M → (n * 10 + 5) * (D * F') ≤ N * E' := fun n hn => by
    refine Nat.le_of_mul_le_mul_right (c := D * F) ?_ hB
    rw [hh]
    have a : (2 * M - 1) * (D * F) * (5 * (D * F')) ≤ 2 * (N * E) * (5 * (D * F')) := Nat.mul_le_mul_right _ h2
    calc (n * 10 + 5) * (D * F') * (D * F) = (2 * M - 1) * 5 * (D * F') * (D * F) := by rw [show (2 * M - 1) * 5 = n * 10 + 5 by omega]
      _ = (2 * M - 1) * (D * F) * (5 * (D * F')) := by ac_rfl
      _ ≤ 2 * (N * E) * (5 * (D * F')) := a
      _ = 10 * (N * E) * (D * F') := by rw [show (10 : Nat) = 2 * 5 by omega]; ac_rfl
  have hs := Near.self hr
  refine ⟨fun s hn => hs.le (by omega) hE ?_ hn, fun s n hn1 hn => hn.le hE (by omega) ?_ hs⟩
  · refine Nat.le_of_mul_le_mul_right (c := D) ?_ hD
    calc 2 * V r * E' * D = 2 * (V r * D) * E' := by ac_rfl
      _ = 2 * S * (N * E') := by rw [hV]; ac_rfl
      _ ≤ 2 * S * ((M * 10 + 5) * (D * F')) := Nat.mul_le_mul_left _ up
      _ = 2 * ((M * 10 + 5) * F') * S * 1 * D := by rw [Nat.mul_one]; ac_rfl
  · refine Nat.le_of_mul_le_mul_right (c := D) ?_ hD
    calc 2 * ((n * 10 + 5) * F') * S * 1 * D = 2 * S * ((n * 10 + 5) * (D * F')) := by rw [Nat.mul_one]; ac_rfl
      _ ≤ 2 * S * (N * E') := Nat.mul_le_mul_left _ (dn n hn1)
      _ = 2 * (V r * D) * E' := by rw [hV]; ac_rfl
      _ = 2 * V r * E' * D := by ac_rfl
theorem decs_first {n : Nat} (h : 0 < n) : ∃ c l, decs n = c :: l ∧ c ≠ 48 := by
  induction n using Nat.strongRecOn with
  | _ n ih =>
    rw [← ahead_step]
    unfold ahead
    split
    · refine ⟨db (n % 10), [], rfl, fun e => ?_⟩
      have := (db_zero (Nat.mod_lt n (by omega))).1 e
      omega
    · obtain ⟨c, l, e, hc⟩ := ih (n / 10) (by omega) (by omega)
      exact ⟨c, l ++ [db (n % 10)], by rw [e]; rfl, hc⟩
/-- The two edges read. -/
def Edges (X p : Nat) (P : Int) (d : List UInt8) : Prop :=
  (∀ s, Near (2 * ((pv d * 10 + 5) * 10 ^ (P - (p : Int) - 1).toNat) * S1074) (10 ^ (-(P - (p : Int) - 1)).toNat) s → X ≤ s) ∧
  (0 < X → 0 < pv d ∧ ∀ s n, n + 1 = pv d → Near (2 * ((n * 10 + 5) * 10 ^ (P - (p : Int) - 1).toNat) * S1074) (10 ^ (-(P - (p : Int) - 1)).toNat) s → s ≤ X)
def ShortEnd (w : World) (X p : Nat) (e : Ending) (w' : World) : Prop :=
  ∃ (S : ByteArray) (P : Int), e = .returned (.tuple #[.string S, .int .i64 P, .int .i64 0]) ∧ S.size = p + 1 ∧ Hid (Dec S.data.toList) ∧ -400 ≤ P ∧ P ≤ 400 ∧ Hid (Edges X p P S.data.toList) ∧ Hid (0 < X → ∃ c l, S.data.toList = c :: l ∧ c ≠ 48) ∧ Below w.heap.size w w'
theorem sci_short (X p : Nat) (w : World) (h : X < 9218868437227405312) (hp : p ≤ 200) : Calls Tryd.prog 9 #[.float .f64 X, .int .i64 p] w (ShortEnd w X p) := by
  have hm : mag X = X := Nat.mod_eq_of_lt (by omega)
  rcases Nat.eq_zero_or_pos X with h0 | h0
  · refine (sci_zero X p w (by omega) (by rw [hm]; exact h0) hp).mono ?_
    rintro e w' ⟨rfl, hB⟩
    refine ⟨_, 0, rfl, ?_, Lib.hid (dec_noughts (p + 1)), by omega, by omega, Lib.hid ⟨fun s _ => by omega, fun h => by omega⟩, Lib.hid (fun h => by omega), hB⟩
    show (List.replicate (p + 1) (48 : UInt8)).toArray.size = _
    rw [List.size_toArray, List.length_replicate]
  · refine (sci_yes X p w (by omega) (by rw [hm]; exact h0) (by rw [hm]; exact h) hp).mono ?_
    rintro e w' ⟨⟨P, M, ok, rfl⟩, hB⟩
    rw [hm] at ok
    have hM : 0 < M := Nat.lt_of_lt_of_le (Nat.pow_pos (by omega)) ok.low
    have hl := decs_len_of ok.low ok.high
    refine ⟨_, P, rfl, ?_, Lib.hid (dec_decs M), ok.bd.1, ok.bd.2, Lib.hid ?_, Lib.hid (fun _ => decs_first hM), hB⟩
    · show (decs M).toArray.size = _
      rw [List.size_toArray, hl]
    · obtain ⟨e1, e2⟩ := sci_edges h hM ok.val
      show Edges X p P (decs M)
      unfold Edges
      rw [pv_decs]
      exact ⟨e1, fun _ => ⟨hM, e2⟩⟩
theorem pv_five (T : ByteArray) : pv (T ++ ⟨#[53]⟩).data.toList = pv T.data.toList * 10 + 5 := by
  rw [ByteArray.data_append, Array.toList_append]
  exact pv_snoc _ 53
theorem dec_five {T : ByteArray} (h : Dec T.data.toList) : isDec (T ++ ⟨#[53]⟩) = true :=
  isDec_iff.2 ⟨by rw [ByteArray.size_append]; show 0 < T.size + 1; omega, by rw [ByteArray.data_append, Array.toList_append]; exact dec_append.2 ⟨h, by unfold Dec; decide⟩⟩
/-- The order of two floats that are not below nought, as the walk has it. -/
theorem ord_le {r s : Nat} (h : r ≤ s) (hs : s ≤ 9218868437227405312) : FloatKind.f64.format.order r s = some .lt ∨ FloatKind.f64.format.order r s = some .eq := by
  have hO : FloatKind.f64.format.order r s = some (compare (r : Int) (s : Int)) := order_le (Nat.le_trans h hs) hs
  rcases Nat.lt_or_ge r s with h1 | h1
  · rw [hO, Int.compare_eq_lt.2 (by omega)]; exact Or.inl rfl
  · rw [hO, Int.compare_eq_eq.2 (by omega)]; exact Or.inr rfl
set_option maxRecDepth 100000 in
set_option maxHeartbeats 4000000 in
theorem decShort_pos (n p : Nat) (k : Int) (w : World) (hn : n < 18446744073709551616) (h : mag n < 9218868437227405312) (h0 : 0 < mag n) (hk : min (max k 0) 40 = (p : Int)) :
    Calls Tryd.prog 5 #[.int .u64 (n : Int), .int .i64 k] w fun e w' => e = .returned (.bool true) ∧ Below w.heap.size w w' := by
  have hp : p ≤ 40 := by omega
  have hmb := mag_bits n hn
  obtain ⟨X, hX⟩ : ∃ X, mag n = X := ⟨_, rfl⟩
  rw [hX] at h h0 hmb
  have hf := fun W => run_f64from X W
  have CF := Lib.hid (lfixed_any w)
  have CB := Lib.hid (fun W => sci_short X p W h (by omega))
  have CL := Lib.hid (fun (s : ByteArray) (W : World) (hs : s.size ≤ 1000) (hd : Dec s.data.toList) => lbelow_any s W hs hd)
  have CR := Lib.hid (fun (s : ByteArray) (x : Int) (W : World) (hs : s.size ≤ 1024) (hd : isDec s = true) => read_end s _ x W hs hd rfl)
  have HX := Lib.hid h
  have H0 := Lib.hid h0
  have hord : FloatKind.f64.format.order X 0 = some .gt := order_zero h0 h
  clear hX h h0
  go_enter Tryd.func5, Tryd.ntmps5
  go_wp2_with fail
  refine CF.out.mono ?_
  rintro e w0 ⟨rfl, hB⟩
  go_wp2_with fail
  refine (CB.out _).mono ?_
  rintro e w1 ⟨S, P, rfl, hS, hD, hP1, hP2, hE, hF, hn'⟩
  have hB := hB.trans (hn'.mono hB.size)
  have hSb : S.size ≤ 41 := by omega
  have hS1 : 0 < S.size := by omega
  have hS2 : ((S.size : Int) != (p : Int) + 1) = false := by rw [bne_eq_false_iff_eq]; omega
  have hc : (((S[0]'hS1).toNat : Int) == 48) = false := by
    obtain ⟨c, l, hcl, hne⟩ := hF.out H0.out
    have : S[0]'hS1 = c := by
      show S.data[0] = c
      have h1 : S.data.toList[0]? = some c := by rw [hcl]; rfl
      rw [Array.getElem?_toList] at h1
      exact (Array.getElem?_eq_some_iff.1 h1).2
    rw [this, beq_eq_false_iff_ne]
    intro e
    exact hne (UInt8.toNat_inj.1 (by show c.toNat = 48; omega))
  clear hn' hS
  go_wp2_with fail
  refine (CL.out S _ (by omega) hD.out).mono ?_
  rintro e w2 ⟨t, rfl, hT, hn'⟩
  have hB := hB.trans (hn'.mono hB.size)
  obtain ⟨T, hTe⟩ : ∃ T : ByteArray, (⟨t.toArray⟩ : ByteArray) = T := ⟨_, rfl⟩
  have hTl : T.data.toList = t := by rw [← hTe]
  rw [← hTl] at hT
  rw [hTe]
  obtain ⟨hT1, hT2, hT3, hT4⟩ := hT
  have hTs : T.size ≤ 41 := by rw [ba_len, ba_len] at hT3; omega
  have HT4 := Lib.hid hT4
  have HT1 := Lib.hid hT1
  clear hn' hTe hTl hT1 hT2 hT3 hT4
  go_wp2_with fail
  refine (CR.out (T ++ ⟨#[53]⟩) (P - (p : Int) - 1) _ (by rw [ByteArray.size_append]; show T.size + 1 ≤ _; omega) (dec_five HT1.out)).mono ?_
  rintro e w3 ⟨lo, rfl, NL, hn'⟩
  have hB := hB.trans (hn'.mono hB.size)
  clear hn'
  go_wp2_with fail
  refine (CR.out (S ++ ⟨#[53]⟩) (P - (p : Int) - 1) _ (by rw [ByteArray.size_append]; show S.size + 1 ≤ _; omega) (dec_five hD.out)).mono ?_
  rintro e w4 ⟨hi, rfl, NH, hn'⟩
  have hB := hB.trans (hn'.mono hB.size)
  clear hn'
  have hnh := NH.out
  rw [pv_five] at hnh
  have hle := hE.out.1 hi hnh
  have hord2 := ord_le hle hnh.top
  clear hnh hle
  have hnl := NL.out
  rw [pv_five] at hnl
  obtain ⟨hp0, hlo⟩ := hE.out.2 H0.out
  have hle := hlo lo _ (HT4.out hp0) hnl
  have hord3 := ord_le hle (by have := HX.out; omega)
  clear hnl hle hp0 hlo
  rcases hord2 with h2 | h2 <;> rcases hord3 with h3 | h3
  all_goals
    go_wp2_with fail
    go_ret
    exact ⟨rfl, hB⟩
set_option maxRecDepth 100000 in
set_option maxHeartbeats 4000000 in
theorem decShort_zero (n p : Nat) (k : Int) (w : World) (hn : n < 18446744073709551616) (h : mag n < 9218868437227405312) (h0 : mag n = 0) (hk : min (max k 0) 40 = (p : Int)) :
    Calls Tryd.prog 5 #[.int .u64 (n : Int), .int .i64 k] w fun e w' => e = .returned (.bool true) ∧ Below w.heap.size w w' := by
  have hp : p ≤ 40 := by omega
  have hmb := mag_bits n hn
  obtain ⟨X, hX⟩ : ∃ X, mag n = X := ⟨_, rfl⟩
  rw [hX] at h h0 hmb
  have hf := fun W => run_f64from X W
  have CF := Lib.hid (lfixed_any w)
  have CB := Lib.hid (fun W => sci_short X p W h (by omega))
  have CL := Lib.hid (fun (s : ByteArray) (W : World) (hs : s.size ≤ 1000) (hd : Dec s.data.toList) => lbelow_any s W hs hd)
  have CR := Lib.hid (fun (s : ByteArray) (x : Int) (W : World) (hs : s.size ≤ 1024) (hd : isDec s = true) => read_end s _ x W hs hd rfl)
  have HX := Lib.hid h
  have H0 := Lib.hid h0
  have hord : FloatKind.f64.format.order X 0 = some .eq := by rw [h0]; decide
  clear hX h h0
  go_enter Tryd.func5, Tryd.ntmps5
  go_wp2_with fail
  refine CF.out.mono ?_
  rintro e w0 ⟨rfl, hB⟩
  go_wp2_with fail
  refine (CB.out _).mono ?_
  rintro e w1 ⟨S, P, rfl, hS, hD, hP1, hP2, hE, hF, hn'⟩
  have hB := hB.trans (hn'.mono hB.size)
  have hSb : S.size ≤ 41 := by omega
  have hS1 : 0 < S.size := by omega
  have hS2 : ((S.size : Int) != (p : Int) + 1) = false := by rw [bne_eq_false_iff_eq]; omega
  clear hn' hS
  go_wp2_with fail
  refine (CL.out S _ (by omega) hD.out).mono ?_
  rintro e w2 ⟨t, rfl, hT, hn'⟩
  have hB := hB.trans (hn'.mono hB.size)
  obtain ⟨T, hTe⟩ : ∃ T : ByteArray, (⟨t.toArray⟩ : ByteArray) = T := ⟨_, rfl⟩
  have hTl : T.data.toList = t := by rw [← hTe]
  rw [← hTl] at hT
  rw [hTe]
  obtain ⟨hT1, hT2, hT3, hT4⟩ := hT
  have hTs : T.size ≤ 41 := by rw [ba_len, ba_len] at hT3; omega
  have HT4 := Lib.hid hT4
  have HT1 := Lib.hid hT1
  clear hn' hTe hTl hT1 hT2 hT3 hT4
  go_wp2_with fail
  refine (CR.out (T ++ ⟨#[53]⟩) (P - (p : Int) - 1) _ (by rw [ByteArray.size_append]; show T.size + 1 ≤ _; omega) (dec_five HT1.out)).mono ?_
  rintro e w3 ⟨lo, rfl, NL, hn'⟩
  have hB := hB.trans (hn'.mono hB.size)
  clear hn'
  go_wp2_with fail
  refine (CR.out (S ++ ⟨#[53]⟩) (P - (p : Int) - 1) _ (by rw [ByteArray.size_append]; show S.size + 1 ≤ _; omega) (dec_five hD.out)).mono ?_
  rintro e w4 ⟨hi, rfl, NH, hn'⟩
  have hB := hB.trans (hn'.mono hB.size)
  clear hn'
  have hnh := NH.out
  rw [pv_five] at hnh
  have hle := hE.out.1 hi hnh
  have hord2 := ord_le hle hnh.top
  clear hnh hle
  rcases hord2 with h2 | h2
  all_goals
    go_wp2_with fail
    go_ret
    exact ⟨rfl, hB⟩
set_option maxRecDepth 100000 in
set_option maxHeartbeats 2000000 in
theorem decShort_inf (n p : Nat) (k : Int) (w : World) (hn : n < 18446744073709551616) (h : 9218868437227405312 ≤ mag n) (hk : min (max k 0) 40 = (p : Int)) :
    Calls Tryd.prog 5 #[.int .u64 (n : Int), .int .i64 k] w fun e w' => e = .returned (.bool true) ∧ Below w.heap.size w w' := by
  have hmb := mag_bits n hn
  have hXb : mag n < 9223372036854775808 := Nat.mod_lt _ (by omega)
  obtain ⟨X, hX⟩ : ∃ X, mag n = X := ⟨_, rfl⟩
  rw [hX] at h hmb hXb
  have hmX : mag X = X := Nat.mod_eq_of_lt (by omega)
  have hf := fun W => run_f64from X W
  have CF := Lib.hid (lfixed_any w)
  have CB := Lib.hid (fun W => sci_inf X p W (by omega) (by omega))
  rcases Nat.lt_or_ge 9218868437227405312 X with hgt | hle
  · have hord : FloatKind.f64.format.order X 9218868437227405311 = none := by
      show Ieee.double.order X 9218868437227405311 = none
      unfold Ieee.Format.order
      rw [read_nan (b := X) (by omega)]
      rfl
    clear hX hmX h
    go_enter Tryd.func5, Tryd.ntmps5
    go_wp2_with fail
    refine CF.out.mono ?_
    rintro e w0 ⟨rfl, hB⟩
    go_wp2_with fail
    refine (CB.out _).mono ?_
    rintro e w1 ⟨rfl, hn'⟩
    have hB := hB.trans (hn'.mono hB.size)
    clear hn'
    go_wp2_with fail
    go_ret
    exact ⟨rfl, hB⟩
  · have hord : FloatKind.f64.format.order X 9218868437227405311 = some .gt := by
      obtain rfl : X = 9218868437227405312 := by omega
      decide
    clear hX hmX h
    go_enter Tryd.func5, Tryd.ntmps5
    go_wp2_with fail
    refine CF.out.mono ?_
    rintro e w0 ⟨rfl, hB⟩
    go_wp2_with fail
    refine (CB.out _).mono ?_
    rintro e w1 ⟨rfl, hn'⟩
    have hB := hB.trans (hn'.mono hB.size)
    clear hn'
    go_wp2_with fail
    go_ret
    exact ⟨rfl, hB⟩
theorem decShort_int (n k : Int) (w : World) (h0 : 0 ≤ n) (h1 : n ≤ 18446744073709551615) :
    Calls Tryd.prog 5 #[.int .u64 n, .int .i64 k] w fun e w' => e = .returned (.bool true) ∧ Below w.heap.size w w' := by
  obtain ⟨a, rfl⟩ : ∃ a : Nat, n = (a : Int) := ⟨n.toNat, by omega⟩
  obtain ⟨p, hp⟩ : ∃ p : Nat, min (max k 0) 40 = (p : Int) := ⟨(min (max k 0) 40).toNat, by omega⟩
  rcases Nat.lt_or_ge (mag a) 9218868437227405312 with h | h
  · rcases Nat.eq_zero_or_pos (mag a) with h2 | h2
    · exact decShort_zero a p k w (by omega) h h2 hp
    · exact decShort_pos a p k w (by omega) h h2 hp
  · exact decShort_inf a p k w (by omega) h hp
end Go.Proofs.YtkjdmjglpbnmoaaDoor
