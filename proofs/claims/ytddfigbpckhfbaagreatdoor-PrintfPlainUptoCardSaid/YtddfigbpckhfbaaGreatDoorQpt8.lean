/- Several texts in one (Contracts of layer 5: fixed, sci, general; Contracts of layer 5: general, Signbit, pointed; Contracts of layer 5: Signbit, and the pieces of a number with a point (pointed); Contracts of layer 5: a part of a format (part, Parse)). -/
import Derived.Deep.RegionWith
import Derived.Deep.QuietTactic
import Derived.BigQuiet
import Derived.Deep.RegionHeld3
import Derived.Deep.DeepCutAuto
import Derived.Test.YtddfigbpckhfbaaGreatDoorQpt7
namespace Go.Proofs.YtddfigbpckhfbaaGreatDoor
open Go.RowKit Go.Lib

theorem fixT_len (d : List UInt8) (q : Nat) : (fixT d q).length ≤ d.length + q + 2 := by
  unfold fixT padT
  split
  · omega
  · rw [List.length_append, List.length_cons, List.length_take, List.length_drop, List.length_append, List.length_replicate]
    omega
theorem fixP_len {r q : Nat} (h : r < 9218868437227405312) (hq : q ≤ 200) (full : Bool) : (fixP r q full).length ≤ 3000 := by
  have hN := amN_room h
  have h10 : 10 ^ q < B32 ^ 26 := ten_lt _ _ (by omega)
  have hNT : amN r * 10 ^ q < B32 ^ 59 := prod_room hN h10 (by omega)
  have hr : rnd (amN r * 10 ^ q) (amD r) < B32 ^ 60 := by
    have h1 := rnd_le (amN r * 10 ^ q) (amD r)
    have h2 := Nat.div_le_self (amN r * 10 ^ q) (amD r)
    have h3 : B32 ^ 59 * 2 ≤ B32 ^ 60 := by rw [Nat.pow_succ]; exact Nat.mul_le_mul_left _ (by decide)
    omega
  have hl := (decs_room hr (by omega)).2
  have hf := fixT_len (decs (rnd (amN r * 10 ^ q) (amD r))) q
  unfold fixP
  rw [List.length_append]
  have : (if q = 0 ∧ full = true then [46] else ([] : List UInt8)).length ≤ 1 := by split <;> simp
  omega
theorem ptT_len (d : List UInt8) (q : Bool) : (ptT d q).length ≤ d.length + 1 := by
  unfold ptT
  split
  · rw [List.length_append, List.length_cons, List.length_take, List.length_drop]
    omega
  · omega
theorem trimR_len (l : List UInt8) (x : UInt8) : (Lib.trimRightB l x).length ≤ l.length := by
  obtain ⟨k, hk⟩ := trim_split l x
  have := congrArg List.length hk
  rw [List.length_append] at this
  omega

set_option maxRecDepth 100000 in
set_option maxHeartbeats 2000000 in
theorem ffix_any (x q : Nat) (full : Bool) (w : World) (hb : x < 18446744073709551616) (h : mag x < 9218868437227405312) (hq : q ≤ 200) : Calls Tryz.prog 222 #[.float .f64 x, .int .i64 q, .bool full] w fun e w' => e = .returned (.string ⟨(fixP (mag x) q full).toArray⟩) ∧ Below w.heap.size w w' := by
  have cF := fixed_yes x q w hb h hq
  unfold fixP
  obtain ⟨l, hl⟩ : ∃ l, fixT (decs (rnd (amN (mag x) * 10 ^ q) (amD (mag x)))) q = l := ⟨_, rfl⟩
  have hll : l.length ≤ 3000 := by
    have := fixP_len h hq false
    unfold fixP at this
    rw [hl, if_neg (fun h => by cases h.2), List.append_nil] at this
    exact this
  rw [hl] at cF ⊢
  have e1 := ba_cat ⟨l.toArray⟩ [46]
  obtain ⟨S, hS⟩ : ∃ S : ByteArray, (⟨l.toArray⟩ : ByteArray) = S := ⟨_, rfl⟩
  have HS := Lib.hid hS
  rw [hS] at cF e1
  have hSl : S.data.toList = l := by rw [← hS]
  rw [hSl] at e1
  have hSs : S.size ≤ 3000 := by rw [← ba_len, hSl]; exact hll
  have CF := Lib.hid cF
  have E1 := Lib.hid e1
  clear cF e1 hl hS hSl h hll
  obtain ⟨X, hX⟩ : ∃ X, l ++ (if q = 0 ∧ full = true then [46] else []) = X := ⟨_, rfl⟩
  rw [hX]
  have HX := Lib.hid hX
  clear hX
  by_cases h0 : q = 0
  · have hq0 : ((q : Int) == 0) = true := by rw [beq_iff_eq]; omega
    have HQ := Lib.hid h0
    clear h0
    cases full with
    | true =>
      go_enter Tryz.func222, Tryz.ntmps222
      go_wp2_with fail
      refine CF.out.mono ?_
      rintro e w' ⟨rfl, hB⟩
      go_wp2_with fail
      go_ret
      exact ⟨by show Ending.returned (.string (S ++ ⟨#[46]⟩)) = _; rw [E1.out, ← HX.out, if_pos ⟨HQ.out, by first | rfl | trivial⟩], hB⟩
    | false =>
      go_enter Tryz.func222, Tryz.ntmps222
      go_wp2_with fail
      refine CF.out.mono ?_
      rintro e w' ⟨rfl, hB⟩
      go_wp2_with fail
      go_ret
      exact ⟨by show Ending.returned (.string S) = _; rw [← HS.out, ← HX.out, if_neg (by first | (exact fun h => Bool.noConfusion h.2) | (exact fun h => h.2)), List.append_nil], hB⟩
  · have hq0 : ((q : Int) == 0) = false := by rw [beq_eq_false_iff_ne]; omega
    have HQ := Lib.hid h0
    clear h0
    go_enter Tryz.func222, Tryz.ntmps222
    go_wp2_with fail
    refine CF.out.mono ?_
    rintro e w' ⟨rfl, hB⟩
    go_wp2_with fail
    go_ret
    exact ⟨by show Ending.returned (.string S) = _; rw [← HS.out, ← HX.out, if_neg (fun h => HQ.out h.1), List.append_nil], hB⟩
/-- Sci's answer, told by one name. -/
theorem sci_gen (x p : Nat) (w : World) (hb : x < 18446744073709551616) (h : mag x < 9218868437227405312) (hp : p ≤ 200) : Calls Tryz.prog 251 #[.float .f64 x, .int .i64 p] w fun e w' => e = .returned (.tuple #[.string ⟨(sciX (mag x) p).1.toArray⟩, .int .i64 (sciX (mag x) p).2, .int .i64 0]) ∧ Below w.heap.size w w' := by
  rcases Nat.eq_zero_or_pos (mag x) with h0 | h0
  · rw [h0, sciX_zero]
    exact sci_zero x p w hb h0 hp
  · refine (sci_yes x p w hb h0 h hp).mono ?_
    rintro e w' ⟨⟨P, M, ok, rfl⟩, hB⟩
    rw [sciX_of ok]
    exact ⟨rfl, hB⟩
theorem ext_point {S : ByteArray} {l : List UInt8} (h : S.data.toList = l) (_hs : 1 ≤ S.size) : S.extract 0 1 ++ ⟨#[46]⟩ ++ S.extract 1 S.size = ⟨(l.take 1 ++ 46 :: l.drop 1).toArray⟩ := by
  apply ByteArray.ext
  apply Array.toList_inj.1
  rw [ByteArray.data_append, ByteArray.data_append, Array.toList_append, Array.toList_append, ← h]
  have e1 : (S.extract 0 1).data.toList = S.data.toList.take 1 := by
    rw [ByteArray.data_extract, Array.toList_extract]
    simp [List.extract]
  have e2 : (S.extract 1 S.size).data.toList = S.data.toList.drop 1 := by
    rw [ByteArray.data_extract, Array.toList_extract]
    simp only [List.extract]
    rw [List.take_of_length_le]
    rw [List.length_drop, ba_len]
    omega
  rw [e1, e2]
  simp
set_option maxRecDepth 100000 in
set_option maxHeartbeats 4000000 in
theorem fsci_any (x p : Nat) (full : Bool) (w : World) (hb : x < 18446744073709551616) (h : mag x < 9218868437227405312) (hp : p ≤ 200) (hT : PowTab w) : Calls Tryz.prog 223 #[.float .f64 x, .int .i64 p, .bool full] w fun e w' => e = .returned (.tuple #[.string ⟨(ptT (sciX (mag x) p).1 (decide (0 < p) || full)).toArray⟩, .string ⟨(expT (sciX (mag x) p).2).toArray⟩]) ∧ Below w.heap.size w w' := by
  have cS := sci_gen x p w hb h hp
  obtain ⟨hl, hd, b0, b1⟩ := sciX_facts w h hp
  obtain ⟨l, hle⟩ : ∃ l, (sciX (mag x) p).1 = l := ⟨_, rfl⟩
  obtain ⟨P, hPe⟩ : ∃ P, (sciX (mag x) p).2 = P := ⟨_, rfl⟩
  rw [hle, hPe] at cS
  rw [hle] at hl hd
  rw [hPe] at b0 b1
  rw [hle, hPe]
  obtain ⟨S, hS⟩ : ∃ S : ByteArray, (⟨l.toArray⟩ : ByteArray) = S := ⟨_, rfl⟩
  have hSl : S.data.toList = l := by rw [← hS]
  have hSs : S.size = p + 1 := by rw [← ba_len, hSl, hl]
  have hs1 : (1 : Int) ≤ (S.size : Int) := by omega
  rw [hS] at cS
  have e1 := ext_point hSl (by omega)
  rw [hSs] at e1
  obtain ⟨n, hn⟩ : ∃ n, P.natAbs = n := ⟨_, rfl⟩
  have hn4 : n ≤ 400 := by omega
  have cI := fun (W : World) (hW : PowTab W) => Tryz.strconv_Itoa (n : Int) (by omega) (by omega) W hW
  have hit : Lib.itoa (n : Int) = decs n := by
    unfold Lib.itoa
    rw [if_neg (by omega), decD, Int.toNat_natCast]
  rw [hit] at cI
  unfold ptT expT
  rw [hn]
  have HS := Lib.hid hS
  have CS := Lib.hid cS
  have CI := Lib.hid cI
  have E1 := Lib.hid e1
  have HT := Lib.hid (Lib.tabBelow_of_tabIs hT)
  have HSL := Lib.hid hSl
  have HN := Lib.hid hn
  clear cS cI e1 hS hSl hle hPe hl hd hit h hb hT hn
  have hw : wrap64 (n : Int) = (n : Int) := by unfold wrap64; omega
  have fin : ∀ (D M : ByteArray), (D.data.toList = if (decide (0 < p) || full) = true then l.take 1 ++ 46 :: l.drop 1 else l) → M.data.toList = (if P < 0 then [101, 45] else [101, 43]) ++ ((if n < 10 then [48] else []) ++ decs n) →
      Ending.returned (.tuple #[.string D, .string M]) = Ending.returned (.tuple #[.string ⟨(if (decide (0 < p) || full) = true then l.take 1 ++ 46 :: l.drop 1 else l).toArray⟩, .string ⟨((if P < 0 then [101, 45] else [101, 43]) ++ ((if n < 10 then [48] else []) ++ decs n)).toArray⟩]) := fun D M h1 h2 => by
    rw [← h1, ← h2]
  obtain ⟨X, hX⟩ : ∃ X, (if (decide (0 < p) || full) = true then l.take 1 ++ 46 :: l.drop 1 else l) = X := ⟨_, rfl⟩
  obtain ⟨Z, hZ⟩ : ∃ Z, (if P < 0 then [101, 45] else [101, 43]) ++ ((if n < 10 then [48] else []) ++ decs n) = Z := ⟨_, rfl⟩
  rw [hX, hZ] at fin ⊢
  have HX := Lib.hid hX
  have HZ := Lib.hid hZ
  have FIN := Lib.hid fin
  clear fin hX hZ
  obtain ⟨Q, hQ⟩ : ∃ Q : ByteArray, (⟨(decs n).toArray⟩ : ByteArray) = Q := ⟨_, rfl⟩
  have HQ := Lib.hid (show Q.data.toList = decs n by rw [← hQ])
  have hQs : Q.size ≤ 3 := by rw [← ba_len, HQ.out]; exact (decs_le (by omega)).2 (by omega)
  have CI := CI.out
  rw [hQ] at CI
  have CI := Lib.hid CI
  clear hQ
  have hcase : (0 < p ∨ (p = 0 ∧ full = true)) ∨ (p = 0 ∧ full = false) := by
    rcases Nat.eq_zero_or_pos p with h | h
    · cases full
      · exact Or.inr ⟨h, rfl⟩
      · exact Or.inl (Or.inr ⟨h, rfl⟩)
    · exact Or.inl (Or.inl h)
  rcases hcase with (h0 | ⟨h0, rfl⟩) | ⟨h0, rfl⟩
  · have hpp : (0 : Int) < (p : Int) := by omega
    have H0 := Lib.hid h0
    clear h0
    by_cases hP : P < 0
    · obtain rfl : P = -(n : Int) := by have := HN.out; omega
      have HP := Lib.hid hP
      by_cases h10 : n < 10
      · have h10z : (n : Int) < 10 := by omega
        have H10 := Lib.hid h10
        clear h10
        go_enter Tryz.func223, Tryz.ntmps223
        go_wp2_with fail
        refine CS.out.mono ?_
        rintro e w1 ⟨rfl, hB⟩
        go_wp2_with fail
        go_quiet (fail)
        have hB := below_drewN hB nq
        go_wp2_with fail
        refine (CI.out _ (HT.out _ hB)).mono ?_
        obtain ⟨w3, hw3⟩ : ∃ w3, w1.drewN nq = w3 := ⟨_, rfl⟩
        rw [hw3] at hB ⊢
        rintro e w2 ⟨rfl, k, os, hw2⟩
        have hB2 : Below w.heap.size w w2 := hB.trans ((by rw [hw2]; exact Lib.below_grow w3.heap.size w3 (Nat.le_refl _) k os : Below w3.heap.size w3 w2).mono hB.size)
        clear hw2
        go_wp2_with fail
        go_ret2
        exact ⟨FIN.out _ _ (by rw [E1.out, ← HX.out, if_pos (by simp [H0.out])]) (by rw [← HZ.out, if_pos (by have := HP.out; omega), if_pos (by have := H10.out; omega)]; simp only [ByteArray.data_append, Array.toList_append, HQ.out]; rfl), hB2⟩
      · have h10z : ¬ (n : Int) < 10 := by omega
        have H10 := Lib.hid h10
        clear h10
        go_enter Tryz.func223, Tryz.ntmps223
        go_wp2_with fail
        refine CS.out.mono ?_
        rintro e w1 ⟨rfl, hB⟩
        go_wp2_with fail
        go_quiet (fail)
        have hB := below_drewN hB nq
        go_wp2_with fail
        refine (CI.out _ (HT.out _ hB)).mono ?_
        obtain ⟨w3, hw3⟩ : ∃ w3, w1.drewN nq = w3 := ⟨_, rfl⟩
        rw [hw3] at hB ⊢
        rintro e w2 ⟨rfl, k, os, hw2⟩
        have hB2 : Below w.heap.size w w2 := hB.trans ((by rw [hw2]; exact Lib.below_grow w3.heap.size w3 (Nat.le_refl _) k os : Below w3.heap.size w3 w2).mono hB.size)
        clear hw2
        go_wp2_with fail
        go_ret2
        exact ⟨FIN.out _ _ (by rw [E1.out, ← HX.out, if_pos (by simp [H0.out])]) (by rw [← HZ.out, if_pos (by have := HP.out; omega), if_neg (by have := H10.out; omega)]; simp only [ByteArray.data_append, Array.toList_append, HQ.out]; rfl), hB2⟩
    · obtain rfl : P = (n : Int) := by have := HN.out; omega
      have HP := Lib.hid hP
      by_cases h10 : n < 10
      · have h10z : (n : Int) < 10 := by omega
        have H10 := Lib.hid h10
        clear h10
        go_enter Tryz.func223, Tryz.ntmps223
        go_wp2_with fail
        refine CS.out.mono ?_
        rintro e w1 ⟨rfl, hB⟩
        go_wp2_with fail
        go_quiet (fail)
        have hB := below_drewN hB nq
        go_wp2_with fail
        refine (CI.out _ (HT.out _ hB)).mono ?_
        obtain ⟨w3, hw3⟩ : ∃ w3, w1.drewN nq = w3 := ⟨_, rfl⟩
        rw [hw3] at hB ⊢
        rintro e w2 ⟨rfl, k, os, hw2⟩
        have hB2 : Below w.heap.size w w2 := hB.trans ((by rw [hw2]; exact Lib.below_grow w3.heap.size w3 (Nat.le_refl _) k os : Below w3.heap.size w3 w2).mono hB.size)
        clear hw2
        go_wp2_with fail
        go_ret2
        exact ⟨FIN.out _ _ (by rw [E1.out, ← HX.out, if_pos (by simp [H0.out])]) (by rw [← HZ.out, if_neg (show ¬ (n : Int) < 0 by omega), if_pos (by have := H10.out; omega)]; simp only [ByteArray.data_append, Array.toList_append, HQ.out]; rfl), hB2⟩
      · have h10z : ¬ (n : Int) < 10 := by omega
        have H10 := Lib.hid h10
        clear h10
        go_enter Tryz.func223, Tryz.ntmps223
        go_wp2_with fail
        refine CS.out.mono ?_
        rintro e w1 ⟨rfl, hB⟩
        go_wp2_with fail
        go_quiet (fail)
        have hB := below_drewN hB nq
        go_wp2_with fail
        refine (CI.out _ (HT.out _ hB)).mono ?_
        obtain ⟨w3, hw3⟩ : ∃ w3, w1.drewN nq = w3 := ⟨_, rfl⟩
        rw [hw3] at hB ⊢
        rintro e w2 ⟨rfl, k, os, hw2⟩
        have hB2 : Below w.heap.size w w2 := hB.trans ((by rw [hw2]; exact Lib.below_grow w3.heap.size w3 (Nat.le_refl _) k os : Below w3.heap.size w3 w2).mono hB.size)
        clear hw2
        go_wp2_with fail
        go_ret2
        exact ⟨FIN.out _ _ (by rw [E1.out, ← HX.out, if_pos (by simp [H0.out])]) (by rw [← HZ.out, if_neg (show ¬ (n : Int) < 0 by omega), if_neg (by have := H10.out; omega)]; simp only [ByteArray.data_append, Array.toList_append, HQ.out]; rfl), hB2⟩
  · have hpp : ¬ (0 : Int) < (p : Int) := by omega
    have H0 := Lib.hid h0
    clear h0
    have E1b := Lib.hid (show S.extract 0 1 ++ ⟨#[46]⟩ = ⟨(l.take 1 ++ 46 :: l.drop 1).toArray⟩ by have h := E1.out; rw [H0.out] at h; simpa using h)
    by_cases hP : P < 0
    · obtain rfl : P = -(n : Int) := by have := HN.out; omega
      have HP := Lib.hid hP
      by_cases h10 : n < 10
      · have h10z : (n : Int) < 10 := by omega
        have H10 := Lib.hid h10
        clear h10
        go_enter Tryz.func223, Tryz.ntmps223
        go_wp2_with fail
        refine CS.out.mono ?_
        rintro e w1 ⟨rfl, hB⟩
        go_wp2_with fail
        go_quiet (fail)
        have hB := below_drewN hB nq
        go_wp2_with fail
        refine (CI.out _ (HT.out _ hB)).mono ?_
        obtain ⟨w3, hw3⟩ : ∃ w3, w1.drewN nq = w3 := ⟨_, rfl⟩
        rw [hw3] at hB ⊢
        rintro e w2 ⟨rfl, k, os, hw2⟩
        have hB2 : Below w.heap.size w w2 := hB.trans ((by rw [hw2]; exact Lib.below_grow w3.heap.size w3 (Nat.le_refl _) k os : Below w3.heap.size w3 w2).mono hB.size)
        clear hw2
        go_wp2_with fail
        go_ret2
        exact ⟨FIN.out _ _ (by rw [E1b.out, ← HX.out, if_pos (by simp [H0.out])]) (by rw [← HZ.out, if_pos (by have := HP.out; omega), if_pos (by have := H10.out; omega)]; simp only [ByteArray.data_append, Array.toList_append, HQ.out]; rfl), hB2⟩
      · have h10z : ¬ (n : Int) < 10 := by omega
        have H10 := Lib.hid h10
        clear h10
        go_enter Tryz.func223, Tryz.ntmps223
        go_wp2_with fail
        refine CS.out.mono ?_
        rintro e w1 ⟨rfl, hB⟩
        go_wp2_with fail
        go_quiet (fail)
        have hB := below_drewN hB nq
        go_wp2_with fail
        refine (CI.out _ (HT.out _ hB)).mono ?_
        obtain ⟨w3, hw3⟩ : ∃ w3, w1.drewN nq = w3 := ⟨_, rfl⟩
        rw [hw3] at hB ⊢
        rintro e w2 ⟨rfl, k, os, hw2⟩
        have hB2 : Below w.heap.size w w2 := hB.trans ((by rw [hw2]; exact Lib.below_grow w3.heap.size w3 (Nat.le_refl _) k os : Below w3.heap.size w3 w2).mono hB.size)
        clear hw2
        go_wp2_with fail
        go_ret2
        exact ⟨FIN.out _ _ (by rw [E1b.out, ← HX.out, if_pos (by simp [H0.out])]) (by rw [← HZ.out, if_pos (by have := HP.out; omega), if_neg (by have := H10.out; omega)]; simp only [ByteArray.data_append, Array.toList_append, HQ.out]; rfl), hB2⟩
    · obtain rfl : P = (n : Int) := by have := HN.out; omega
      have HP := Lib.hid hP
      by_cases h10 : n < 10
      · have h10z : (n : Int) < 10 := by omega
        have H10 := Lib.hid h10
        clear h10
        go_enter Tryz.func223, Tryz.ntmps223
        go_wp2_with fail
        refine CS.out.mono ?_
        rintro e w1 ⟨rfl, hB⟩
        go_wp2_with fail
        go_quiet (fail)
        have hB := below_drewN hB nq
        go_wp2_with fail
        refine (CI.out _ (HT.out _ hB)).mono ?_
        obtain ⟨w3, hw3⟩ : ∃ w3, w1.drewN nq = w3 := ⟨_, rfl⟩
        rw [hw3] at hB ⊢
        rintro e w2 ⟨rfl, k, os, hw2⟩
        have hB2 : Below w.heap.size w w2 := hB.trans ((by rw [hw2]; exact Lib.below_grow w3.heap.size w3 (Nat.le_refl _) k os : Below w3.heap.size w3 w2).mono hB.size)
        clear hw2
        go_wp2_with fail
        go_ret2
        exact ⟨FIN.out _ _ (by rw [E1b.out, ← HX.out, if_pos (by simp [H0.out])]) (by rw [← HZ.out, if_neg (show ¬ (n : Int) < 0 by omega), if_pos (by have := H10.out; omega)]; simp only [ByteArray.data_append, Array.toList_append, HQ.out]; rfl), hB2⟩
      · have h10z : ¬ (n : Int) < 10 := by omega
        have H10 := Lib.hid h10
        clear h10
        go_enter Tryz.func223, Tryz.ntmps223
        go_wp2_with fail
        refine CS.out.mono ?_
        rintro e w1 ⟨rfl, hB⟩
        go_wp2_with fail
        go_quiet (fail)
        have hB := below_drewN hB nq
        go_wp2_with fail
        refine (CI.out _ (HT.out _ hB)).mono ?_
        obtain ⟨w3, hw3⟩ : ∃ w3, w1.drewN nq = w3 := ⟨_, rfl⟩
        rw [hw3] at hB ⊢
        rintro e w2 ⟨rfl, k, os, hw2⟩
        have hB2 : Below w.heap.size w w2 := hB.trans ((by rw [hw2]; exact Lib.below_grow w3.heap.size w3 (Nat.le_refl _) k os : Below w3.heap.size w3 w2).mono hB.size)
        clear hw2
        go_wp2_with fail
        go_ret2
        exact ⟨FIN.out _ _ (by rw [E1b.out, ← HX.out, if_pos (by simp [H0.out])]) (by rw [← HZ.out, if_neg (show ¬ (n : Int) < 0 by omega), if_neg (by have := H10.out; omega)]; simp only [ByteArray.data_append, Array.toList_append, HQ.out]; rfl), hB2⟩
  · have hpp : ¬ (0 : Int) < (p : Int) := by omega
    have H0 := Lib.hid h0
    clear h0
    by_cases hP : P < 0
    · obtain rfl : P = -(n : Int) := by have := HN.out; omega
      have HP := Lib.hid hP
      by_cases h10 : n < 10
      · have h10z : (n : Int) < 10 := by omega
        have H10 := Lib.hid h10
        clear h10
        go_enter Tryz.func223, Tryz.ntmps223
        go_wp2_with fail
        refine CS.out.mono ?_
        rintro e w1 ⟨rfl, hB⟩
        go_wp2_with fail
        refine (CI.out _ (HT.out _ hB)).mono ?_
        rintro e w2 ⟨rfl, k, os, hw2⟩
        have hB2 : Below w.heap.size w w2 := hB.trans ((by rw [hw2]; exact Lib.below_grow w1.heap.size w1 (Nat.le_refl _) k os : Below w1.heap.size w1 w2).mono hB.size)
        clear hw2
        go_wp2_with fail
        go_ret2
        exact ⟨FIN.out _ _ (by rw [HSL.out, ← HX.out, if_neg (by simp [H0.out])]) (by rw [← HZ.out, if_pos (by have := HP.out; omega), if_pos (by have := H10.out; omega)]; simp only [ByteArray.data_append, Array.toList_append, HQ.out]; rfl), hB2⟩
      · have h10z : ¬ (n : Int) < 10 := by omega
        have H10 := Lib.hid h10
        clear h10
        go_enter Tryz.func223, Tryz.ntmps223
        go_wp2_with fail
        refine CS.out.mono ?_
        rintro e w1 ⟨rfl, hB⟩
        go_wp2_with fail
        refine (CI.out _ (HT.out _ hB)).mono ?_
        rintro e w2 ⟨rfl, k, os, hw2⟩
        have hB2 : Below w.heap.size w w2 := hB.trans ((by rw [hw2]; exact Lib.below_grow w1.heap.size w1 (Nat.le_refl _) k os : Below w1.heap.size w1 w2).mono hB.size)
        clear hw2
        go_wp2_with fail
        go_ret2
        exact ⟨FIN.out _ _ (by rw [HSL.out, ← HX.out, if_neg (by simp [H0.out])]) (by rw [← HZ.out, if_pos (by have := HP.out; omega), if_neg (by have := H10.out; omega)]; simp only [ByteArray.data_append, Array.toList_append, HQ.out]; rfl), hB2⟩
    · obtain rfl : P = (n : Int) := by have := HN.out; omega
      have HP := Lib.hid hP
      by_cases h10 : n < 10
      · have h10z : (n : Int) < 10 := by omega
        have H10 := Lib.hid h10
        clear h10
        go_enter Tryz.func223, Tryz.ntmps223
        go_wp2_with fail
        refine CS.out.mono ?_
        rintro e w1 ⟨rfl, hB⟩
        go_wp2_with fail
        refine (CI.out _ (HT.out _ hB)).mono ?_
        rintro e w2 ⟨rfl, k, os, hw2⟩
        have hB2 : Below w.heap.size w w2 := hB.trans ((by rw [hw2]; exact Lib.below_grow w1.heap.size w1 (Nat.le_refl _) k os : Below w1.heap.size w1 w2).mono hB.size)
        clear hw2
        go_wp2_with fail
        go_ret2
        exact ⟨FIN.out _ _ (by rw [HSL.out, ← HX.out, if_neg (by simp [H0.out])]) (by rw [← HZ.out, if_neg (show ¬ (n : Int) < 0 by omega), if_pos (by have := H10.out; omega)]; simp only [ByteArray.data_append, Array.toList_append, HQ.out]; rfl), hB2⟩
      · have h10z : ¬ (n : Int) < 10 := by omega
        have H10 := Lib.hid h10
        clear h10
        go_enter Tryz.func223, Tryz.ntmps223
        go_wp2_with fail
        refine CS.out.mono ?_
        rintro e w1 ⟨rfl, hB⟩
        go_wp2_with fail
        refine (CI.out _ (HT.out _ hB)).mono ?_
        rintro e w2 ⟨rfl, k, os, hw2⟩
        have hB2 : Below w.heap.size w w2 := hB.trans ((by rw [hw2]; exact Lib.below_grow w1.heap.size w1 (Nat.le_refl _) k os : Below w1.heap.size w1 w2).mono hB.size)
        clear hw2
        go_wp2_with fail
        go_ret2
        exact ⟨FIN.out _ _ (by rw [HSL.out, ← HX.out, if_neg (by simp [H0.out])]) (by rw [← HZ.out, if_neg (show ¬ (n : Int) < 0 by omega), if_neg (by have := H10.out; omega)]; simp only [ByteArray.data_append, Array.toList_append, HQ.out]; rfl), hB2⟩
end Go.Proofs.YtddfigbpckhfbaaGreatDoor

namespace Go.Proofs.YtddfigbpckhfbaaGreatDoor
open Go.RowKit Go.Lib

theorem trimS_len (l m : List UInt8) : (Lib.trimSuffix l m).length ≤ l.length := by
  unfold Lib.trimSuffix
  split
  · rw [List.length_take]; omega
  · omega
theorem expT_len {P : Int} (h0 : -400 ≤ P) (h1 : P ≤ 400) : (expT P).length ≤ 10 := by
  unfold expT
  have h : (decs P.natAbs).length ≤ 3 := (decs_le (by omega)).2 (by omega)
  rw [List.length_append, List.length_append]
  have h2 : (if P < 0 then [101, 45] else [101, 43] : List UInt8).length = 2 := by split <;> rfl
  have h3 : (if P.natAbs < 10 then [48] else [] : List UInt8).length ≤ 1 := by split <;> simp
  omega
/-- What the walk of general wants to know of the text that it has laid (D) and of the mark behind it (M). -/
def GenEnd (w : World) (full : Bool) (D M : List UInt8) (e : Ending) (w' : World) : Prop := e = .returned (.string ⟨(trimG full D ++ M).toArray⟩) ∧ Below w.heap.size w w'
set_option maxRecDepth 100000 in
set_option maxHeartbeats 4000000 in
theorem gen_sci (x n c : Nat) (full : Bool) (l : List UInt8) (P : Int) (D M : List UInt8) (w : World) (hc : n + 1 = c) (hn : n ≤ 190) (_hT : PowTab w) (hD : D.length ≤ 10000) (hM : M.length ≤ 1000) (hP : (P < -4 ∨ (n : Int) + 1 ≤ P)) (b0 : -400 ≤ P) (b1 : P ≤ 400)
    (CS : Calls Tryz.prog 251 #[.float .f64 x, .int .i64 (n : Int)] w fun e w' => e = .returned (.tuple #[.string ⟨l.toArray⟩, .int .i64 P, .int .i64 0]) ∧ Below w.heap.size w w')
    (CC : ∀ W, PowTab W → Calls Tryz.prog 223 #[.float .f64 x, .int .i64 (n : Int), .bool full] W fun e w' => e = .returned (.tuple #[.string ⟨D.toArray⟩, .string ⟨M.toArray⟩]) ∧ Below W.heap.size W w') :
    Calls Tryz.prog 224 #[.float .f64 x, .int .i64 (c : Int), .bool full] w (GenEnd w full D M) := by
  have hw1 : wrap64 ((c : Int) - 1) = (n : Int) := by unfold wrap64; omega
  have hw0 : (c : Int) - 1 = (n : Int) := by omega
  have hc1 : (n : Int) + 1 = (c : Int) := by omega
  unfold GenEnd trimG
  obtain ⟨SD, hSD⟩ : ∃ SD : ByteArray, (⟨D.toArray⟩ : ByteArray) = SD := ⟨_, rfl⟩
  have hDl : SD.data.toList = D := by rw [← hSD]
  have hDs : SD.size ≤ 10000 := by rw [← ba_len, hDl]; exact hD
  obtain ⟨SM, hSM⟩ : ∃ SM : ByteArray, (⟨M.toArray⟩ : ByteArray) = SM := ⟨_, rfl⟩
  have hMl : SM.data.toList = M := by rw [← hSM]
  rw [hSD, hSM] at CC
  obtain ⟨SL, hSL⟩ : ∃ SL : ByteArray, (⟨l.toArray⟩ : ByteArray) = SL := ⟨_, rfl⟩
  rw [hSL] at CS
  have cI := fun W => Tryz.strings_Contains_one SD 46 W
  rw [hDl, idx_has] at cI
  have cR := fun W => Tryz.strings_TrimRight_one SD 48 (by decide) W (by omega)
  rw [hDl] at cR
  obtain ⟨SR, hSR⟩ : ∃ SR : ByteArray, (⟨(Lib.trimRightB D 48).toArray⟩ : ByteArray) = SR := ⟨_, rfl⟩
  have hRl : SR.data.toList = Lib.trimRightB D 48 := by rw [← hSR]
  have hRs : SR.size ≤ 10000 := by rw [← ba_len, hRl]; exact Nat.le_trans (trimR_len _ _) hD
  rw [hSR] at cR
  have cU := fun W => Tryz.strings_TrimSuffix SR ⟨#[46]⟩ W (by omega)
  rw [hRl] at cU
  replace cU : ∀ W : World, Calls Tryz.prog 254 #[.string SR, .string ⟨#[46]⟩] W fun e w' => e = .returned (.string ⟨(Lib.trimSuffix (Lib.trimRightB D 48) [46]).toArray⟩) ∧ w' = W := cU
  obtain ⟨U, hU⟩ : ∃ U, Lib.trimSuffix (Lib.trimRightB D 48) [46] = U := ⟨_, rfl⟩
  obtain ⟨SU, hSU⟩ : ∃ SU : ByteArray, (⟨U.toArray⟩ : ByteArray) = SU := ⟨_, rfl⟩
  have hUl : SU.data.toList = U := by rw [← hSU]
  rw [hU, hSU] at cU
  rw [hU]
  obtain ⟨v, hv⟩ : ∃ v, D.contains 46 = v := ⟨_, rfl⟩
  rw [hv] at cI ⊢
  have hUs : SU.size ≤ 10000 := by rw [← ba_len, hUl, ← hU]; exact Nat.le_trans (trimS_len _ _) (Nat.le_trans (trimR_len _ _) hD)
  obtain ⟨X, hX⟩ : ∃ X, (if full = false ∧ v = true then U else D) ++ M = X := ⟨_, rfl⟩
  rw [hX]
  have HX := Lib.hid hX
  clear hX
  have hMs : SM.size ≤ 1000 := by rw [← ba_len, hMl]; exact hM
  have e1 : SD ++ SM = ⟨(D ++ M).toArray⟩ := by rw [← hSM, ba_cat, hDl]
  have e2 : SU ++ SM = ⟨(U ++ M).toArray⟩ := by rw [← hSM, ba_cat, hUl]
  have E1 := Lib.hid e1
  have E2 := Lib.hid e2
  have CS := Lib.hid CS
  have CC := Lib.hid CC
  have CI := Lib.hid cI
  have CR := Lib.hid cR
  have CU := Lib.hid cU
  have HT := Lib.hid (Lib.tabBelow_of_tabIs _hT)
  clear cI cR cU e1 e2 hSD hDl hSL hSR hRl hRs hU hSU hUl hv hD _hT
  clear hSM hMl hM
  have hcase : P < -4 ∨ (-4 ≤ P ∧ (c : Int) ≤ P) := by omega
  clear hP
  rcases hcase with hP | ⟨hP0, hP1⟩
  all_goals
    cases full with
    | true =>
      go_enter Tryz.func224, Tryz.ntmps224
      go_wp2_with fail
      refine CS.out.mono ?_
      rintro e w1 ⟨rfl, hB⟩
      go_wp2_with fail
      refine (CC.out _ (HT.out _ hB)).mono ?_
      rintro e w2 ⟨rfl, hB2⟩
      have hB2 := hB.trans (hB2.mono hB.size)
      go_wp2_with fail
      go_ret
      exact ⟨by show Ending.returned (.string (SD ++ SM)) = _; rw [E1.out, ← HX.out, if_neg (by simp)], hB2⟩
    | false =>
      cases v with
      | true =>
        go_enter Tryz.func224, Tryz.ntmps224
        go_wp2_with fail
        refine CS.out.mono ?_
        rintro e w1 ⟨rfl, hB⟩
        go_wp2_with fail
        refine (CC.out _ (HT.out _ hB)).mono ?_
        rintro e w2 ⟨rfl, hB2⟩
        have hB2 := hB.trans (hB2.mono hB.size)
        go_wp2_with fail
        refine (CI.out _).mono ?_
        rintro e w3 ⟨rfl, rfl⟩
        go_wp2_with fail
        refine (CR.out _).mono ?_
        rintro e w4 ⟨rfl, rfl⟩
        go_wp2_with fail
        refine (CU.out _).mono ?_
        rintro e w5 ⟨rfl, rfl⟩
        go_wp2_with fail
        go_ret
        exact ⟨by show Ending.returned (.string (SU ++ SM)) = _; rw [E2.out, ← HX.out, if_pos (by simp)], hB2⟩
      | false =>
        go_enter Tryz.func224, Tryz.ntmps224
        go_wp2_with fail
        refine CS.out.mono ?_
        rintro e w1 ⟨rfl, hB⟩
        go_wp2_with fail
        refine (CC.out _ (HT.out _ hB)).mono ?_
        rintro e w2 ⟨rfl, hB2⟩
        have hB2 := hB.trans (hB2.mono hB.size)
        go_wp2_with fail
        refine (CI.out _).mono ?_
        rintro e w3 ⟨rfl, rfl⟩
        go_wp2_with fail
        go_ret
        exact ⟨by show Ending.returned (.string (SD ++ SM)) = _; rw [E1.out, ← HX.out, if_neg (by simp)], hB2⟩
set_option maxRecDepth 100000 in
set_option maxHeartbeats 4000000 in
theorem gen_fix (x n c : Nat) (full : Bool) (l : List UInt8) (P : Int) (D : List UInt8) (w : World) (hc : n + 1 = c) (hn : n ≤ 190) (_hT : PowTab w) (hD : D.length ≤ 10000) (hP0 : -4 ≤ P) (hP1 : P ≤ (n : Int)) (_b0 : -400 ≤ P) (b1 : P ≤ 400)
    (CS : Calls Tryz.prog 251 #[.float .f64 x, .int .i64 (n : Int)] w fun e w' => e = .returned (.tuple #[.string ⟨l.toArray⟩, .int .i64 P, .int .i64 0]) ∧ Below w.heap.size w w')
    (CC : ∀ W, Calls Tryz.prog 222 #[.float .f64 x, .int .i64 ((n : Int) - P), .bool full] W fun e w' => e = .returned (.string ⟨D.toArray⟩) ∧ Below W.heap.size W w') :
    Calls Tryz.prog 224 #[.float .f64 x, .int .i64 (c : Int), .bool full] w (GenEnd w full D []) := by
  have hw1 : wrap64 ((c : Int) - 1) = (n : Int) := by unfold wrap64; omega
  have hw0 : (c : Int) - 1 = (n : Int) := by omega
  have hc1 : (n : Int) + 1 = (c : Int) := by omega
  unfold GenEnd trimG
  obtain ⟨SD, hSD⟩ : ∃ SD : ByteArray, (⟨D.toArray⟩ : ByteArray) = SD := ⟨_, rfl⟩
  have hDl : SD.data.toList = D := by rw [← hSD]
  have hDs : SD.size ≤ 10000 := by rw [← ba_len, hDl]; exact hD
  rw [hSD] at CC
  obtain ⟨SL, hSL⟩ : ∃ SL : ByteArray, (⟨l.toArray⟩ : ByteArray) = SL := ⟨_, rfl⟩
  rw [hSL] at CS
  have cI := fun W => Tryz.strings_Contains_one SD 46 W
  rw [hDl, idx_has] at cI
  have cR := fun W => Tryz.strings_TrimRight_one SD 48 (by decide) W (by omega)
  rw [hDl] at cR
  obtain ⟨SR, hSR⟩ : ∃ SR : ByteArray, (⟨(Lib.trimRightB D 48).toArray⟩ : ByteArray) = SR := ⟨_, rfl⟩
  have hRl : SR.data.toList = Lib.trimRightB D 48 := by rw [← hSR]
  have hRs : SR.size ≤ 10000 := by rw [← ba_len, hRl]; exact Nat.le_trans (trimR_len _ _) hD
  rw [hSR] at cR
  have cU := fun W => Tryz.strings_TrimSuffix SR ⟨#[46]⟩ W (by omega)
  rw [hRl] at cU
  replace cU : ∀ W : World, Calls Tryz.prog 254 #[.string SR, .string ⟨#[46]⟩] W fun e w' => e = .returned (.string ⟨(Lib.trimSuffix (Lib.trimRightB D 48) [46]).toArray⟩) ∧ w' = W := cU
  obtain ⟨U, hU⟩ : ∃ U, Lib.trimSuffix (Lib.trimRightB D 48) [46] = U := ⟨_, rfl⟩
  obtain ⟨SU, hSU⟩ : ∃ SU : ByteArray, (⟨U.toArray⟩ : ByteArray) = SU := ⟨_, rfl⟩
  have hUl : SU.data.toList = U := by rw [← hSU]
  rw [hU, hSU] at cU
  rw [hU]
  obtain ⟨v, hv⟩ : ∃ v, D.contains 46 = v := ⟨_, rfl⟩
  rw [hv] at cI ⊢
  have hUs : SU.size ≤ 10000 := by rw [← ba_len, hUl, ← hU]; exact Nat.le_trans (trimS_len _ _) (Nat.le_trans (trimR_len _ _) hD)
  obtain ⟨X, hX⟩ : ∃ X, (if full = false ∧ v = true then U else D) ++ [] = X := ⟨_, rfl⟩
  rw [hX]
  have HX := Lib.hid hX
  clear hX
  have e1 : SD ++ ⟨#[]⟩ = ⟨(D ++ []).toArray⟩ := by rw [show (⟨#[]⟩ : ByteArray) = ⟨([] : List UInt8).toArray⟩ from rfl, ba_cat, hDl]
  have e2 : SU ++ ⟨#[]⟩ = ⟨(U ++ []).toArray⟩ := by rw [show (⟨#[]⟩ : ByteArray) = ⟨([] : List UInt8).toArray⟩ from rfl, ba_cat, hUl]
  have E1 := Lib.hid e1
  have E2 := Lib.hid e2
  have CS := Lib.hid CS
  have CC := Lib.hid CC
  have CI := Lib.hid cI
  have CR := Lib.hid cR
  have CU := Lib.hid cU
  have HT := Lib.hid (Lib.tabBelow_of_tabIs _hT)
  clear cI cR cU e1 e2 hSD hDl hSL hSR hRl hRs hU hSU hUl hv hD _hT
  have hq : ¬ P < -4 := by omega
  have hq2 : ¬ (c : Int) ≤ P := by omega
  have hq3 : P < (c : Int) := by omega
  have hw2 : wrap64 ((n : Int) - P) = (n : Int) - P := by unfold wrap64; omega
  cases full with
  | true =>
    go_enter Tryz.func224, Tryz.ntmps224
    go_wp2_with fail
    refine CS.out.mono ?_
    rintro e w1 ⟨rfl, hB⟩
    go_wp2_with fail
    refine (CC.out _).mono ?_
    rintro e w2 ⟨rfl, hB2⟩
    have hB2 := hB.trans (hB2.mono hB.size)
    go_wp2_with fail
    go_ret
    exact ⟨by show Ending.returned (.string (SD ++ ⟨#[]⟩)) = _; rw [E1.out, ← HX.out, if_neg (by simp)], hB2⟩
  | false =>
    cases v with
    | true =>
      go_enter Tryz.func224, Tryz.ntmps224
      go_wp2_with fail
      refine CS.out.mono ?_
      rintro e w1 ⟨rfl, hB⟩
      go_wp2_with fail
      refine (CC.out _).mono ?_
      rintro e w2 ⟨rfl, hB2⟩
      have hB2 := hB.trans (hB2.mono hB.size)
      go_wp2_with fail
      refine (CI.out _).mono ?_
      rintro e w3 ⟨rfl, rfl⟩
      go_wp2_with fail
      refine (CR.out _).mono ?_
      rintro e w4 ⟨rfl, rfl⟩
      go_wp2_with fail
      refine (CU.out _).mono ?_
      rintro e w5 ⟨rfl, rfl⟩
      go_wp2_with fail
      go_ret
      exact ⟨by show Ending.returned (.string (SU ++ ⟨#[]⟩)) = _; rw [E2.out, ← HX.out, if_pos (by simp)], hB2⟩
    | false =>
      go_enter Tryz.func224, Tryz.ntmps224
      go_wp2_with fail
      refine CS.out.mono ?_
      rintro e w1 ⟨rfl, hB⟩
      go_wp2_with fail
      refine (CC.out _).mono ?_
      rintro e w2 ⟨rfl, hB2⟩
      have hB2 := hB.trans (hB2.mono hB.size)
      go_wp2_with fail
      refine (CI.out _).mono ?_
      rintro e w3 ⟨rfl, rfl⟩
      go_wp2_with fail
      go_ret
      exact ⟨by show Ending.returned (.string (SD ++ ⟨#[]⟩)) = _; rw [E1.out, ← HX.out, if_neg (by simp)], hB2⟩
theorem gen_any (x n c : Nat) (full : Bool) (w : World) (hb : x < 18446744073709551616) (h : mag x < 9218868437227405312) (hc : n + 1 = c) (hn : n ≤ 190) (hT : PowTab w) : Calls Tryz.prog 224 #[.float .f64 x, .int .i64 (c : Int), .bool full] w fun e w' => e = .returned (.string ⟨(genT (mag x) n full).toArray⟩) ∧ Below w.heap.size w w' := by
  have cS := sci_gen x n w hb h (by omega)
  obtain ⟨hl, -, b0, b1⟩ := sciX_facts w h (show n ≤ 200 by omega)
  by_cases hP : (sciX (mag x) n).2 < -4 ∨ (n : Int) + 1 ≤ (sciX (mag x) n).2
  · have h1 := gen_sci x n c full _ _ _ (expT (sciX (mag x) n).2) w hc hn hT (Nat.le_trans (ptT_len _ (decide (0 < n) || full)) (by rw [hl]; omega)) (Nat.le_trans (expT_len b0 b1) (by omega)) hP b0 b1 cS (fun W hW => fsci_any x n full W hb h (by omega) hW)
    refine h1.mono ?_
    rintro e w' ⟨rfl, hB⟩
    refine ⟨?_, hB⟩
    unfold genT
    rw [if_pos hP]
  · have hq : (n : Int) - (sciX (mag x) n).2 = ((((n : Int) - (sciX (mag x) n).2).toNat : Nat) : Int) := by omega
    have h1 := gen_fix x n c full _ _ (fixP (mag x) ((n : Int) - (sciX (mag x) n).2).toNat full) w hc hn hT (Nat.le_trans (fixP_len h (by omega) full) (by omega)) (by omega) (by omega) b0 b1 cS (fun W => by rw [hq]; exact ffix_any x _ full W hb h (by omega))
    refine h1.mono ?_
    rintro e w' ⟨rfl, hB⟩
    refine ⟨?_, hB⟩
    unfold genT
    rw [if_neg hP, List.append_nil]
end Go.Proofs.YtddfigbpckhfbaaGreatDoor

namespace Go.Proofs.YtddfigbpckhfbaaGreatDoor
open Go.RowKit Go.Lib

def sbB (x : Nat) : Bool := decide (9223372036854775808 ≤ x)
set_option maxRecDepth 100000 in
theorem signbit_any (x : Nat) (w : World) (hb : x < 18446744073709551616) : Calls Tryz.prog 221 #[.float .f64 x] w fun e w' => e = .returned (.bool (sbB x)) ∧ w = w' := by
  have h1 := fun W => run_f64bits x W
  have g0 : (0 : Int) ≤ (x : Int) := by omega
  by_cases h : 9223372036854775808 ≤ x
  · have e : sbB x = true := decide_eq_true h
    have hc : IntKind.i64.wrap (x : Int) = (x : Int) - 18446744073709551616 := by
      rw [IntKind.wrap_i64]; omega
    have hl : (x : Int) - 18446744073709551616 < 0 := by omega
    rw [e]
    go_enter Tryz.func221, Tryz.ntmps221
    go_wp2
    go_ret
    exact ⟨rfl, rfl⟩
  · have e : sbB x = false := decide_eq_false h
    have hc : IntKind.i64.wrap (x : Int) = (x : Int) := by
      rw [IntKind.wrap_i64]; omega
    have hl : ¬ (x : Int) < 0 := by omega
    rw [e]
    go_enter Tryz.func221, Tryz.ntmps221
    go_wp2
    go_ret
    exact ⟨rfl, rfl⟩
theorem spec_cells {W : World} {B : Nat} {t : TypeId} {m p b a z : Bool} {wd pr c : Int} (h : Five W B #[.bool m, .bool p, .bool b, .bool a, .bool z, .int .i64 wd, .int .i64 pr, .int .u8 c] t) : W.cell? ⟨B, 0, none⟩ = some (.bool m) ∧ W.cell? ⟨B, 1, none⟩ = some (.bool p) ∧ W.cell? ⟨B, 2, none⟩ = some (.bool b) ∧ W.cell? ⟨B, 3, none⟩ = some (.bool a) ∧ W.cell? ⟨B, 4, none⟩ = some (.bool z) ∧ W.cell? ⟨B, 5, none⟩ = some (.int .i64 wd) ∧ W.cell? ⟨B, 6, none⟩ = some (.int .i64 pr) ∧ W.cell? ⟨B, 7, none⟩ = some (.int .u8 c) :=
  ⟨h.cell 0, h.cell 1, h.cell 2, h.cell 3, h.cell 4, h.cell 5, h.cell 6, h.cell 7⟩
theorem Five.three {W : World} {g : Nat} {a b c : Value} {t : TypeId} (h : Five W g #[a, b, c] t) : W.cell? ⟨g, 0, none⟩ = some a ∧ W.cell? ⟨g, 1, none⟩ = some b ∧ W.cell? ⟨g, 2, none⟩ = some c ∧ W.frozen? ⟨g, 0, none⟩ = false ∧ W.frozen? ⟨g, 1, none⟩ = false ∧ W.frozen? ⟨g, 2, none⟩ = false :=
  ⟨h.cell 0, h.cell 1, h.cell 2, h.fro 0, h.fro 1, h.fro 2⟩
theorem pointed_end {w wc W4 : World} {B g : Nat} (SG D : ByteArray) (hB : Below B w wc) (hBw : B ≤ wc.heap.size) (hg : B + 2 ≤ g) (_F : Five wc g #[.string SG, .string ⟨#[]⟩, .string ⟨#[]⟩] 215) (R : Five wc (B + 1) #[.string ⟨#[]⟩, .string ⟨#[]⟩, .string ⟨#[]⟩] 215) (h4 : Below wc.heap.size wc W4) :
    ((((W4.setCell ⟨g, 2, none⟩ (.string D)).setCell ⟨B + 1, 0, none⟩ (.string SG)).setCell ⟨B + 1, 1, none⟩ (.string ⟨#[]⟩)).setCell ⟨B + 1, 2, none⟩ (.string D)).cell? ⟨B + 1, 0, none⟩ = some (.string SG)
    ∧ ((((W4.setCell ⟨g, 2, none⟩ (.string D)).setCell ⟨B + 1, 0, none⟩ (.string SG)).setCell ⟨B + 1, 1, none⟩ (.string ⟨#[]⟩)).setCell ⟨B + 1, 2, none⟩ (.string D)).cell? ⟨B + 1, 1, none⟩ = some (.string ⟨#[]⟩)
    ∧ ((((W4.setCell ⟨g, 2, none⟩ (.string D)).setCell ⟨B + 1, 0, none⟩ (.string SG)).setCell ⟨B + 1, 1, none⟩ (.string ⟨#[]⟩)).setCell ⟨B + 1, 2, none⟩ (.string D)).cell? ⟨B + 1, 2, none⟩ = some (.string D)
    ∧ Below B w ((((W4.setCell ⟨g, 2, none⟩ (.string D)).setCell ⟨B + 1, 0, none⟩ (.string SG)).setCell ⟨B + 1, 1, none⟩ (.string ⟨#[]⟩)).setCell ⟨B + 1, 2, none⟩ (.string D)) := by
  have hne : B + 1 ≠ g := by omega
  have z : Five ((((W4.setCell ⟨g, 2, none⟩ (.string D)).setCell ⟨B + 1, 0, none⟩ (.string SG)).setCell ⟨B + 1, 1, none⟩ (.string ⟨#[]⟩)).setCell ⟨B + 1, 2, none⟩ (.string D)) (B + 1) #[.string SG, .string ⟨#[]⟩, .string D] 215 :=
    (((((R.below h4).other (j := 2) (u := .string D) hne).set (j := 0) (u := .string SG)).set (j := 1) (u := .string ⟨#[]⟩)).set (j := 2) (u := .string D))
  exact ⟨z.cell 0, z.cell 1, z.cell 2, ((((hB.trans (h4.mono hBw)).setCell (p := ⟨g, 2, none⟩) (show B ≤ g by omega) _).setCell (p := ⟨B + 1, 0, none⟩) (show B ≤ B + 1 by omega) _).setCell (p := ⟨B + 1, 1, none⟩) (show B ≤ B + 1 by omega) _).setCell (p := ⟨B + 1, 2, none⟩) (show B ≤ B + 1 by omega) _⟩
/-- The digits of a number by a verb with a point. -/
noncomputable def ptD (r : Nat) (pr : Int) (a : Bool) (c : Nat) : List UInt8 :=
  if c = 102 ∨ c = 70 then fixP r (if pr < 0 then 6 else pr).toNat a
  else if c = 101 ∨ c = 69 then ptT (sciX r (if pr < 0 then 6 else pr).toNat).1 (decide (0 < (if pr < 0 then 6 else pr).toNat) || a) ++ expT (sciX r (if pr < 0 then 6 else pr).toNat).2
  else genT r ((max 1 (if pr < 0 then 6 else pr)) - 1).toNat a
set_option maxRecDepth 100000 in
set_option maxHeartbeats 4000000 in
theorem pointed_start (m p b a z : Bool) (wd pr : Int) (c : Nat) (x q : Nat) (SG D : ByteArray) (w : World) (hb : x < 18446744073709551616) (hSG : ⟨(signL p b c (sbB x)).toArray⟩ = SG) (hq : (q : Int) = if pr < 0 then 6 else pr)
    (hD : (∃ _ : c = 102 ∨ c = 70, ∀ W, Calls Tryz.prog 222 #[.float .f64 x, .int .i64 (q : Int), .bool a] W fun e w' => e = .returned (.string D) ∧ Below W.heap.size W w')
      ∨ (∃ (_ : c = 101 ∨ c = 69) (D1 D2 : ByteArray), D = D1 ++ D2 ∧ D1.size ≤ 10000 ∧ D2.size ≤ 10000 ∧ ∀ W, PowTab W → Calls Tryz.prog 223 #[.float .f64 x, .int .i64 (q : Int), .bool a] W fun e w' => e = .returned (.tuple #[.string D1, .string D2]) ∧ Below W.heap.size W w')
      ∨ (∃ (_ : ¬ (c = 102 ∨ c = 70) ∧ ¬ (c = 101 ∨ c = 69)) (k : Nat), max (1 : Int) (q : Int) = (k : Int) ∧ ∀ W, PowTab W → Calls Tryz.prog 224 #[.float .f64 x, .int .i64 (k : Int), .bool a] W fun e w' => e = .returned (.string D) ∧ Below W.heap.size W w'))
    (hT : PowTab w) :
    Calls Tryz.prog 183 #[.agg #[.bool m, .bool p, .bool b, .bool a, .bool z, .int .i64 wd, .int .i64 pr, .int .u8 (c : Int)], .float .f64 x] w fun e w' => e = .returned (.agg #[.string SG, .string ⟨#[]⟩, .string D]) ∧ Below w.heap.size w w' := by
  have CS := Lib.hid (fun W => signbit_any x W hb)
  have cG := fun W => sign_any m p b a z wd pr c (sbB x) W
  rw [hSG] at cG
  have CG := Lib.hid cG
  have fP := (Five.new w #[.bool m, .bool p, .bool b, .bool a, .bool z, .int .i64 wd, .int .i64 pr, .int .u8 (c : Int)] 94).alloc (.cells #[.string ⟨#[]⟩, .string ⟨#[]⟩, .string ⟨#[]⟩] 215)
  have fR := Five.new (w.alloc (.cells #[.bool m, .bool p, .bool b, .bool a, .bool z, .int .i64 wd, .int .i64 pr, .int .u8 (c : Int)] 94)) #[.string ⟨#[]⟩, .string ⟨#[]⟩, .string ⟨#[]⟩] 215
  have hB0 := ((Below.refl w.heap.size w).alloc (Nat.le_refl _) (.cells #[.bool m, .bool p, .bool b, .bool a, .bool z, .int .i64 wd, .int .i64 pr, .int .u8 (c : Int)] 94)).alloc (by simp) (.cells #[.string ⟨#[]⟩, .string ⟨#[]⟩, .string ⟨#[]⟩] 215)
  rw [World.size_alloc] at fR
  have hsz : ((w.alloc (.cells #[.bool m, .bool p, .bool b, .bool a, .bool z, .int .i64 wd, .int .i64 pr, .int .u8 (c : Int)] 94)).alloc (.cells #[.string ⟨#[]⟩, .string ⟨#[]⟩, .string ⟨#[]⟩] 215)).heap.size = w.heap.size + 2 := by rw [World.size_alloc, World.size_alloc]
  have HT := Lib.hid (Lib.tabBelow_of_tabIs hT)
  obtain ⟨B, hB⟩ : ∃ B, w.heap.size = B := ⟨_, rfl⟩
  obtain ⟨W2, hW2⟩ : ∃ W2, (w.alloc (.cells #[.bool m, .bool p, .bool b, .bool a, .bool z, .int .i64 wd, .int .i64 pr, .int .u8 (c : Int)] 94)).alloc (.cells #[.string ⟨#[]⟩, .string ⟨#[]⟩, .string ⟨#[]⟩] 215) = W2 := ⟨_, rfl⟩
  rw [hW2] at fP fR hB0 hsz
  rw [hB] at fP fR hB0 hsz HT ⊢
  have FP := Lib.hid fP
  have FR := Lib.hid fR
  have HB0 := Lib.hid hB0
  have HSZ := Lib.hid hsz
  have HW2 := Lib.hid hW2
  have HB := Lib.hid hB
  have hq0 : (if pr < 0 then (6 : Int) else pr) = (q : Int) := hq.symm
  have HQ := Lib.hid hq
  have HDD := Lib.hid hD
  clear fP fR hB0 hsz hW2 hB hT hD hq hSG cG hq0
  go_enter Tryz.func183, Tryz.ntmps183
  go_wp2_with fail
  rw [HW2.out, HB.out]
  go_cut [5] (fun v wx => ∃ g : Nat, v = .pointer (some ⟨g, 0, none⟩) ∧ B + 2 ≤ g ∧ Five wx g #[.string SG, .string ⟨#[]⟩, .string ⟨#[]⟩] 215 ∧ Below W2.heap.size W2 wx)
  case first =>
    have HCW := Lib.hid (fun (W : World) (h : Below W2.heap.size W2 W) => spec_cells (FP.out.below h))
    obtain ⟨p0, p1, p2, p3, p4, p5, p6, p7⟩ := spec_cells FP.out
    have hA := (Below.refl W2.heap.size W2).alloc (Nat.le_refl _) (.cells #[.string ⟨#[]⟩, .string ⟨#[]⟩, .string ⟨#[]⟩] 215)
    have HN := Lib.hid (Five.new W2 #[.string ⟨#[]⟩, .string ⟨#[]⟩, .string ⟨#[]⟩] 215)
    have HA := Lib.hid hA
    clear hA
    have ne1 : ¬ B = W2.heap.size := by have := HSZ.out; omega
    have ne2 : ¬ W2.heap.size = B := by have := HSZ.out; omega
    go_region_held3 (fun w' => w'.cell? ⟨B, 0, none⟩ = some (.bool m) ∧ w'.cell? ⟨B, 1, none⟩ = some (.bool p) ∧ w'.cell? ⟨B, 2, none⟩ = some (.bool b) ∧ w'.cell? ⟨B, 3, none⟩ = some (.bool a) ∧ w'.cell? ⟨B, 4, none⟩ = some (.bool z) ∧ w'.cell? ⟨B, 5, none⟩ = some (.int .i64 wd) ∧ w'.cell? ⟨B, 6, none⟩ = some (.int .i64 pr) ∧ w'.cell? ⟨B, 7, none⟩ = some (.int .u8 (c : Int)))
      (first | (with_reducible exact S1) | go_keep)
      (first
      | (go_at_call 221; (with_reducible refine (CS.out _).mono ?_); rintro e W3 ⟨rfl, rfl⟩)
      | (go_at_call 217; (with_reducible refine (CG.out _).mono ?_); rintro e W3 ⟨rfl, h3⟩
         first
         | (have b3 : Below W2.heap.size W2 W3 := ⟨h3.os, h3.tape, h3.output, h3.size, h3.block⟩
            have S1 := HCW.out _ b3
            have ne3 : ¬ B = W3.heap.size := by have := b3.size; have := HSZ.out; omega
            have ne4 : ¬ W3.heap.size = B := by have := b3.size; have := HSZ.out; omega)
         | (have a3 : Below (W2.alloc (.cells #[.string ⟨#[]⟩, .string ⟨#[]⟩, .string ⟨#[]⟩] 215)).heap.size (W2.alloc (.cells #[.string ⟨#[]⟩, .string ⟨#[]⟩, .string ⟨#[]⟩] 215)) W3 := ⟨h3.os, h3.tape, h3.output, h3.size, h3.block⟩
            have b3 : Below W2.heap.size W2 W3 := HA.out.trans (a3.mono HA.out.size)
            have S1 := HCW.out _ b3
            have N3 := Lib.hid (HN.out.below a3)
            obtain ⟨q0, q1, q2, q3, q4, q5⟩ := N3.out.three)))
    all_goals
      go_wp2_with fail
      go_meet
      first
      | exact ⟨W3.heap.size, rfl, by have := b3.size; have := HSZ.out; omega, Five.new W3 _ _, b3.alloc b3.size _⟩
      | exact ⟨W2.heap.size, rfl, by have := HSZ.out; omega, (((N3.out.set (j := 0) (u := .string SG)).set (j := 1) (u := .string ⟨#[]⟩)).set (j := 2) (u := .string ⟨#[]⟩)), ((b3.setCell (p := ⟨W2.heap.size, 0, none⟩) (Nat.le_refl _) _).setCell (p := ⟨W2.heap.size, 1, none⟩) (Nat.le_refl _) _).setCell (p := ⟨W2.heap.size, 2, none⟩) (Nat.le_refl _) _⟩
  case rest =>
    obtain ⟨g, rfl, hg, F5, hBx⟩ := hcut
    obtain ⟨-, -, -, p3, -, -, p6, p7⟩ := spec_cells (FP.out.below hBx)
    have hBw : B ≤ wc.heap.size := by have := hBx.size; have := HSZ.out; omega
    have HBW := Lib.hid (HB0.out.trans (hBx.mono (show B ≤ W2.heap.size by have := HSZ.out; omega)))
    have HTW := Lib.hid (HT.out wc HBW.out)
    have HF5 := Lib.hid F5
    have HFR := Lib.hid (FR.out.below hBx)
    have FIN := Lib.hid (fun (W4 : World) (D : ByteArray) (h4 : Below wc.heap.size wc W4) => pointed_end (B := B) SG D HBW.out hBw hg HF5.out HFR.out h4)
    have HG := Lib.hid hg
    clear F5 hBx hg hBw
    go_upto_if 17 with (fail)
    go_cut [6] (fun v wx => v = .int .i64 (q : Int) ∧ wx = wc)
    case first =>
      have HQv := HQ.out
      by_cases hpr : pr < 0
      · rw [if_pos hpr] at HQv
        obtain rfl : q = 6 := by omega
        clear HQv
        go_wp2_with fail
        go_meet
        exact ⟨rfl, rfl⟩
      · rw [if_neg hpr] at HQv
        obtain rfl : pr = (q : Int) := HQv.symm
        clear HQv
        go_wp2_with fail
        go_meet
        exact ⟨rfl, rfl⟩
    case rest =>
      obtain ⟨rfl, rfl⟩ := hcut
      rcases HDD.out with ⟨h, C⟩ | ⟨h, D1, D2, rfl, hs1, hs2, C⟩ | ⟨h, k, hk, C⟩
      · have C := Lib.hid C
        clear HDD
        rcases h with rfl | rfl
        all_goals
          go_wp2_with fail
          refine (C.out _).mono ?_
          rintro e W4 ⟨rfl, h4⟩
          clear p3 p6 p7
          obtain ⟨q0, q1, q2, r0, r1, r2⟩ := (HF5.out.below h4).three
          obtain ⟨s0, s1, s2, t0, t1, t2⟩ := (HFR.out.below h4).three
          have ne1 : ¬ B + 1 = g := by have := HG.out; omega
          have ne2 : ¬ g = B + 1 := by have := HG.out; omega
          have H4 := Lib.hid h4
          clear h4
          go_wp2_with fail
          obtain ⟨z0, z1, z2, hBf⟩ := FIN.out _ D H4.out
          clear q0 q1 q2 r0 r1 r2 s0 s1 s2 t0 t1 t2
          refine bodyPost_ret (v := .agg #[.string SG, .string ⟨#[]⟩, .string D]) (by simp [results, Tryz.results183, go_sem, z0, z1, z2]) rfl ⟨rfl, hBf⟩
      · have C := Lib.hid C
        clear HDD
        rcases h with rfl | rfl
        all_goals
          go_wp2_with fail
          refine (C.out _ HTW.out).mono ?_
          rintro e W4 ⟨rfl, h4⟩
          clear p3 p6 p7
          obtain ⟨q0, q1, q2, r0, r1, r2⟩ := (HF5.out.below h4).three
          obtain ⟨s0, s1, s2, t0, t1, t2⟩ := (HFR.out.below h4).three
          have ne1 : ¬ B + 1 = g := by have := HG.out; omega
          have ne2 : ¬ g = B + 1 := by have := HG.out; omega
          have H4 := Lib.hid h4
          clear h4
          go_wp2_with fail
          obtain ⟨z0, z1, z2, hBf⟩ := FIN.out _ (D1 ++ D2) H4.out
          clear q0 q1 q2 r0 r1 r2 s0 s1 s2 t0 t1 t2
          refine bodyPost_ret (v := .agg #[.string SG, .string ⟨#[]⟩, .string (D1 ++ D2)]) (by simp [results, Tryz.results183, go_sem, z0, z1, z2]) rfl ⟨rfl, hBf⟩
      · have C := Lib.hid C
        have v1 : ((c : Int) == 102) = false := by rw [beq_eq_false_iff_ne]; have := h.1; omega
        have v2 : ((c : Int) == 70) = false := by rw [beq_eq_false_iff_ne]; have := h.1; omega
        have v3 : ((c : Int) == 101) = false := by rw [beq_eq_false_iff_ne]; have := h.2; omega
        have v4 : ((c : Int) == 69) = false := by rw [beq_eq_false_iff_ne]; have := h.2; omega
        clear h HDD
        go_wp2_with fail
        refine (C.out _ HTW.out).mono ?_
        rintro e W4 ⟨rfl, h4⟩
        clear p3 p6 p7
        obtain ⟨q0, q1, q2, r0, r1, r2⟩ := (HF5.out.below h4).three
        obtain ⟨s0, s1, s2, t0, t1, t2⟩ := (HFR.out.below h4).three
        have ne1 : ¬ B + 1 = g := by have := HG.out; omega
        have ne2 : ¬ g = B + 1 := by have := HG.out; omega
        have H4 := Lib.hid h4
        clear h4
        go_wp2_with fail
        obtain ⟨z0, z1, z2, hBf⟩ := FIN.out _ D H4.out
        clear q0 q1 q2 r0 r1 r2 s0 s1 s2 t0 t1 t2
        refine bodyPost_ret (v := .agg #[.string SG, .string ⟨#[]⟩, .string D]) (by simp [results, Tryz.results183, go_sem, z0, z1, z2]) rfl ⟨rfl, hBf⟩
theorem sgn_len (p b : Bool) (c : Nat) (s : Bool) : (signL p b c s).length ≤ 1 := by
  unfold signL
  cases s <;> cases vMin.contains c.toUInt8 <;> cases p <;> cases b <;> decide
theorem pointed_any (m p b a z : Bool) (wd pr : Int) (c : Nat) (x : Nat) (w : World) (hb : x < 18446744073709551616) (h : mag x < 9218868437227405312) (h0 : -1 ≤ pr) (h1 : pr ≤ 190) (hT : PowTab w) :
    Calls Tryz.prog 183 #[.agg #[.bool m, .bool p, .bool b, .bool a, .bool z, .int .i64 wd, .int .i64 pr, .int .u8 (c : Int)], .float .f64 x] w fun e w' => e = .returned (.agg #[.string ⟨(signL p b c (sbB x)).toArray⟩, .string ⟨#[]⟩, .string ⟨(ptD (mag x) pr a c).toArray⟩]) ∧ Below w.heap.size w w' := by
  obtain ⟨q, hq⟩ : ∃ q : Nat, (q : Int) = if pr < 0 then 6 else pr := ⟨(if pr < 0 then 6 else pr).toNat, by split <;> omega⟩
  have hq2 : q ≤ 190 := by split at hq <;> omega
  have hqn : (if pr < 0 then (6 : Int) else pr).toNat = q := by rw [← hq, Int.toNat_natCast]
  refine pointed_start m p b a z wd pr c x q _ _ w hb rfl hq ?_ hT
  unfold ptD
  rw [hqn, ← hq]
  by_cases c1 : c = 102 ∨ c = 70
  · refine Or.inl ⟨c1, fun W => ?_⟩
    rw [if_pos c1]
    exact ffix_any x q a W hb h (by omega)
  · rw [if_neg c1]
    by_cases c2 : c = 101 ∨ c = 69
    · obtain ⟨hl, -, b0, b1⟩ := sciX_facts w h (show q ≤ 200 by omega)
      refine Or.inr (Or.inl ⟨c2, ⟨(ptT (sciX (mag x) q).1 (decide (0 < q) || a)).toArray⟩, ⟨(expT (sciX (mag x) q).2).toArray⟩, ?_, ?_, ?_, fun W hW => fsci_any x q a W hb h (by omega) hW⟩)
      · rw [if_pos c2, ba_cat]
      · rw [← ba_len]
        exact Nat.le_trans (ptT_len _ _) (by rw [hl]; omega)
      · rw [← ba_len]
        exact Nat.le_trans (expT_len b0 b1) (by omega)
    · refine Or.inr (Or.inr ⟨⟨c1, c2⟩, max 1 q, by omega, fun W hW => ?_⟩)
      rw [if_neg c2, show (max (1 : Int) (q : Int) - 1).toNat = max 1 q - 1 by omega]
      exact gen_any x (max 1 q - 1) (max 1 q) a W hb h (by omega) (by omega) hW
end Go.Proofs.YtddfigbpckhfbaaGreatDoor

namespace Go.Proofs.YtddfigbpckhfbaaGreatDoor
open Go.RowKit Go.Lib

structure Pc where
  m : Bool
  p : Bool
  b : Bool
  a : Bool
  z : Bool
  wd : Int
  pr : Int
  c : Nat
  sw : Bool
  sp : Bool
  nx : Nat
def pcV (x : Pc) : Value := .agg #[.bool x.m, .bool x.p, .bool x.b, .bool x.a, .bool x.z, .int .i64 x.wd, .int .i64 x.pr, .int .u8 (x.c : Int), .bool x.sw, .bool x.sp, .int .i64 (x.nx : Int)]
def pc0 : Pc := ⟨false, false, false, false, false, 0, 0, 0, false, false, 0⟩
/-- The precision behind a point. -/
def prAt (S : ByteArray) (k : Nat) : Int × Bool × Nat := if atB S k = 46 then amt S (k + 1) else (-1, false, k)
/-- The part that begins at a place. -/
def partF (S : ByteArray) (k : Nat) : Option Pc :=
  if atB S k = 37 then
    if vAll.contains (atB S (prAt S (amt S (flE S (k + 1))).2.2).2.2).toUInt8 = true then
      some ⟨hasN S (k + 1) 45 (flE S (k + 1) - (k + 1)), hasN S (k + 1) 43 (flE S (k + 1) - (k + 1)), hasN S (k + 1) 32 (flE S (k + 1) - (k + 1)), hasN S (k + 1) 35 (flE S (k + 1) - (k + 1)), hasN S (k + 1) 48 (flE S (k + 1) - (k + 1)),
        (amt S (flE S (k + 1))).1, (prAt S (amt S (flE S (k + 1))).2.2).1, atB S (prAt S (amt S (flE S (k + 1))).2.2).2.2, (amt S (flE S (k + 1))).2.1, (prAt S (amt S (flE S (k + 1))).2.2).2.1, (prAt S (amt S (flE S (k + 1))).2.2).2.2 + 1⟩
    else none
  else none
theorem flE_le {S : ByteArray} {k : Nat} (h : k ≤ S.size) : k ≤ flE S k ∧ flE S k ≤ S.size := by
  unfold flE
  have : ∀ f j, runP isFl S j f ≤ f := by
    intro f
    induction f with
    | zero => intro j; rw [runP]; omega
    | succ f ih =>
      intro j
      rw [runP]
      split
      · have := ih (j + 1); omega
      · omega
  have := this (S.size - k) k
  omega
theorem amt_le {S : ByteArray} {k : Nat} (h : k ≤ S.size) : k ≤ (amt S k).2.2 ∧ (amt S k).2.2 ≤ S.size := by
  unfold amt
  split
  · rename_i h2
    have := atB_size (S := S) (k := k) (by omega)
    exact ⟨by show k ≤ k + 1; omega, by show k + 1 ≤ S.size; omega⟩
  · have hl : ∀ f j, runP isDg S j f ≤ f := by
      intro f
      induction f with
      | zero => intro j; rw [runP]; omega
      | succ f ih =>
        intro j
        rw [runP]
        split
        · have := ih (j + 1); omega
        · omega
    have := hl (S.size - k) k
    refine ⟨by show k ≤ k + dgN S k; omega, ?_⟩
    show k + dgN S k ≤ S.size
    unfold dgN
    omega
theorem prAt_le {S : ByteArray} {k : Nat} (h : k ≤ S.size) : k ≤ (prAt S k).2.2 ∧ (prAt S k).2.2 ≤ S.size := by
  unfold prAt
  split
  · rename_i h2
    have h3 := atB_size (S := S) (k := k) (by omega)
    have := amt_le (S := S) (k := k + 1) (by omega)
    exact ⟨by omega, this.2⟩
  · exact ⟨Nat.le_refl _, h⟩
theorem Out.fresh {G : List Nat} {a w : World} (h : Out G a w) {p : Addr} (hp : a.heap.size ≤ p.block) (u : Value) : Out G a (w.setCell p u) := by
  have hb := (Below.refl 0 w).setCell (p := p) (Nat.zero_le _) u
  refine ⟨hb.os.trans h.os, hb.tape.trans h.tape, hb.output.trans h.output, Nat.le_trans h.size hb.size, fun k hk hl => ?_⟩
  rw [Below.heap_setCell w p u k (by omega)]
  exact h.block k hk hl
theorem Out.alloc {G : List Nat} {a w : World} (h : Out G a w) (o : Obj) : Out G a (w.alloc o) := by
  have hb := (Below.refl w.heap.size w).alloc (Nat.le_refl _) o
  exact ⟨hb.os.trans h.os, hb.tape.trans h.tape, hb.output.trans h.output, Nat.le_trans h.size hb.size, fun k hk hl => (hb.block k (Nat.lt_of_lt_of_le hl h.size)).trans (h.block k hk hl)⟩
/-- Only blocks of the list and new ones may have turned between the two. -/
theorem Out.then {G : List Nat} {a b c : World} (h : Out G a b) {G' : List Nat} (k : Out G' b c) (hs : ∀ x ∈ G', x ∈ G ∨ a.heap.size ≤ x) : Out G a c :=
  ⟨k.os.trans h.os, k.tape.trans h.tape, k.output.trans h.output, Nat.le_trans h.size k.size, fun i hi hl => (k.block i (fun hx => (hs i hx).elim hi (fun h2 => by omega)) (Nat.lt_of_lt_of_le hl h.size)).trans (h.block i hi hl)⟩
abbrev zc : Array Value := #[.bool false, .bool false, .bool false, .bool false, .bool false, .int .i64 0, .int .i64 0, .int .u8 0, .bool false, .bool false, .int .i64 0]
theorem Five.eleven {W : World} {B : Nat} {t : TypeId} {a0 a1 a2 a3 a4 a5 a6 a7 a8 a9 a10 : Value} (h : Five W B #[a0, a1, a2, a3, a4, a5, a6, a7, a8, a9, a10] t) :
    (W.cell? ⟨B, 0, none⟩ = some a0 ∧ W.cell? ⟨B, 1, none⟩ = some a1 ∧ W.cell? ⟨B, 2, none⟩ = some a2 ∧ W.cell? ⟨B, 3, none⟩ = some a3 ∧ W.cell? ⟨B, 4, none⟩ = some a4 ∧ W.cell? ⟨B, 5, none⟩ = some a5 ∧ W.cell? ⟨B, 6, none⟩ = some a6 ∧ W.cell? ⟨B, 7, none⟩ = some a7 ∧ W.cell? ⟨B, 8, none⟩ = some a8 ∧ W.cell? ⟨B, 9, none⟩ = some a9 ∧ W.cell? ⟨B, 10, none⟩ = some a10) ∧ (W.frozen? ⟨B, 0, none⟩ = false ∧ W.frozen? ⟨B, 1, none⟩ = false ∧ W.frozen? ⟨B, 2, none⟩ = false ∧ W.frozen? ⟨B, 3, none⟩ = false ∧ W.frozen? ⟨B, 4, none⟩ = false ∧ W.frozen? ⟨B, 5, none⟩ = false ∧ W.frozen? ⟨B, 6, none⟩ = false ∧ W.frozen? ⟨B, 7, none⟩ = false ∧ W.frozen? ⟨B, 8, none⟩ = false ∧ W.frozen? ⟨B, 9, none⟩ = false ∧ W.frozen? ⟨B, 10, none⟩ = false) :=
  ⟨⟨h.cell 0, h.cell 1, h.cell 2, h.cell 3, h.cell 4, h.cell 5, h.cell 6, h.cell 7, h.cell 8, h.cell 9, h.cell 10⟩, ⟨h.fro 0, h.fro 1, h.fro 2, h.fro 3, h.fro 4, h.fro 5, h.fro 6, h.fro 7, h.fro 8, h.fro 9, h.fro 10⟩⟩
theorem end11 {w W : World} {G : List Nat} {B : Nat} {t : TypeId} {a0 a1 a2 a3 a4 a5 a6 a7 a8 a9 a10 : Value} (v0 v1 v2 v3 v4 v5 v6 v7 v8 v9 v10 : Value) (F : Five W B #[a0, a1, a2, a3, a4, a5, a6, a7, a8, a9, a10] t) (h : Out G w W) (hB : w.heap.size ≤ B) :
    Five (((((((((((W.setCell ⟨B, 0, none⟩ v0).setCell ⟨B, 1, none⟩ v1).setCell ⟨B, 2, none⟩ v2).setCell ⟨B, 3, none⟩ v3).setCell ⟨B, 4, none⟩ v4).setCell ⟨B, 5, none⟩ v5).setCell ⟨B, 6, none⟩ v6).setCell ⟨B, 7, none⟩ v7).setCell ⟨B, 8, none⟩ v8).setCell ⟨B, 9, none⟩ v9).setCell ⟨B, 10, none⟩ v10) B #[v0, v1, v2, v3, v4, v5, v6, v7, v8, v9, v10] t ∧ Out G w (((((((((((W.setCell ⟨B, 0, none⟩ v0).setCell ⟨B, 1, none⟩ v1).setCell ⟨B, 2, none⟩ v2).setCell ⟨B, 3, none⟩ v3).setCell ⟨B, 4, none⟩ v4).setCell ⟨B, 5, none⟩ v5).setCell ⟨B, 6, none⟩ v6).setCell ⟨B, 7, none⟩ v7).setCell ⟨B, 8, none⟩ v8).setCell ⟨B, 9, none⟩ v9).setCell ⟨B, 10, none⟩ v10) := by
  refine ⟨?_, (((((((((((h.fresh (p := ⟨B, 0, none⟩) hB v0).fresh (p := ⟨B, 1, none⟩) hB v1).fresh (p := ⟨B, 2, none⟩) hB v2).fresh (p := ⟨B, 3, none⟩) hB v3).fresh (p := ⟨B, 4, none⟩) hB v4).fresh (p := ⟨B, 5, none⟩) hB v5).fresh (p := ⟨B, 6, none⟩) hB v6).fresh (p := ⟨B, 7, none⟩) hB v7).fresh (p := ⟨B, 8, none⟩) hB v8).fresh (p := ⟨B, 9, none⟩) hB v9).fresh (p := ⟨B, 10, none⟩) hB v10)⟩
  replace F : Five (W.setCell ⟨B, 0, none⟩ v0) B #[v0, a1, a2, a3, a4, a5, a6, a7, a8, a9, a10] t := F.set (j := 0) (u := v0)
  generalize (W.setCell ⟨B, 0, none⟩ v0) = W1 at *
  replace F : Five (W1.setCell ⟨B, 1, none⟩ v1) B #[v0, v1, a2, a3, a4, a5, a6, a7, a8, a9, a10] t := F.set (j := 1) (u := v1)
  generalize (W1.setCell ⟨B, 1, none⟩ v1) = W2 at *
  replace F : Five (W2.setCell ⟨B, 2, none⟩ v2) B #[v0, v1, v2, a3, a4, a5, a6, a7, a8, a9, a10] t := F.set (j := 2) (u := v2)
  generalize (W2.setCell ⟨B, 2, none⟩ v2) = W3 at *
  replace F : Five (W3.setCell ⟨B, 3, none⟩ v3) B #[v0, v1, v2, v3, a4, a5, a6, a7, a8, a9, a10] t := F.set (j := 3) (u := v3)
  generalize (W3.setCell ⟨B, 3, none⟩ v3) = W4 at *
  replace F : Five (W4.setCell ⟨B, 4, none⟩ v4) B #[v0, v1, v2, v3, v4, a5, a6, a7, a8, a9, a10] t := F.set (j := 4) (u := v4)
  generalize (W4.setCell ⟨B, 4, none⟩ v4) = W5 at *
  replace F : Five (W5.setCell ⟨B, 5, none⟩ v5) B #[v0, v1, v2, v3, v4, v5, a6, a7, a8, a9, a10] t := F.set (j := 5) (u := v5)
  generalize (W5.setCell ⟨B, 5, none⟩ v5) = W6 at *
  replace F : Five (W6.setCell ⟨B, 6, none⟩ v6) B #[v0, v1, v2, v3, v4, v5, v6, a7, a8, a9, a10] t := F.set (j := 6) (u := v6)
  generalize (W6.setCell ⟨B, 6, none⟩ v6) = W7 at *
  replace F : Five (W7.setCell ⟨B, 7, none⟩ v7) B #[v0, v1, v2, v3, v4, v5, v6, v7, a8, a9, a10] t := F.set (j := 7) (u := v7)
  generalize (W7.setCell ⟨B, 7, none⟩ v7) = W8 at *
  replace F : Five (W8.setCell ⟨B, 8, none⟩ v8) B #[v0, v1, v2, v3, v4, v5, v6, v7, v8, a9, a10] t := F.set (j := 8) (u := v8)
  generalize (W8.setCell ⟨B, 8, none⟩ v8) = W9 at *
  replace F : Five (W9.setCell ⟨B, 9, none⟩ v9) B #[v0, v1, v2, v3, v4, v5, v6, v7, v8, v9, a10] t := F.set (j := 9) (u := v9)
  generalize (W9.setCell ⟨B, 9, none⟩ v9) = W10 at *
  replace F : Five (W10.setCell ⟨B, 10, none⟩ v10) B #[v0, v1, v2, v3, v4, v5, v6, v7, v8, v9, v10] t := F.set (j := 10) (u := v10)
  exact F
theorem Five.eleven_off {W : World} {g B : Nat} {cs : Array Value} {t : TypeId} (h : Five W g cs t) (v0 v1 v2 v3 v4 v5 v6 v7 v8 v9 v10 : Value) (hne : g ≠ B) : Five (((((((((((W.setCell ⟨B, 0, none⟩ v0).setCell ⟨B, 1, none⟩ v1).setCell ⟨B, 2, none⟩ v2).setCell ⟨B, 3, none⟩ v3).setCell ⟨B, 4, none⟩ v4).setCell ⟨B, 5, none⟩ v5).setCell ⟨B, 6, none⟩ v6).setCell ⟨B, 7, none⟩ v7).setCell ⟨B, 8, none⟩ v8).setCell ⟨B, 9, none⟩ v9).setCell ⟨B, 10, none⟩ v10) g cs t :=
  (((((((((((h.other (j := 0) (u := v0) hne).other (j := 1) (u := v1) hne).other (j := 2) (u := v2) hne).other (j := 3) (u := v3) hne).other (j := 4) (u := v4) hne).other (j := 5) (u := v5) hne).other (j := 6) (u := v6) hne).other (j := 7) (u := v7) hne).other (j := 8) (u := v8) hne).other (j := 9) (u := v9) hne).other (j := 10) (u := v10) hne)
set_option maxRecDepth 100000 in
set_option maxHeartbeats 8000000 in
theorem part_first (S : ByteArray) (k g : Nat) (w : World) (hk : k ≤ S.size) (hS : S.size ≤ 4611686018427387904) (hR : Rdr w g S k) (h37 : atB S k ≠ 37) :
    Calls Tryz.prog 142 #[.pointer (some ⟨g, 0, none⟩)] w fun e w' => e = .returned (.tuple #[pcV pc0, .bool false]) ∧ Out [g] w w' := by
  have f0 := Five.new w zc 96
  have hgl := hR.lt
  have cT := take_any S k g 37 (w.alloc (.cells zc 96)) hk hS (by decide) (hR.alloc _)
  rw [if_neg h37, decide_eq_false h37] at cT
  obtain ⟨W1, hW1⟩ : ∃ W1, w.alloc (.cells zc 96) = W1 := ⟨_, rfl⟩
  have hO := (Out.refl [g] w).alloc (.cells zc 96)
  rw [hW1] at cT f0 hO
  have CT := Lib.hid cT
  have HW1 := Lib.hid hW1
  have HO := Lib.hid hO
  have HF := Lib.hid f0
  clear cT hW1 hO h37 hR f0
  obtain ⟨B, hB⟩ : ∃ B, w.heap.size = B := ⟨_, rfl⟩
  have HB := Lib.hid hB
  rw [hB] at HF hgl
  clear hB
  have HG := Lib.hid hgl
  clear hgl
  go_enter Tryz.func142, Tryz.ntmps142
  go_wp2_with fail
  rw [HW1.out, HB.out]
  refine CT.out.mono ?_
  rintro e w1 ⟨rfl, h1, h2⟩
  have HF2 := Lib.hid (h2.five HF.out (by simp; have := HG.out; omega))
  have HO2 := Lib.hid (HO.out.then h2 (fun x hx => Or.inl hx))
  clear h1 h2
  obtain ⟨⟨c0, c1, c2, c3, c4, c5, c6, c7, c8, c9, c10⟩, d0, d1, d2, d3, d4, d5, d6, d7, d8, d9, d10⟩ := HF2.out.eleven
  go_wp2_with fail
  clear c0 c1 c2 c3 c4 c5 c6 c7 c8 c9 c10 d0 d1 d2 d3 d4 d5 d6 d7 d8 d9 d10
  obtain ⟨z, hz⟩ := end11 (.bool false) (.bool false) (.bool false) (.bool false) (.bool false) (.int .i64 0) (.int .i64 0) (.int .u8 0) (.bool false) (.bool false) (.int .i64 0) HF2.out HO2.out (Nat.le_of_eq HB.out)
  obtain ⟨⟨c0, c1, c2, c3, c4, c5, c6, c7, c8, c9, c10⟩, -⟩ := z.eleven
  exact bodyPost_ret (v := .tuple #[.agg #[.bool false, .bool false, .bool false, .bool false, .bool false, .int .i64 0, .int .i64 0, .int .u8 0, .bool false, .bool false, .int .i64 0], .bool false]) (by simp [results, Tryz.results142, go_sem, c0, c1, c2, c3, c4, c5, c6, c7, c8, c9, c10]) rfl ⟨rfl, hz⟩
set_option maxRecDepth 100000 in
set_option maxHeartbeats 16000000 in
theorem part_rest (S : ByteArray) (k g : Nat) (w : World) (hk : k ≤ S.size) (hS : S.size ≤ 4611686018427387904) (hR : Rdr w g S k) (h37 : atB S k = 37) (j1 k2 k3 _k4 x4 : Nat) (wd pr : Int) (sw sp v : Bool)
    (h1 : flE S (k + 1) = j1) (h2 : amt S j1 = (wd, sw, k2)) (h3 : prAt S k2 = (pr, sp, k3)) (h4 : atB S k3 = x4) (h5 : vAll.contains x4.toUInt8 = v) :
    Calls Tryz.prog 142 #[.pointer (some ⟨g, 0, none⟩)] w fun e w' => e = .returned (.tuple #[pcV (if v = true then ⟨hasN S (k + 1) 45 (j1 - (k + 1)), hasN S (k + 1) 43 (j1 - (k + 1)), hasN S (k + 1) 32 (j1 - (k + 1)), hasN S (k + 1) 35 (j1 - (k + 1)), hasN S (k + 1) 48 (j1 - (k + 1)), wd, pr, x4, sw, sp, k3 + 1⟩ else pc0), .bool v]) ∧ (v = true → Rdr w' g S (k3 + 1)) ∧ Out [g] w w' := by
  have f0 := Five.new w zc 96
  have hgl := hR.lt
  have cT := take_any S k g 37 (w.alloc (.cells zc 96)) hk hS (by decide) (hR.alloc _)
  rw [if_pos h37, decide_eq_true h37] at cT
  have hk1 : k < S.size := atB_size (by omega)
  have hj1 := flE_le (S := S) (k := k + 1) (by omega)
  rw [h1] at hj1
  have hk2 := amt_le (S := S) (k := j1) (by omega)
  rw [h2] at hk2
  have hk3 := prAt_le (S := S) (k := k2) hk2.2
  rw [h3] at hk3
  simp only at hk2 hk3
  have CFl := Lib.hid (fun (W : World) (h : Nat) (a : Rdr W g S (k + 1)) (b : Five W h (flV S (k + 1) 0) 96) (c : g ≠ h) => flags_any S (k + 1) g h W (by omega) hS a b c)
  have cAm := fun (W : World) (a : Rdr W g S j1) => amount_any S j1 g W (by omega) hS a
  rw [h2] at cAm
  have CAm := Lib.hid cAm
  have CTk := Lib.hid (fun (W : World) (a : Rdr W g S k2) => take_any S k2 g 46 W hk2.2 hS (by decide) a)
  have CA2 := Lib.hid (fun (W : World) (hl : k2 + 1 ≤ S.size) (a : Rdr W g S (k2 + 1)) => amount_any S (k2 + 1) g W hl hS a)
  have cPk := fun (W : World) (a : Rdr W g S k3) => peek_any S k3 g W hk3.2 hS a
  rw [h4] at cPk
  have CPk := Lib.hid cPk
  have cV := fun W => among_any ⟨#[100, 105, 111, 120, 88, 117, 101, 69, 102, 70, 103, 71, 99, 115, 37]⟩ x4 W
  replace cV : ∀ w : World, Calls Tryz.prog 179 #[.string ⟨#[100, 105, 111, 120, 88, 117, 101, 69, 102, 70, 103, 71, 99, 115, 37]⟩, .int .u8 (x4 : Int)] w fun e w' => e = .returned (.bool (vAll.contains x4.toUInt8)) ∧ w = w' := cV
  rw [h5] at cV
  have CV := Lib.hid cV
  obtain ⟨W1, hW1⟩ : ∃ W1, w.alloc (.cells zc 96) = W1 := ⟨_, rfl⟩
  have hO := (Out.refl [g] w).alloc (.cells zc 96)
  rw [hW1] at cT f0 hO
  have CT := Lib.hid cT
  have HW1 := Lib.hid hW1
  have HO := Lib.hid hO
  have HF := Lib.hid f0
  have H1 := Lib.hid h1
  have H3 := Lib.hid h3
  have HX4 := Lib.hid h4
  have H5 := Lib.hid h5
  have HK2 := Lib.hid hk2
  have HK3 := Lib.hid hk3
  obtain ⟨b0, hb0⟩ : ∃ b0, hasN S (k + 1) 45 (j1 - (k + 1)) = b0 := ⟨_, rfl⟩
  obtain ⟨b1, hb1⟩ : ∃ b1, hasN S (k + 1) 43 (j1 - (k + 1)) = b1 := ⟨_, rfl⟩
  obtain ⟨b2, hb2⟩ : ∃ b2, hasN S (k + 1) 32 (j1 - (k + 1)) = b2 := ⟨_, rfl⟩
  obtain ⟨b3, hb3⟩ : ∃ b3, hasN S (k + 1) 35 (j1 - (k + 1)) = b3 := ⟨_, rfl⟩
  obtain ⟨b4, hb4⟩ : ∃ b4, hasN S (k + 1) 48 (j1 - (k + 1)) = b4 := ⟨_, rfl⟩
  have hFv : flV S (k + 1) (j1 - (k + 1)) = #[.bool b0, .bool b1, .bool b2, .bool b3, .bool b4, .int .i64 0, .int .i64 0, .int .u8 0, .bool false, .bool false, .int .i64 0] := by
    unfold flV
    rw [hb0, hb1, hb2, hb3, hb4]
  rw [hb0, hb1, hb2, hb3, hb4]
  have HFV := Lib.hid hFv
  clear cT hW1 hO h37 hR f0 cAm cPk cV h1 h2 h3 h4 h5 hk2 hk3 hj1 hb0 hb1 hb2 hb3 hb4 hFv
  obtain ⟨B, hB⟩ : ∃ B, w.heap.size = B := ⟨_, rfl⟩
  have HB := Lib.hid hB
  rw [hB] at HF hgl
  clear hB
  have HG := Lib.hid hgl
  clear hgl
  go_enter Tryz.func142, Tryz.ntmps142
  go_wp2_with fail
  rw [HW1.out, HB.out]
  refine CT.out.mono ?_
  rintro e w1 ⟨rfl, r1, o1⟩
  have HF2 := Lib.hid (o1.five HF.out (by simp; have := HG.out; omega))
  have HO2 := Lib.hid (HO.out.then o1 (fun x hx => Or.inl hx))
  have hBl : B < w1.heap.size := HF2.out.lt
  have HR1 := Lib.hid r1
  clear r1 o1 CT HF HO
  go_wp2_with fail
  have FP0 := Five.new w1 zc 96
  have HR2 := Lib.hid (HR1.out.alloc (.cells zc 96))
  have HF3 := Lib.hid (HF2.out.alloc (.cells zc 96))
  have HO3 := Lib.hid (HO2.out.alloc (.cells zc 96))
  obtain ⟨Q, hQ⟩ : ∃ Q, w1.heap.size = Q := ⟨_, rfl⟩
  obtain ⟨W2, hW2⟩ : ∃ W2, w1.alloc (.cells zc 96) = W2 := ⟨_, rfl⟩
  have hgQ : g ≠ Q := by have := HR1.out.lt; omega
  have hBQ : B < Q := by omega
  have hgB : g < B := HG.out
  rw [hQ] at FP0
  rw [hW2] at FP0 HR2 HF3 HO3
  have HW2 := Lib.hid hW2
  have HQ := Lib.hid hQ
  have HFP0 := Lib.hid FP0
  clear hQ hW2 HR1 HF2 HO2 hBl FP0
  have hgBi := Lib.hid hgB
  have hBQi := Lib.hid hBQ
  have hgQi := Lib.hid hgQ
  have n1 : ¬ g = Q := hgQ
  have n2 : ¬ Q = g := fun e => hgQ e.symm
  have n3 : ¬ B = Q := by omega
  have n4 : ¬ Q = B := by omega
  have n5 : ¬ g = B := by omega
  have n6 : ¬ B = g := by omega
  clear hgB hBQ hgQ
  change Calls _ _ _ (w1.alloc (.cells zc 96)) _
  rw [HW2.out, HQ.out]
  refine (CFl.out _ Q HR2.out HFP0.out hgQi.out).mono ?_
  rintro e W3 ⟨rfl, r3, f3, o3⟩
  rw [H1.out] at r3 f3
  rw [HFV.out] at f3
  have HR3 := Lib.hid r3
  have HP3 := Lib.hid f3
  have HF4 := Lib.hid (o3.five HF3.out (by simp; omega))
  have HO4 := Lib.hid (HO3.out.then o3 (fun x hx => by
    rcases List.mem_cons.1 hx with rfl | hx
    · exact Or.inl (by simp)
    · rw [List.mem_singleton.1 hx]
      right
      have := HB.out
      have := hBQi.out
      omega))
  clear r3 f3 o3 CFl HR2 HFP0 HF3 HO3
  go_wp2_with fail
  refine (CAm.out _ HR3.out).mono ?_
  rintro e W4 ⟨rfl, r4, o4⟩
  have HP4 := Lib.hid (o4.five HP3.out (by simp; exact n2))
  have HF5 := Lib.hid (o4.five HF4.out (by simp; exact n6))
  have HO5 := Lib.hid (HO4.out.then o4 (fun x hx => Or.inl hx))
  have HR4 := Lib.hid r4
  clear r4 o4 CAm HR3 HP3 HF4 HO4
  have d5 := HP4.out.fro 5
  have d6 := HP4.out.fro 6
  have d8 := HP4.out.fro 8
  have c5 := HP4.out.cell 5
  have c6 := HP4.out.cell 6
  have c8 := HP4.out.cell 8
  go_wp2_with fail
  clear c5 c6 c8 d5 d6 d8
  have q1 : Five (W4.setCell ⟨Q, 5, none⟩ (.int .i64 wd)) Q #[.bool b0, .bool b1, .bool b2, .bool b3, .bool b4, .int .i64 wd, .int .i64 0, .int .u8 0, .bool false, .bool false, .int .i64 0] 96 := HP4.out.set (j := 5) (u := .int .i64 wd)
  have q2 : Five ((W4.setCell ⟨Q, 5, none⟩ (.int .i64 wd)).setCell ⟨Q, 8, none⟩ (.bool sw)) Q #[.bool b0, .bool b1, .bool b2, .bool b3, .bool b4, .int .i64 wd, .int .i64 0, .int .u8 0, .bool sw, .bool false, .int .i64 0] 96 := q1.set (j := 8) (u := .bool sw)
  have q3 : Five (((W4.setCell ⟨Q, 5, none⟩ (.int .i64 wd)).setCell ⟨Q, 8, none⟩ (.bool sw)).setCell ⟨Q, 6, none⟩ (.int .i64 (-1))) Q #[.bool b0, .bool b1, .bool b2, .bool b3, .bool b4, .int .i64 wd, .int .i64 (-1), .int .u8 0, .bool sw, .bool false, .int .i64 0] 96 := q2.set (j := 6) (u := .int .i64 (-1))
  have r5 : Rdr (((W4.setCell ⟨Q, 5, none⟩ (.int .i64 wd)).setCell ⟨Q, 8, none⟩ (.bool sw)).setCell ⟨Q, 6, none⟩ (.int .i64 (-1))) g S k2 := ((HR4.out.other (j := 5) (u := .int .i64 wd) n1).other (j := 8) (u := .bool sw) n1).other (j := 6) (u := .int .i64 (-1)) n1
  have f5 : Five (((W4.setCell ⟨Q, 5, none⟩ (.int .i64 wd)).setCell ⟨Q, 8, none⟩ (.bool sw)).setCell ⟨Q, 6, none⟩ (.int .i64 (-1))) B zc 96 := ((HF5.out.other (j := 5) (u := .int .i64 wd) n3).other (j := 8) (u := .bool sw) n3).other (j := 6) (u := .int .i64 (-1)) n3
  have hwQ : w.heap.size ≤ Q := by have := HB.out; have := hBQi.out; omega
  have o5 : Out [g] w (((W4.setCell ⟨Q, 5, none⟩ (.int .i64 wd)).setCell ⟨Q, 8, none⟩ (.bool sw)).setCell ⟨Q, 6, none⟩ (.int .i64 (-1))) := ((HO5.out.fresh (p := ⟨Q, 5, none⟩) hwQ _).fresh (p := ⟨Q, 8, none⟩) hwQ _).fresh (p := ⟨Q, 6, none⟩) hwQ _
  have HWQ := Lib.hid hwQ
  obtain ⟨W5, hW5⟩ : ∃ W5, (((W4.setCell ⟨Q, 5, none⟩ (.int .i64 wd)).setCell ⟨Q, 8, none⟩ (.bool sw)).setCell ⟨Q, 6, none⟩ (.int .i64 (-1))) = W5 := ⟨_, rfl⟩
  rw [hW5] at q3 r5 f5 o5 ⊢
  have HP5 := Lib.hid q3
  have HR5 := Lib.hid r5
  have HF6 := Lib.hid f5
  have HO6 := Lib.hid o5
  clear hW5 q1 q2 q3 r5 f5 o5 HP4 HF5 HO5 HR4 hwQ
  refine (CTk.out _ HR5.out).mono ?_
  rintro e W6 ⟨rfl, r6, o6⟩
  have HR6 := Lib.hid r6
  have HP6 := Lib.hid (o6.five HP5.out (by simp; exact n2))
  have HF7 := Lib.hid (o6.five HF6.out (by simp; exact n6))
  have HO7 := Lib.hid (HO6.out.then o6 (fun x hx => Or.inl hx))
  clear r6 o6 HP5 HR5 HF6 HO6 CTk
  have fin : ∀ (W8 : World), Five W8 Q #[.bool b0, .bool b1, .bool b2, .bool b3, .bool b4, .int .i64 wd, .int .i64 pr, .int .u8 0, .bool sw, .bool sp, .int .i64 0] 96 → Rdr W8 g S k3 → Five W8 B zc 96 → Out [g] w W8 → True := fun _ _ _ _ _ => trivial
  clear fin
  by_cases hdot : atB S k2 = 46
  · have hk1 : k2 + 1 ≤ S.size := atB_size (by omega)
    have hpr : amt S (k2 + 1) = (pr, sp, k3) := by have h := H3.out; unfold prAt at h; rw [if_pos hdot] at h; exact h
    have r6 := HR6.out
    rw [if_pos hdot] at r6
    have cA2 := CA2.out W6 hk1 r6
    rw [hpr] at cA2
    have CA3 := Lib.hid cA2
    clear hpr r6 cA2 CA2 hk1
    have hdd : decide (atB S k2 = 46) = true := decide_eq_true hdot
    clear hdot
    go_wp2_with fail
    refine CA3.out.mono ?_
    rintro e W7 ⟨rfl, r7, o7⟩
    have HP7 := Lib.hid (o7.five HP6.out (by simp; exact n2))
    have HF8 := Lib.hid (o7.five HF7.out (by simp; exact n6))
    have HO8 := Lib.hid (HO7.out.then o7 (fun x hx => Or.inl hx))
    have HR7 := Lib.hid r7
    clear r7 o7 CA3 HP6 HF7 HO7 HR6 hdd
    have d6 := HP7.out.fro 6
    have d9 := HP7.out.fro 9
    have c6 := HP7.out.cell 6
    have c9 := HP7.out.cell 9
    go_wp2_with fail
    clear c6 c9 d6 d9
    have hwQ8 : w.heap.size ≤ Q := HWQ.out
    have q8 : Five (W7.setCell ⟨Q, 6, none⟩ (.int .i64 pr)) Q #[.bool b0, .bool b1, .bool b2, .bool b3, .bool b4, .int .i64 wd, .int .i64 pr, .int .u8 0, .bool sw, .bool false, .int .i64 0] 96 := HP7.out.set (j := 6) (u := .int .i64 pr)
    have q9 : Five ((W7.setCell ⟨Q, 6, none⟩ (.int .i64 pr)).setCell ⟨Q, 9, none⟩ (.bool sp)) Q #[.bool b0, .bool b1, .bool b2, .bool b3, .bool b4, .int .i64 wd, .int .i64 pr, .int .u8 0, .bool sw, .bool sp, .int .i64 0] 96 := q8.set (j := 9) (u := .bool sp)
    have HR8 := Lib.hid (show Rdr ((W7.setCell ⟨Q, 6, none⟩ (.int .i64 pr)).setCell ⟨Q, 9, none⟩ (.bool sp)) g S k3 from (HR7.out.other (j := 6) (u := .int .i64 pr) n1).other (j := 9) (u := .bool sp) n1)
    have HF9 := Lib.hid (show Five ((W7.setCell ⟨Q, 6, none⟩ (.int .i64 pr)).setCell ⟨Q, 9, none⟩ (.bool sp)) B zc 96 from (HF8.out.other (j := 6) (u := .int .i64 pr) n3).other (j := 9) (u := .bool sp) n3)
    have HO9 := Lib.hid ((HO8.out.fresh (p := ⟨Q, 6, none⟩) hwQ8 (.int .i64 pr)).fresh (p := ⟨Q, 9, none⟩) hwQ8 (.bool sp))
    have HP8 := Lib.hid q9
    clear q8 q9 HP7 HF8 HO8 HR7 hwQ8
    obtain ⟨W8, hW8⟩ : ∃ W8, ((W7.setCell ⟨Q, 6, none⟩ (.int .i64 pr)).setCell ⟨Q, 9, none⟩ (.bool sp)) = W8 := ⟨_, rfl⟩
    rw [hW8] at HR8 HF9 HO9 HP8 ⊢
    clear hW8
    have hwQ : w.heap.size ≤ Q := HWQ.out
    refine (CPk.out _ HR8.out).mono ?_
    rintro e W9 ⟨rfl, n, rfl⟩
    have d7 := (HP8.out.drew n).fro 7
    have c7 := (HP8.out.drew n).cell 7
    go_wp2_with fail
    clear c7 d7
    have q10 : Five ((W8.drewN n).setCell ⟨Q, 7, none⟩ (.int .u8 (x4 : Int))) Q #[.bool b0, .bool b1, .bool b2, .bool b3, .bool b4, .int .i64 wd, .int .i64 pr, .int .u8 (x4 : Int), .bool sw, .bool sp, .int .i64 0] 96 := (HP8.out.drew n).set (j := 7) (u := .int .u8 (x4 : Int))
    have r10 : Rdr ((W8.drewN n).setCell ⟨Q, 7, none⟩ (.int .u8 (x4 : Int))) g S k3 := (HR8.out.drew n).other (j := 7) (u := .int .u8 (x4 : Int)) n1
    have f10 : Five ((W8.drewN n).setCell ⟨Q, 7, none⟩ (.int .u8 (x4 : Int))) B zc 96 := (HF9.out.drew n).other (j := 7) (u := .int .u8 (x4 : Int)) n3
    have o10 : Out [g] w ((W8.drewN n).setCell ⟨Q, 7, none⟩ (.int .u8 (x4 : Int))) := (HO9.out.drew n).fresh (p := ⟨Q, 7, none⟩) hwQ _
    obtain ⟨W10, hW10⟩ : ∃ W10, ((W8.drewN n).setCell ⟨Q, 7, none⟩ (.int .u8 (x4 : Int))) = W10 := ⟨_, rfl⟩
    rw [hW10] at q10 r10 f10 o10 ⊢
    have HP10 := Lib.hid q10
    have HR10 := Lib.hid r10
    have HF10 := Lib.hid f10
    have HO10 := Lib.hid o10
    clear hW10 q10 r10 f10 o10 HP8 HR8 HF9 HO9 CPk
    refine (CV.out _).mono ?_
    rintro e w' ⟨rfl, rfl⟩
    cases v with
    | false =>
      obtain ⟨⟨c0, c1, c2, c3, c4, c5, c6, c7, c8, c9, c10⟩, d0, d1, d2, d3, d4, d5, d6, d7, d8, d9, d10⟩ := HF10.out.eleven
      go_wp2_with fail
      clear c0 c1 c2 c3 c4 c5 c6 c7 c8 c9 c10 d0 d1 d2 d3 d4 d5 d6 d7 d8 d9 d10
      obtain ⟨z, hz⟩ := end11 (.bool false) (.bool false) (.bool false) (.bool false) (.bool false) (.int .i64 0) (.int .i64 0) (.int .u8 0) (.bool false) (.bool false) (.int .i64 0) HF10.out HO10.out (Nat.le_of_eq HB.out)
      obtain ⟨⟨c0, c1, c2, c3, c4, c5, c6, c7, c8, c9, c10⟩, -⟩ := z.eleven
      exact bodyPost_ret (v := .tuple #[.agg #[.bool false, .bool false, .bool false, .bool false, .bool false, .int .i64 0, .int .i64 0, .int .u8 0, .bool false, .bool false, .int .i64 0], .bool false]) (by simp [results, Tryz.results142, go_sem, c0, c1, c2, c3, c4, c5, c6, c7, c8, c9, c10]) rfl (by first | exact ⟨rfl, hz⟩ | exact ⟨rfl, (fun h => by cases h), hz⟩)
    | true =>
      have hk3s : k3 ≤ S.size := HK3.out.2
      have hw : wrap64 ((k3 : Int) + 1) = ((k3 + 1 : Nat) : Int) := by unfold wrap64; omega
      have e1 := HR10.out.cell 1
      have e2 := HR10.out.fro 1
      have e3 := HP10.out.cell 10
      have e4 := HP10.out.fro 10
      obtain ⟨⟨c0, c1, c2, c3, c4, c5, c6, c7, c8, c9, -⟩, -⟩ := HP10.out.eleven
      obtain ⟨⟨h0, h1, h2, h3, h4, h5, h6, h7, h8, h9, h10⟩, d0, d1, d2, d3, d4, d5, d6, d7, d8, d9, d10⟩ := HF10.out.eleven
      go_wp2_with fail
      clear c0 c1 c2 c3 c4 c5 c6 c7 c8 c9 e1 e2 e3 e4 h0 h1 h2 h3 h4 h5 h6 h7 h8 h9 h10 d0 d1 d2 d3 d4 d5 d6 d7 d8 d9 d10
      have f11 : Five ((W10.setCell ⟨g, 1, none⟩ (.int .i64 ((k3 : Int) + 1))).setCell ⟨Q, 10, none⟩ (.int .i64 ((k3 : Int) + 1))) B zc 96 := (HF10.out.other (j := 1) (u := .int .i64 ((k3 + 1 : Nat) : Int)) n6).other (j := 10) (u := .int .i64 ((k3 + 1 : Nat) : Int)) n3
      have o11 : Out [g] w ((W10.setCell ⟨g, 1, none⟩ (.int .i64 ((k3 : Int) + 1))).setCell ⟨Q, 10, none⟩ (.int .i64 ((k3 : Int) + 1))) := (HO10.out.set (p := ⟨g, 1, none⟩) (by simp) _).fresh (p := ⟨Q, 10, none⟩) hwQ _
      have r11 : Rdr ((W10.setCell ⟨g, 1, none⟩ (.int .i64 ((k3 : Int) + 1))).setCell ⟨Q, 10, none⟩ (.int .i64 ((k3 : Int) + 1))) g S (k3 + 1) := (HR10.out.step (k3 + 1)).other (j := 10) (u := .int .i64 ((k3 + 1 : Nat) : Int)) n1
      obtain ⟨z, hz⟩ := end11 (.bool b0) (.bool b1) (.bool b2) (.bool b3) (.bool b4) (.int .i64 wd) (.int .i64 pr) (.int .u8 (x4 : Int)) (.bool sw) (.bool sp) (.int .i64 ((k3 : Int) + 1)) f11 o11 (Nat.le_of_eq HB.out)
      have r12 := r11.eleven_off (.bool b0) (.bool b1) (.bool b2) (.bool b3) (.bool b4) (.int .i64 wd) (.int .i64 pr) (.int .u8 (x4 : Int)) (.bool sw) (.bool sp) (.int .i64 ((k3 : Int) + 1)) n5
      have r12 : Rdr _ g S (k3 + 1) := r12
      obtain ⟨⟨c0, c1, c2, c3, c4, c5, c6, c7, c8, c9, c10⟩, -⟩ := z.eleven
      exact bodyPost_ret (v := .tuple #[.agg #[.bool b0, .bool b1, .bool b2, .bool b3, .bool b4, .int .i64 wd, .int .i64 pr, .int .u8 (x4 : Int), .bool sw, .bool sp, .int .i64 ((k3 : Int) + 1)], .bool true]) (by simp [results, Tryz.results142, go_sem, c0, c1, c2, c3, c4, c5, c6, c7, c8, c9, c10]) rfl (by first | exact ⟨rfl, r12, hz⟩ | exact ⟨rfl, (fun _ => r12), hz⟩)
  · have h3 := H3.out
    unfold prAt at h3
    rw [if_neg hdot] at h3
    obtain ⟨rfl, rfl, rfl⟩ : (-1 : Int) = pr ∧ false = sp ∧ k2 = k3 := by simpa using h3
    have r6 := HR6.out
    rw [if_neg hdot] at r6
    have HR8 := Lib.hid r6
    have hdd : decide (atB S k2 = 46) = false := decide_eq_false hdot
    obtain ⟨W8, hW8⟩ : ∃ W8, W6 = W8 := ⟨_, rfl⟩
    subst hW8
    have HP8 := HP6
    have HF9 := HF7
    have HO9 := HO7
    clear r6 h3 hdot HP6 HF7 HO7 HR6 CA2 H3
    go_wp2_with fail
    have hwQ : w.heap.size ≤ Q := HWQ.out
    refine (CPk.out _ HR8.out).mono ?_
    rintro e W9 ⟨rfl, n, rfl⟩
    have d7 := (HP8.out.drew n).fro 7
    have c7 := (HP8.out.drew n).cell 7
    go_wp2_with fail
    clear c7 d7
    have q10 : Five ((W6.drewN n).setCell ⟨Q, 7, none⟩ (.int .u8 (x4 : Int))) Q #[.bool b0, .bool b1, .bool b2, .bool b3, .bool b4, .int .i64 wd, .int .i64 (-1), .int .u8 (x4 : Int), .bool sw, .bool false, .int .i64 0] 96 := (HP8.out.drew n).set (j := 7) (u := .int .u8 (x4 : Int))
    have r10 : Rdr ((W6.drewN n).setCell ⟨Q, 7, none⟩ (.int .u8 (x4 : Int))) g S k2 := (HR8.out.drew n).other (j := 7) (u := .int .u8 (x4 : Int)) n1
    have f10 : Five ((W6.drewN n).setCell ⟨Q, 7, none⟩ (.int .u8 (x4 : Int))) B zc 96 := (HF9.out.drew n).other (j := 7) (u := .int .u8 (x4 : Int)) n3
    have o10 : Out [g] w ((W6.drewN n).setCell ⟨Q, 7, none⟩ (.int .u8 (x4 : Int))) := (HO9.out.drew n).fresh (p := ⟨Q, 7, none⟩) hwQ _
    obtain ⟨W10, hW10⟩ : ∃ W10, ((W6.drewN n).setCell ⟨Q, 7, none⟩ (.int .u8 (x4 : Int))) = W10 := ⟨_, rfl⟩
    rw [hW10] at q10 r10 f10 o10 ⊢
    have HP10 := Lib.hid q10
    have HR10 := Lib.hid r10
    have HF10 := Lib.hid f10
    have HO10 := Lib.hid o10
    clear hW10 q10 r10 f10 o10 HP8 HR8 HF9 HO9 CPk
    refine (CV.out _).mono ?_
    rintro e w' ⟨rfl, rfl⟩
    cases v with
    | false =>
      obtain ⟨⟨c0, c1, c2, c3, c4, c5, c6, c7, c8, c9, c10⟩, d0, d1, d2, d3, d4, d5, d6, d7, d8, d9, d10⟩ := HF10.out.eleven
      go_wp2_with fail
      clear c0 c1 c2 c3 c4 c5 c6 c7 c8 c9 c10 d0 d1 d2 d3 d4 d5 d6 d7 d8 d9 d10
      obtain ⟨z, hz⟩ := end11 (.bool false) (.bool false) (.bool false) (.bool false) (.bool false) (.int .i64 0) (.int .i64 0) (.int .u8 0) (.bool false) (.bool false) (.int .i64 0) HF10.out HO10.out (Nat.le_of_eq HB.out)
      obtain ⟨⟨c0, c1, c2, c3, c4, c5, c6, c7, c8, c9, c10⟩, -⟩ := z.eleven
      exact bodyPost_ret (v := .tuple #[.agg #[.bool false, .bool false, .bool false, .bool false, .bool false, .int .i64 0, .int .i64 0, .int .u8 0, .bool false, .bool false, .int .i64 0], .bool false]) (by simp [results, Tryz.results142, go_sem, c0, c1, c2, c3, c4, c5, c6, c7, c8, c9, c10]) rfl (by first | exact ⟨rfl, hz⟩ | exact ⟨rfl, (fun h => by cases h), hz⟩)
    | true =>
      have hk2s : k2 ≤ S.size := HK3.out.2
      have hw : wrap64 ((k2 : Int) + 1) = ((k2 + 1 : Nat) : Int) := by unfold wrap64; omega
      have e1 := HR10.out.cell 1
      have e2 := HR10.out.fro 1
      have e3 := HP10.out.cell 10
      have e4 := HP10.out.fro 10
      obtain ⟨⟨c0, c1, c2, c3, c4, c5, c6, c7, c8, c9, -⟩, -⟩ := HP10.out.eleven
      obtain ⟨⟨h0, h1, h2, h3, h4, h5, h6, h7, h8, h9, h10⟩, d0, d1, d2, d3, d4, d5, d6, d7, d8, d9, d10⟩ := HF10.out.eleven
      go_wp2_with fail
      clear c0 c1 c2 c3 c4 c5 c6 c7 c8 c9 e1 e2 e3 e4 h0 h1 h2 h3 h4 h5 h6 h7 h8 h9 h10 d0 d1 d2 d3 d4 d5 d6 d7 d8 d9 d10
      have f11 : Five ((W10.setCell ⟨g, 1, none⟩ (.int .i64 ((k2 : Int) + 1))).setCell ⟨Q, 10, none⟩ (.int .i64 ((k2 : Int) + 1))) B zc 96 := (HF10.out.other (j := 1) (u := .int .i64 ((k2 + 1 : Nat) : Int)) n6).other (j := 10) (u := .int .i64 ((k2 + 1 : Nat) : Int)) n3
      have o11 : Out [g] w ((W10.setCell ⟨g, 1, none⟩ (.int .i64 ((k2 : Int) + 1))).setCell ⟨Q, 10, none⟩ (.int .i64 ((k2 : Int) + 1))) := (HO10.out.set (p := ⟨g, 1, none⟩) (by simp) _).fresh (p := ⟨Q, 10, none⟩) hwQ _
      have r11 : Rdr ((W10.setCell ⟨g, 1, none⟩ (.int .i64 ((k2 : Int) + 1))).setCell ⟨Q, 10, none⟩ (.int .i64 ((k2 : Int) + 1))) g S (k2 + 1) := (HR10.out.step (k2 + 1)).other (j := 10) (u := .int .i64 ((k2 + 1 : Nat) : Int)) n1
      obtain ⟨z, hz⟩ := end11 (.bool b0) (.bool b1) (.bool b2) (.bool b3) (.bool b4) (.int .i64 wd) (.int .i64 (-1)) (.int .u8 (x4 : Int)) (.bool sw) (.bool false) (.int .i64 ((k2 : Int) + 1)) f11 o11 (Nat.le_of_eq HB.out)
      have r12 := r11.eleven_off (.bool b0) (.bool b1) (.bool b2) (.bool b3) (.bool b4) (.int .i64 wd) (.int .i64 (-1)) (.int .u8 (x4 : Int)) (.bool sw) (.bool false) (.int .i64 ((k2 : Int) + 1)) n5
      have r12 : Rdr _ g S (k2 + 1) := r12
      obtain ⟨⟨c0, c1, c2, c3, c4, c5, c6, c7, c8, c9, c10⟩, -⟩ := z.eleven
      exact bodyPost_ret (v := .tuple #[.agg #[.bool b0, .bool b1, .bool b2, .bool b3, .bool b4, .int .i64 wd, .int .i64 (-1), .int .u8 (x4 : Int), .bool sw, .bool false, .int .i64 ((k2 : Int) + 1)], .bool true]) (by simp [results, Tryz.results142, go_sem, c0, c1, c2, c3, c4, c5, c6, c7, c8, c9, c10]) rfl (by first | exact ⟨rfl, r12, hz⟩ | exact ⟨rfl, (fun _ => r12), hz⟩)
end Go.Proofs.YtddfigbpckhfbaaGreatDoor
